import Derived.Test.YtihgojcfpnhelaaGreatDoorLd
import Derived.Test.YtihgojcfpnhelaaGreatDoorF
import Derived.Deep.QuietTactic
import Derived.BigQuiet
import Derived.Deep.RegionWith
set_option linter.unusedVariables false
set_option linter.unusedSimpArgs false
namespace Go.Proofs.YtihgojcfpnhelaaGreatDoor
open Go.RowKit
attribute [local go_sem] idx_eq app_eq

/-- The feed that lies in block b: what is left of it. -/
def FeedAt (w : World) (b : Nat) (r : By) : Prop :=
  ∃ (s : By) (k : Nat), w.heap[b]? = some (.cells #[.string ⟨s.toArray⟩, .int .i64 (k : Int)] 28 (0, 0)) ∧ k ≤ s.length ∧ s.drop k = r ∧ s.length ≤ 9223372036854775807

theorem FeedAt.below {w w' : World} {b B : Nat} {r : By} (h : FeedAt w b r) (hb : Below B w w') (hB : b < B) : FeedAt w' b r := by
  obtain ⟨s, k, h1, h2⟩ := h
  exact ⟨s, k, (hb.block b hB).trans h1, h2⟩

/-- Of what was there, block b alone may have turned. -/
structure KeepB (b : Nat) (w w' : World) : Prop where
  below : Below b w w'
  other : ∀ i, i < w.heap.size → i ≠ b → w'.heap[i]? = w.heap[i]?

theorem KeepB.refl (b : Nat) (w : World) : KeepB b w w := ⟨Below.refl _ _, fun _ _ _ => rfl⟩
theorem KeepB.trans {b : Nat} {w w' w'' : World} (h : KeepB b w w') (k : KeepB b w' w'') : KeepB b w w'' :=
  ⟨h.below.trans k.below, fun i hi hb => (k.other i (Nat.lt_of_lt_of_le hi h.below.size) hb).trans (h.other i hi hb)⟩
theorem KeepB.alloc {b : Nat} {w w' : World} (h : KeepB b w w') (hb : b < w'.heap.size) (o : Obj) : KeepB b w (w'.alloc o) :=
  h.trans ⟨(Below.refl _ _).alloc (Nat.le_of_lt hb) _, fun _ hi _ => Below.heap_alloc _ _ _ hi⟩
theorem KeepB.drewN {b : Nat} {w w' : World} (h : KeepB b w w') (n : Nat) : KeepB b w (w'.drewN n) :=
  h.trans ⟨below_drewN (Below.refl _ _) n, fun _ _ _ => rfl⟩
theorem KeepB.setCell {b : Nat} {w w' : World} (h : KeepB b w w') (j : Nat) (u : Value) : KeepB b w (w'.setCell ⟨b, j, none⟩ u) :=
  h.trans ⟨(Below.refl b w').setCell (p := ⟨b, j, none⟩) (Nat.le_refl _) _, fun _ _ hb => Below.heap_setCell _ _ _ _ hb⟩
theorem KeepB.cell {b : Nat} {w w' : World} (h : KeepB b w w') {p : Addr} (hp : p.block < w.heap.size) (hb : p.block ≠ b) : w'.cell? p = w.cell? p := World.cell?_of_block (w := w) (h.other p.block hp hb)

theorem KeepB.lit {b : Nat} {w w' : World} {cs : Array Value} {T : TypeId} (h : KeepB b (w.alloc (.cells cs T)) w') (hb : b < w.heap.size) (j : Nat) : w'.cell? ⟨w.heap.size, j, none⟩ = cs[j]? := by
  rw [h.cell (p := ⟨w.heap.size, j, none⟩) (by simp) (by simp; omega), World.cell?_alloc_new]

theorem KeepB.litD {b : Nat} {w w' : World} {cs : Array Value} {T : TypeId} (h : KeepB b (w.alloc (.cells cs T)).drew w') (hb : b < w.heap.size) (j : Nat) : w'.cell? ⟨w.heap.size, j, none⟩ = cs[j]? :=
  KeepB.lit (w := w) (T := T) (⟨(below_drewN (Below.refl _ _) 1).trans h.below, h.other⟩ : KeepB b (w.alloc (.cells cs T)) w') hb j

theorem FeedAt.alloc {w : World} {b : Nat} {r : By} (h : FeedAt w b r) (o : Obj) : FeedAt (w.alloc o) b r := by
  obtain ⟨s, k, h1, h2⟩ := h
  exact ⟨s, k, (Below.heap_alloc _ _ _ (Array.getElem?_eq_some_iff.1 h1).1).trans h1, h2⟩

theorem FeedAt.size {w : World} {b : Nat} {r : By} (h : FeedAt w b r) : b < w.heap.size := by
  obtain ⟨s, k, h1, _⟩ := h
  exact (Array.getElem?_eq_some_iff.1 h1).1

theorem setBlk {w : World} {b : Nat} {cs : Array Value} {t : TypeId} {fr : Nat × Nat} (h : w.heap[b]? = some (.cells cs t fr)) (j : Nat) (u : Value) : (w.setCell ⟨b, j, none⟩ u).heap[b]? = some (.cells (cs.setIfInBounds j u) t fr) := by
  simp [World.setCell, Array.getElem?_modify, h]

set_option maxRecDepth 100000 in
set_option maxHeartbeats 400000 in
theorem keep_next (b : Nat) (r : By) (n : Nat) (w : World) (hn : 0 < n) (hn2 : n ≤ 1000) (h : FeedAt w b r) :
    Calls Tryz.prog 16 #[.pointer (some ⟨b, 0, none⟩), .int .i64 (n : Int)] w fun e w' => e = .returned (.int .i64 ((nextB r n).1 : Int)) ∧ FeedAt w' b (nextB r n).2 ∧ KeepB b w w' := by
  obtain ⟨s, k, hb, hk, hd, hs⟩ := h
  have c0 : w.cell? ⟨b, 0, none⟩ = some (.string ⟨s.toArray⟩) := by rw [cell_of_row w b 0 _ _ _ hb]; rfl
  have c1 : w.cell? ⟨b, 1, none⟩ = some (.int .i64 (k : Int)) := by rw [cell_of_row w b 1 _ _ _ hb]; rfl
  have fz : w.frozen? ⟨b, 1, none⟩ = false := by simp [World.frozen?, hb]
  by_cases hlt : k < s.length
  · rw [List.drop_eq_getElem_cons hlt] at hd
    subst hd
    have HB := toHid hb
    have HF := toHid (show FeedAt (w.setCell ⟨b, 1, none⟩ (.int .i64 ((k : Int) + 1))) b (s.drop (k + 1)) from ⟨s, k + 1, by rw [setBlk hb]; rfl, hlt, rfl, hs⟩)
    have hn0 : (n : Int) ≠ 0 := by omega
    have hk0 : (0 : Int) ≤ (k : Int) := by omega
    have hk1 : (k : Int) < (s.length : Int) := by omega
    clear hb
    go_enter Tryz.func16, Tryz.ntmps16
    go_wp2
    go_quiet (fail)
    go_wp2
    go_quiet (fail)
    go_wp2
    go_ret
    refine ⟨?_, HF.out, ((KeepB.refl b w).drewN _).setCell 1 _⟩
    have hw : wrap64 (s[k].toNat : Int) = (s[k].toNat : Int) := by have := s[k].toNat_lt; unfold wrap64; omega
    show Ending.returned (.int .i64 ((wrap64 (s[k].toNat : Int)).tmod (n : Int))) = _
    rw [hw]
    rfl
  · have hd0 : r = [] := by rw [← hd]; exact List.drop_eq_nil_of_le (by omega)
    subst hd0
    have HF := toHid (show FeedAt w b [] from ⟨s, k, hb, hk, hd, hs⟩)
    clear hb hd
    go_enter Tryz.func16, Tryz.ntmps16
    go_wp2
    go_quiet (fail)
    go_wp2
    go_ret
    exact ⟨rfl, HF.out, (KeepB.refl _ _).drewN _⟩

theorem keep_nextZ (b : Nat) (r : By) (z : Int) (n : Nat) (w : World) (h : FeedAt w b r) (hz : z = (n : Int) ∧ 0 < n ∧ n ≤ 1000) :
    Calls Tryz.prog 16 #[.pointer (some ⟨b, 0, none⟩), .int .i64 z] w fun e w' => e = .returned (.int .i64 ((nextB r n).1 : Int)) ∧ FeedAt w' b (nextB r n).2 ∧ KeepB b w w' := by
  obtain ⟨rfl, h1, h2⟩ := hz
  exact keep_next b r n w h1 h2 h

theorem keep_num (n : Nat) (h : n < 100) (w : World) : Calls Tryz.prog 23 #[.int .i64 (n : Int)] w fun e w' => e = .returned (.string ⟨(numB n).toArray⟩) ∧ w = w' := by
  unfold numB
  go_enter Tryz.func23, Tryz.ntmps23
  go_wp2_with (first | (go_at_call 50; refine (Tryz.strconv_Itoa_small n h _).mono ?_; rintro e w' ⟨rfl, rfl⟩))
  go_ret
  exact ⟨rfl, rfl⟩

theorem keep_few (b : Nat) (r : By) (w : World) (h : FeedAt w b r) :
    Calls Tryz.prog 41 #[.pointer (some ⟨b, 0, none⟩)] w fun e w' => e = .returned (.string ⟨(fewB r).1.toArray⟩) ∧ FeedAt w' b (fewB r).2 ∧ KeepB b w w' := by
  unfold fewB
  have hl := nextB_lt r 8 (by decide)
  have hl2 := numB_len (nextB r 8).1 (by omega)
  have H := toHid (keep_nextZ b r 8 8 w h (by decide))
  go_enter Tryz.func41, Tryz.ntmps41
  go_wp2_with (first | (go_at_call 16; refine H.out.mono ?_; rintro e w1 ⟨rfl, hf, hb⟩) | (go_at_call 23; refine (keep_num _ (by omega) _).mono ?_; rintro e w2 ⟨rfl, rfl⟩))
  go_ret
  exact ⟨rfl, hf, hb⟩

end Go.Proofs.YtihgojcfpnhelaaGreatDoor
namespace Go.Proofs.YtihgojcfpnhelaaGreatDoor
open Go.RowKit
attribute [local go_sem] idx_eq app_eq

def RulePost (b : Nat) (p : By × By) (w : World) (e : Ending) (w' : World) : Prop := e = .returned (.string ⟨p.1.toArray⟩) ∧ FeedAt w' b p.2 ∧ KeepB b w w'

set_option maxRecDepth 100000 in
set_option maxHeartbeats 1000000 in
theorem rule0_num (b : Nat) (r : By) (w : World) (h0 : FeedAt w b r) (hx : (nextB r 5).1 = 0) :
    Calls Tryz.prog 15 #[.pointer (some ⟨b, 0, none⟩), .int .i64 0] w (RulePost b (numB (nextB (nextB r 5).2 10).1, (nextB (nextB r 5).2 10).2) w) := by
  unfold RulePost
  have hl := nextB_lt (nextB r 5).2 10 (by decide)
  have HX := toHid hx
  clear hx
  go_enter Tryz.func15, Tryz.ntmps15
  go_wp2_with (first | (go_at_call 16; refine (keep_nextZ b _ 5 5 w h0 (by decide)).mono ?_; rintro e w1 ⟨rfl, hf1, hb1⟩; rw [HX.out]; refine Hid.out ?_))
  refine toHid ?_
  go_wp2_with (first | (go_at_call 16; refine (keep_nextZ b _ 10 10 w1 hf1 (by decide)).mono ?_; rintro e w2 ⟨rfl, hf2, hb2⟩; refine Hid.out ?_))
  refine toHid ?_
  go_wp2_with (first | (go_at_call 23; refine (keep_num _ (by omega) _).mono ?_; rintro e w9 ⟨rfl, rfl⟩))
  go_ret
  exact ⟨rfl, hf2, hb1.trans hb2⟩

set_option maxRecDepth 100000 in
set_option maxHeartbeats 1000000 in
theorem rule0_word0 (b : Nat) (r : By) (w : World) (h0 : FeedAt w b r) (hx : (nextB r 5).1 = 1) (hy : (nextB (nextB r 5).2 2).1 = 0) :
    Calls Tryz.prog 15 #[.pointer (some ⟨b, 0, none⟩), .int .i64 0] w (RulePost b ([116, 114, 117, 101], (nextB (nextB r 5).2 2).2) w) := by
  unfold RulePost
  have HX := toHid hx
  have HY := toHid hy
  clear hx hy
  go_enter Tryz.func15, Tryz.ntmps15
  go_wp2_with (first | (go_at_call 16; refine (keep_nextZ b _ 5 5 w h0 (by decide)).mono ?_; rintro e w1 ⟨rfl, hf1, hb1⟩; rw [HX.out]; refine Hid.out ?_))
  refine toHid ?_
  go_wp2_with (first | (go_at_call 16; refine (keep_nextZ b _ 2 2 _ (hf1.alloc _) (by decide)).mono ?_; rintro e w2 ⟨rfl, hf2, hb2⟩; rw [HY.out]; have hs1 := hf1.size; have hc : w2.cell? ⟨w1.heap.size, 0, none⟩ = some (.string ⟨#[116, 114, 117, 101]⟩) := (hb2.cell (p := ⟨w1.heap.size, 0, none⟩) (by simp) (by simp; omega)).trans (by rw [World.cell?_alloc_new]; rfl); refine Hid.out ?_))
  refine toHid ?_
  go_wp2_with (first | (fail))
  go_ret
  exact ⟨rfl, hf2, (hb1.alloc hs1 _).trans hb2⟩

set_option maxRecDepth 100000 in
set_option maxHeartbeats 1000000 in
theorem rule0_word1 (b : Nat) (r : By) (w : World) (h0 : FeedAt w b r) (hx : (nextB r 5).1 = 1) (hy : (nextB (nextB r 5).2 2).1 = 1) :
    Calls Tryz.prog 15 #[.pointer (some ⟨b, 0, none⟩), .int .i64 0] w (RulePost b ([102, 97, 108, 115, 101], (nextB (nextB r 5).2 2).2) w) := by
  unfold RulePost
  have HX := toHid hx
  have HY := toHid hy
  clear hx hy
  go_enter Tryz.func15, Tryz.ntmps15
  go_wp2_with (first | (go_at_call 16; refine (keep_nextZ b _ 5 5 w h0 (by decide)).mono ?_; rintro e w1 ⟨rfl, hf1, hb1⟩; rw [HX.out]; refine Hid.out ?_))
  refine toHid ?_
  go_wp2_with (first | (go_at_call 16; refine (keep_nextZ b _ 2 2 _ (hf1.alloc _) (by decide)).mono ?_; rintro e w2 ⟨rfl, hf2, hb2⟩; rw [HY.out]; have hs1 := hf1.size; have hc : w2.cell? ⟨w1.heap.size, 1, none⟩ = some (.string ⟨#[102, 97, 108, 115, 101]⟩) := (hb2.cell (p := ⟨w1.heap.size, 1, none⟩) (by simp) (by simp; omega)).trans (by rw [World.cell?_alloc_new]; rfl); refine Hid.out ?_))
  refine toHid ?_
  go_wp2_with (first | (fail))
  go_ret
  exact ⟨rfl, hf2, (hb1.alloc hs1 _).trans hb2⟩

set_option maxRecDepth 100000 in
set_option maxHeartbeats 1000000 in
theorem rule0_few (b : Nat) (r : By) (w : World) (h0 : FeedAt w b r) (hx : (nextB r 5).1 ≠ 0) (hx1 : (nextB r 5).1 ≠ 1) :
    Calls Tryz.prog 15 #[.pointer (some ⟨b, 0, none⟩), .int .i64 0] w (RulePost b (fewB (nextB r 5).2) w) := by
  unfold RulePost
  have hb0 : (((nextB r 5).1 : Int) == 0) = false := by simp; omega
  have hb1' : (((nextB r 5).1 : Int) == 1) = false := by simp; omega
  go_enter Tryz.func15, Tryz.ntmps15
  go_wp2_with (first | (go_at_call 16; refine (keep_nextZ b _ 5 5 w h0 (by decide)).mono ?_; rintro e w1 ⟨rfl, hf1, hb1⟩; refine Hid.out ?_))
  refine toHid ?_
  go_wp2_with (first | (go_at_call 41; refine (keep_few b _ w1 hf1).mono ?_; rintro e w2 ⟨rfl, hf2, hb2⟩))
  go_ret
  exact ⟨rfl, hf2, hb1.trans hb2⟩

set_option maxRecDepth 100000 in
set_option maxHeartbeats 2000000 in
theorem ruleS_not (b d : Nat) (r : By) (z : Int) (w : World) (h0 : FeedAt w b r) (hz : z = (d : Int) + 1) (hd : d ≤ 3)
    (hi : ∀ r z w, FeedAt w b r → z = (d : Int) → Calls Tryz.prog 15 #[.pointer (some ⟨b, 0, none⟩), .int .i64 z] w (RulePost b (ruleB d r) w)) (hx : (nextB (ruleB d r).2 8).1 = 1) :
    Calls Tryz.prog 15 #[.pointer (some ⟨b, 0, none⟩), .int .i64 z] w (RulePost b ([110, 111, 116, 32, 40] ++ (ruleB d r).1 ++ [41], (nextB (ruleB d r).2 8).2) w) := by
  unfold RulePost at *
  have HI := toHid hi
  clear hi
  have hz0 : (z == 0) = false := by simp; omega
  have la : (ruleB d r).1.length ≤ 300 := by have := ruleB_len d r; have : 2 ^ d ≤ 2 ^ 3 := Nat.pow_le_pow_right (by decide) hd; omega
  have lr : ∀ x, (ruleB d x).1.length ≤ 300 := fun x => by have := ruleB_len d x; have : 2 ^ d ≤ 2 ^ 3 := Nat.pow_le_pow_right (by decide) hd; omega
  have HX := toHid hx
  clear hx
  clear lr
  go_enter Tryz.func15, Tryz.ntmps15
  go_wp2_with (first | (go_at_call 15; refine (HI.out _ _ w h0 (by omega)).mono ?_; rintro e w1 ⟨rfl, hf1, hb1⟩; refine Hid.out ?_))
  refine toHid ?_
  go_wp2_with (first | (go_at_call 16; refine (keep_nextZ b _ 8 8 w1 hf1 (by decide)).mono ?_; rintro e w2 ⟨rfl, hf2, hb2⟩; rw [HX.out]; refine Hid.out ?_))
  refine toHid ?_
  go_wp2_with (first | (fail))
  go_ret
  refine ⟨?_, hf2, hb1.trans hb2⟩
  first | rfl | (simp; done)

set_option maxRecDepth 100000 in
set_option maxHeartbeats 2000000 in
theorem ruleS_neg (b d : Nat) (r : By) (z : Int) (w : World) (h0 : FeedAt w b r) (hz : z = (d : Int) + 1) (hd : d ≤ 3)
    (hi : ∀ r z w, FeedAt w b r → z = (d : Int) → Calls Tryz.prog 15 #[.pointer (some ⟨b, 0, none⟩), .int .i64 z] w (RulePost b (ruleB d r) w)) (hx : (nextB (ruleB d r).2 8).1 = 2) :
    Calls Tryz.prog 15 #[.pointer (some ⟨b, 0, none⟩), .int .i64 z] w (RulePost b ([45] ++ (fewB (nextB (ruleB d r).2 8).2).1, (fewB (nextB (ruleB d r).2 8).2).2) w) := by
  unfold RulePost at *
  have HI := toHid hi
  clear hi
  have hz0 : (z == 0) = false := by simp; omega
  have la : (ruleB d r).1.length ≤ 300 := by have := ruleB_len d r; have : 2 ^ d ≤ 2 ^ 3 := Nat.pow_le_pow_right (by decide) hd; omega
  have lr : ∀ x, (ruleB d x).1.length ≤ 300 := fun x => by have := ruleB_len d x; have : 2 ^ d ≤ 2 ^ 3 := Nat.pow_le_pow_right (by decide) hd; omega
  have HX := toHid hx
  clear hx
  clear lr
  have lf := fewB_len (nextB (ruleB d r).2 8).2
  go_enter Tryz.func15, Tryz.ntmps15
  go_wp2_with (first | (go_at_call 15; refine (HI.out _ _ w h0 (by omega)).mono ?_; rintro e w1 ⟨rfl, hf1, hb1⟩; refine Hid.out ?_))
  refine toHid ?_
  go_wp2_with (first | (go_at_call 16; refine (keep_nextZ b _ 8 8 w1 hf1 (by decide)).mono ?_; rintro e w2 ⟨rfl, hf2, hb2⟩; rw [HX.out]; refine Hid.out ?_))
  refine toHid ?_
  go_wp2_with (first | (go_at_call 41; refine (keep_few b _ w2 hf2).mono ?_; rintro e w3 ⟨rfl, hf3, hb3⟩))
  go_ret
  refine ⟨?_, hf3, (hb1.trans hb2).trans hb3⟩
  first | rfl | (simp; done)

set_option maxRecDepth 100000 in
set_option maxHeartbeats 2000000 in
theorem ruleS_if (b d : Nat) (r : By) (z : Int) (w : World) (h0 : FeedAt w b r) (hz : z = (d : Int) + 1) (hd : d ≤ 3)
    (hi : ∀ r z w, FeedAt w b r → z = (d : Int) → Calls Tryz.prog 15 #[.pointer (some ⟨b, 0, none⟩), .int .i64 z] w (RulePost b (ruleB d r) w)) (hx : (nextB (ruleB d r).2 8).1 = 0) :
    Calls Tryz.prog 15 #[.pointer (some ⟨b, 0, none⟩), .int .i64 z] w (RulePost b ([105, 102, 40] ++ (ruleB d r).1 ++ [44, 32] ++ (fewB (nextB (ruleB d r).2 8).2).1 ++ [44, 32] ++ (ruleB d (fewB (nextB (ruleB d r).2 8).2).2).1 ++ [41], (ruleB d (fewB (nextB (ruleB d r).2 8).2).2).2) w) := by
  unfold RulePost at *
  have HI := toHid hi
  clear hi
  have hz0 : (z == 0) = false := by simp; omega
  have la : (ruleB d r).1.length ≤ 300 := by have := ruleB_len d r; have : 2 ^ d ≤ 2 ^ 3 := Nat.pow_le_pow_right (by decide) hd; omega
  have lr : ∀ x, (ruleB d x).1.length ≤ 300 := fun x => by have := ruleB_len d x; have : 2 ^ d ≤ 2 ^ 3 := Nat.pow_le_pow_right (by decide) hd; omega
  have HX := toHid hx
  clear hx
  have l2 := lr (fewB (nextB (ruleB d r).2 8).2).2
  clear lr
  have lf := fewB_len (nextB (ruleB d r).2 8).2
  go_enter Tryz.func15, Tryz.ntmps15
  go_wp2_with (first | (go_at_call 15; refine (HI.out _ _ w h0 (by omega)).mono ?_; rintro e w1 ⟨rfl, hf1, hb1⟩; refine Hid.out ?_))
  refine toHid ?_
  go_wp2_with (first | (go_at_call 16; refine (keep_nextZ b _ 8 8 w1 hf1 (by decide)).mono ?_; rintro e w2 ⟨rfl, hf2, hb2⟩; rw [HX.out]; refine Hid.out ?_))
  refine toHid ?_
  go_wp2_with (first | (go_at_call 41; refine (keep_few b _ w2 hf2).mono ?_; rintro e w3 ⟨rfl, hf3, hb3⟩; refine Hid.out ?_))
  refine toHid ?_
  go_wp2_with (first | (go_at_call 15; refine (HI.out _ _ w3 hf3 (by omega)).mono ?_; rintro e w4 ⟨rfl, hf4, hb4⟩))
  go_ret
  refine ⟨?_, hf4, ((hb1.trans hb2).trans hb3).trans hb4⟩
  first | rfl | (simp; done)

end Go.Proofs.YtihgojcfpnhelaaGreatDoor
namespace Go.Proofs.YtihgojcfpnhelaaGreatDoor
open Go.RowKit

/-- What a call that draws from the feed does. -/
def Fd1 (b : Nat) (v : Value) (r r' : By) (f : Nat) (args : Array Value) : Prop := ∀ W, FeedAt W b r → Calls Tryz.prog f args W fun e w' => e = .returned v ∧ FeedAt w' b r' ∧ KeepB b W w'

theorem FeedAt.drew {w : World} {b : Nat} {r : By} (h : FeedAt w b r) : FeedAt w.drew b r := h
theorem KeepB.lt {b : Nat} {w w' : World} (h : KeepB b w w') : w.heap.size ≤ w'.heap.size := h.below.size
theorem KeepB.drew {b : Nat} {w w' : World} (h : KeepB b w w') : KeepB b w w'.drew := ⟨h.below.drew, h.other⟩
theorem KeepB.undrew {b : Nat} {w w' : World} (h : KeepB b w.drew w') : KeepB b w w' := ⟨(below_drewN (Below.refl _ _) 1).trans h.below, h.other⟩

/-- The cells of a block that is not the feed's. -/
def Lit (w : World) (q : Nat) (cs : List Value) : Prop := q < w.heap.size ∧ ∀ j, w.cell? ⟨q, j, none⟩ = cs[j]?

theorem KeepB.litL {b : Nat} {w w' : World} {cs : List Value} {T : TypeId} (h : KeepB b (w.alloc (.cells cs.toArray T)) w') (hb : b < w.heap.size) : Lit w' w.heap.size cs :=
  ⟨by have := h.lt; simp at this; omega, fun j => (h.lit hb j).trans (by simp)⟩
theorem KeepB.litLD {b : Nat} {w w' : World} {cs : List Value} {T : TypeId} (h : KeepB b (w.alloc (.cells cs.toArray T)).drew w') (hb : b < w.heap.size) : Lit w' w.heap.size cs := KeepB.litL (T := T) h.undrew hb
theorem KeepB.two {b : Nat} {w w' : World} {q : Nat} {cs : List Value} (h : KeepB b w w') (hq : Lit w q cs) (hb : q ≠ b) : Lit w' q cs :=
  ⟨Nat.lt_of_lt_of_le hq.1 h.lt, fun j => (h.cell (p := ⟨q, j, none⟩) hq.1 hb).trans (hq.2 j)⟩
end Go.Proofs.YtihgojcfpnhelaaGreatDoor
namespace Go.Proofs.YtihgojcfpnhelaaGreatDoor
open Go.RowKit
attribute [local go_sem] idx_eq app_eq

set_option maxRecDepth 100000 in
set_option maxHeartbeats 8000000 in
theorem ruleS_test0 (b : Nat) (z : Int) (w : World) (sa fx r r1 q q2 q3 : By) (h0 : FeedAt w b r) (hz0 : (z == 0) = false) (la : sa.length ≤ 300) (lf : fx.length ≤ 3)
    (h1 : Fd1 b (.string ⟨sa.toArray⟩) r r1 15 #[.pointer (some ⟨b, 0, none⟩), .int .i64 (wrap64 (z - 1))])
    (h2 : Fd1 b (.int .i64 4) r1 q 16 #[.pointer (some ⟨b, 0, none⟩), .int .i64 8])
    (h3 : Fd1 b (.int .i64 0) q q2 16 #[.pointer (some ⟨b, 0, none⟩), .int .i64 2])
    (h4 : Fd1 b (.string ⟨fx.toArray⟩) q2 q3 41 #[.pointer (some ⟨b, 0, none⟩)]) :
    Calls Tryz.prog 15 #[.pointer (some ⟨b, 0, none⟩), .int .i64 z] w (RulePost b ([40] ++ sa ++ [41, 32] ++ [61] ++ [32] ++ fx, q3) w) := by
  have H1 := toHid h1
  have H2 := toHid h2
  have H3 := toHid h3
  have H4 := toHid h4
  clear h1 h2 h3 h4
  have HPO := toHid (show ∀ W, FeedAt W b q3 → KeepB b w W → RulePost b ([40] ++ sa ++ [41, 32] ++ [61] ++ [32] ++ fx, q3) w (.returned (.string ⟨([40] ++ sa ++ [41, 32] ++ [61] ++ [32] ++ fx).toArray⟩)) W from fun W h1 h2 => ⟨rfl, h1, h2⟩)
  generalize hpo : RulePost b ([40] ++ sa ++ [41, 32] ++ [61] ++ [32] ++ fx, q3) w = PO at *
  go_enter Tryz.func15, Tryz.ntmps15
  go_wp2_with (first | (go_at_call 15; refine (H1.out _ h0).mono ?_; rintro e w1 ⟨rfl, hf1, hb1⟩; refine Hid.out ?_))
  have HB1 := toHid hb1
  clear hb1 H1
  refine toHid ?_
  go_wp2_with (first | (go_at_call 16; refine (H2.out _ hf1).mono ?_; rintro e w2 ⟨rfl, hf2, hb2⟩; refine Hid.out ?_))
  have HB2 := toHid (HB1.out.trans hb2)
  have HF2 := toHid hf2
  have hs2 := hf2.size
  clear hb2 H2 hf1 hf2 HB1
  refine toHid ?_
  go_wp2_with fail
  have hqb : w2.heap.size ≠ b := by omega
  have m0 : ¬ 9223372036854775807 < 1 + sa.length := by omega
  have m1 : ¬ 9223372036854775807 < sa.length + 1 + 2 := by omega
  have m2 : ¬ 9223372036854775807 < sa.length + 2 + 1 + 1 := by omega
  have m3 : ¬ 9223372036854775807 < sa.length + 3 + 1 + 1 := by omega
  have m4 : ¬ 9223372036854775807 < sa.length + 4 + 1 + fx.length := by omega
  clear la lf
  go_region_with (first
      | (go_at_call 16; refine (H3.out _ ?_).mono ?_; (repeat first | with_reducible exact HF2.out | with_reducible refine FeedAt.drew ?_ | with_reducible refine FeedAt.alloc ?_ _); rintro e w3 ⟨rfl, hf3, hb3⟩; have HF3 := toHid hf3; have hs3 := hf3.size; (first | (have ht3 := KeepB.litLD (w := w2) (cs := [.string ⟨#[61]⟩, .string ⟨#[60]⟩]) hb3 hs2; have HT3 := toHid ht3; have x3 := ht3.2 0; simp only [List.getElem?_cons_zero, List.getElem?_cons_succ] at x3; clear ht3) | skip); have HB3 := toHid hb3; clear hb3 hf3)
      | (go_at_call 41; refine (H4.out _ ?_).mono ?_; (repeat first | with_reducible exact HF3.out | with_reducible refine FeedAt.drew ?_ | with_reducible refine FeedAt.alloc ?_ _); rintro e w4 ⟨rfl, hf4, hb4⟩; have hs4 := hf4.size; (first | (have ht4 := KeepB.litL (w := w3) (cs := [.string ⟨#[61]⟩, .string ⟨#[60]⟩]) hb4 hs3; have x4 := ht4.2 0; simp only [List.getElem?_cons_zero, List.getElem?_cons_succ] at x4; clear ht4) | (have ht4 := hb4.two HT3.out hqb; have x4 := ht4.2 0; simp only [List.getElem?_cons_zero, List.getElem?_cons_succ] at x4; clear ht4) | skip); have HB4 := toHid hb4; have HF4 := toHid hf4; clear hb4 hf4))
  all_goals go_wp2
  all_goals refine bodyPost_ret (v := .string ⟨([40] ++ sa ++ [41, 32] ++ [61] ++ [32] ++ fx).toArray⟩) (by simp [results, Tryz.results15, go_sem]) rfl ?_
  all_goals refine HPO.out _ ?_ ?_
  all_goals (repeat first | with_reducible exact HF4.out | with_reducible refine FeedAt.drew ?_ | with_reducible refine FeedAt.alloc ?_ _)
  all_goals (repeat first | with_reducible exact HB2.out | with_reducible refine KeepB.trans ?_ HB4.out | with_reducible refine KeepB.trans ?_ HB3.out | with_reducible refine KeepB.drew ?_ | (refine KeepB.alloc ?_ (by assumption) _))

set_option maxRecDepth 100000 in
set_option maxHeartbeats 8000000 in
theorem ruleS_test1 (b : Nat) (z : Int) (w : World) (sa fx r r1 q q2 q3 : By) (h0 : FeedAt w b r) (hz0 : (z == 0) = false) (la : sa.length ≤ 300) (lf : fx.length ≤ 3)
    (h1 : Fd1 b (.string ⟨sa.toArray⟩) r r1 15 #[.pointer (some ⟨b, 0, none⟩), .int .i64 (wrap64 (z - 1))])
    (h2 : Fd1 b (.int .i64 4) r1 q 16 #[.pointer (some ⟨b, 0, none⟩), .int .i64 8])
    (h3 : Fd1 b (.int .i64 1) q q2 16 #[.pointer (some ⟨b, 0, none⟩), .int .i64 2])
    (h4 : Fd1 b (.string ⟨fx.toArray⟩) q2 q3 41 #[.pointer (some ⟨b, 0, none⟩)]) :
    Calls Tryz.prog 15 #[.pointer (some ⟨b, 0, none⟩), .int .i64 z] w (RulePost b ([40] ++ sa ++ [41, 32] ++ [60] ++ [32] ++ fx, q3) w) := by
  have H1 := toHid h1
  have H2 := toHid h2
  have H3 := toHid h3
  have H4 := toHid h4
  clear h1 h2 h3 h4
  have HPO := toHid (show ∀ W, FeedAt W b q3 → KeepB b w W → RulePost b ([40] ++ sa ++ [41, 32] ++ [60] ++ [32] ++ fx, q3) w (.returned (.string ⟨([40] ++ sa ++ [41, 32] ++ [60] ++ [32] ++ fx).toArray⟩)) W from fun W h1 h2 => ⟨rfl, h1, h2⟩)
  generalize hpo : RulePost b ([40] ++ sa ++ [41, 32] ++ [60] ++ [32] ++ fx, q3) w = PO at *
  go_enter Tryz.func15, Tryz.ntmps15
  go_wp2_with (first | (go_at_call 15; refine (H1.out _ h0).mono ?_; rintro e w1 ⟨rfl, hf1, hb1⟩; refine Hid.out ?_))
  have HB1 := toHid hb1
  clear hb1 H1
  refine toHid ?_
  go_wp2_with (first | (go_at_call 16; refine (H2.out _ hf1).mono ?_; rintro e w2 ⟨rfl, hf2, hb2⟩; refine Hid.out ?_))
  have HB2 := toHid (HB1.out.trans hb2)
  have HF2 := toHid hf2
  have hs2 := hf2.size
  clear hb2 H2 hf1 hf2 HB1
  refine toHid ?_
  go_wp2_with fail
  have hqb : w2.heap.size ≠ b := by omega
  have m0 : ¬ 9223372036854775807 < 1 + sa.length := by omega
  have m1 : ¬ 9223372036854775807 < sa.length + 1 + 2 := by omega
  have m2 : ¬ 9223372036854775807 < sa.length + 2 + 1 + 1 := by omega
  have m3 : ¬ 9223372036854775807 < sa.length + 3 + 1 + 1 := by omega
  have m4 : ¬ 9223372036854775807 < sa.length + 4 + 1 + fx.length := by omega
  clear la lf
  go_region_with (first
      | (go_at_call 16; refine (H3.out _ ?_).mono ?_; (repeat first | with_reducible exact HF2.out | with_reducible refine FeedAt.drew ?_ | with_reducible refine FeedAt.alloc ?_ _); rintro e w3 ⟨rfl, hf3, hb3⟩; have HF3 := toHid hf3; have hs3 := hf3.size; (first | (have ht3 := KeepB.litLD (w := w2) (cs := [.string ⟨#[61]⟩, .string ⟨#[60]⟩]) hb3 hs2; have HT3 := toHid ht3; have x3 := ht3.2 1; simp only [List.getElem?_cons_zero, List.getElem?_cons_succ] at x3; clear ht3) | skip); have HB3 := toHid hb3; clear hb3 hf3)
      | (go_at_call 41; refine (H4.out _ ?_).mono ?_; (repeat first | with_reducible exact HF3.out | with_reducible refine FeedAt.drew ?_ | with_reducible refine FeedAt.alloc ?_ _); rintro e w4 ⟨rfl, hf4, hb4⟩; have hs4 := hf4.size; (first | (have ht4 := KeepB.litL (w := w3) (cs := [.string ⟨#[61]⟩, .string ⟨#[60]⟩]) hb4 hs3; have x4 := ht4.2 1; simp only [List.getElem?_cons_zero, List.getElem?_cons_succ] at x4; clear ht4) | (have ht4 := hb4.two HT3.out hqb; have x4 := ht4.2 1; simp only [List.getElem?_cons_zero, List.getElem?_cons_succ] at x4; clear ht4) | skip); have HB4 := toHid hb4; have HF4 := toHid hf4; clear hb4 hf4))
  all_goals go_wp2
  all_goals refine bodyPost_ret (v := .string ⟨([40] ++ sa ++ [41, 32] ++ [60] ++ [32] ++ fx).toArray⟩) (by simp [results, Tryz.results15, go_sem]) rfl ?_
  all_goals refine HPO.out _ ?_ ?_
  all_goals (repeat first | with_reducible exact HF4.out | with_reducible refine FeedAt.drew ?_ | with_reducible refine FeedAt.alloc ?_ _)
  all_goals (repeat first | with_reducible exact HB2.out | with_reducible refine KeepB.trans ?_ HB4.out | with_reducible refine KeepB.trans ?_ HB3.out | with_reducible refine KeepB.drew ?_ | (refine KeepB.alloc ?_ (by assumption) _))

end Go.Proofs.YtihgojcfpnhelaaGreatDoor
