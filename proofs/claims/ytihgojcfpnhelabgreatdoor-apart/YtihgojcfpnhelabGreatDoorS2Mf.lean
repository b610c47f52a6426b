import Derived.Test.YtihgojcfpnhelabGreatDoorS2Md
import Derived.Test.YtihgojcfpnhelabGreatDoorS2Me
set_option maxRecDepth 100000
set_option maxHeartbeats 4000000
set_option linter.unusedVariables false
set_option linter.unusedSimpArgs false
namespace Go.Proofs.YtihgojcfpnhelabGreatDoor
open Go.RowKit
section
structure W3 (r : Value) (k n : Int) (x : By) (sl : Value) (w W : World) : Prop where
 bel : Below w.heap.size w W
 c0 : W.cell? ⟨w.heap.size, 0, none⟩ = some (namedV r)
 p : W.heap[w.heap.size + 1]? = some (.cells #[.int .i64 k, .string ⟨x.toArray⟩, .int .i64 n, sl] 49 (0, 0))
 R : W.heap[w.heap.size + 1 + 1]? = some (.cells #[.int .i64 0, .int .i64 0] 96 (0, 0))
theorem W3.start (r : Value) (k n : Int) (x : By) (sl : Value) (w : World) : W3 r k n x sl w (((w.alloc (.cells #[namedV r] 204)).alloc (.cells #[.int .i64 k, .string ⟨x.toArray⟩, .int .i64 n, sl] 49)).alloc (.cells #[.int .i64 0, .int .i64 0] 96)) := by
 have h0 : (((w.alloc (.cells #[namedV r] 204)).alloc (.cells #[.int .i64 k, .string ⟨x.toArray⟩, .int .i64 n, sl] 49)).alloc (.cells #[.int .i64 0, .int .i64 0] 96)).heap[w.heap.size]? = some (.cells #[namedV r] 204 (0, 0)) := by
  rw [Below.heap_alloc _ _ _ (by simp; omega), Below.heap_alloc _ _ _ (by simp)]; exact heap_alloc_new w _
 refine ⟨below3 w _ _ _, (row1 h0).1, ?_, alloc3_new w _ _ _ _⟩
 rw [Below.heap_alloc _ _ _ (by simp)]
 exact alloc2_new' w _ _ _
theorem W3.next {r : Value} {k n : Int} {x : By} {sl : Value} {w W W' : World} (h : W3 r k n x sl w W) (hb : Below W.heap.size W W') : W3 r k n x sl w W' :=
 ⟨h.bel.trans (hb.mono h.bel.size), (hb.cell (p := ⟨w.heap.size, 0, none⟩) (World.block_lt_of_cell? W _ h.c0)).trans h.c0, (hb.block _ (Array.getElem?_eq_some_iff.1 h.p).1).trans h.p, (hb.block _ (Array.getElem?_eq_some_iff.1 h.R).1).trans h.R⟩
theorem W3.fin {r : Value} {k n : Int} {x : By} {sl : Value} {w W : World} (h : W3 r k n x sl w W) (u : Vl) : VPost u w (.returned (.agg #[.int .i64 u.1, .int .i64 u.2])) ((W.setCell ⟨w.heap.size + 1 + 1, 0, none⟩ (.int .i64 u.1)).setCell ⟨w.heap.size + 1 + 1, 1, none⟩ (.int .i64 u.2)) :=
 ⟨rfl, below_st2 h.bel _ (by omega) _ _⟩
theorem w_num (r : Value) (x : By) (n : Int) (a : Option Addr) (l c : Nat) (w : World) :
  Calls Tryz.prog 128 #[.agg #[namedV r], .agg #[.int .i64 1, .string ⟨x.toArray⟩, .int .i64 n, .slice a l c]] w (VPost (1, n) w) := by
 have H3 := tZ (W3.start r 1 n x (.slice a l c) w)
 go_enter Tryz.func128, Tryz.ntmps128
 go_wp2_with (first | (go_at_call 158; refine (number199 _ _).mono ?_; rintro e w1 ⟨rfl, hb1⟩; refine Hid.out ?_))
 have H4 := tZ (H3.out.next hb1)
 obtain ⟨⟨k0, k1⟩, ⟨f0, f1⟩, hsz⟩ := row2 H4.out.R
 clear hb1
 refine tZ ?_
 go_wp2
 refine bodyPost_ret (v := .agg #[.int .i64 1, .int .i64 n]) (by simp [results, Tryz.results128, go_sem, k0, k1]) rfl ?_
 exact H4.out.fin (1, n)
theorem w_name (r : Value) (x : By) (n : Int) (a : Option Addr) (l c : Nat) (u : Vl) (w : World) (hN : ∀ W, Below w.heap.size w W → Calls Tryz.prog 101 #[r, .string ⟨x.toArray⟩] W (VPost u W)) :
  Calls Tryz.prog 128 #[.agg #[namedV r], .agg #[.int .i64 2, .string ⟨x.toArray⟩, .int .i64 n, .slice a l c]] w (VPost u w) := by
 have H3 := tZ (W3.start r 2 n x (.slice a l c) w)
 have HN := tZ (fun W (hb : Below w.heap.size w W) => hN W hb)
 clear hN
 go_enter Tryz.func128, Tryz.ntmps128
 go_wp2_with (first | (go_at_call 101; refine (HN.out _ H3.out.bel).mono ?_; rintro e w1 ⟨rfl, hb1⟩; refine Hid.out ?_))
 have H4 := tZ (H3.out.next hb1)
 obtain ⟨⟨k0, k1⟩, ⟨f0, f1⟩, hsz⟩ := row2 H4.out.R
 clear hb1
 refine tZ ?_
 go_wp2
 refine bodyPost_ret (v := .agg #[.int .i64 u.1, .int .i64 u.2]) (by simp [results, Tryz.results128, go_sem, k0, k1]) rfl ?_
 exact H4.out.fin (u)
theorem w_true (r : Value) (x : By) (n : Int) (a : Option Addr) (l c : Nat) (w : World) :
  Calls Tryz.prog 128 #[.agg #[namedV r], .agg #[.int .i64 7, .string ⟨x.toArray⟩, .int .i64 n, .slice a l c]] w (VPost ((2, 1)) w) := by
 have H3 := tZ (W3.start r 7 n x (.slice a l c) w)
 go_enter Tryz.func128, Tryz.ntmps128
 go_wp2_with (first | (go_at_call 159; refine (truth200 true _).mono ?_; rintro e w1 ⟨rfl, hb1⟩; refine Hid.out ?_))
 rw [show (vTruth true).1 = 2 from rfl, show (vTruth true).2 = 1 from rfl]
 have H4 := tZ (H3.out.next hb1)
 obtain ⟨⟨k0, k1⟩, ⟨f0, f1⟩, hsz⟩ := row2 H4.out.R
 clear hb1
 refine tZ ?_
 go_wp2
 refine bodyPost_ret (v := .agg #[.int .i64 2, .int .i64 1]) (by simp [results, Tryz.results128, go_sem, k0, k1]) rfl ?_
 exact H4.out.fin ((2, 1))
theorem w_false (r : Value) (x : By) (n : Int) (a : Option Addr) (l c : Nat) (w : World) :
  Calls Tryz.prog 128 #[.agg #[namedV r], .agg #[.int .i64 8, .string ⟨x.toArray⟩, .int .i64 n, .slice a l c]] w (VPost ((2, 0)) w) := by
 have H3 := tZ (W3.start r 8 n x (.slice a l c) w)
 go_enter Tryz.func128, Tryz.ntmps128
 go_wp2_with (first | (go_at_call 159; refine (truth200 false _).mono ?_; rintro e w1 ⟨rfl, hb1⟩; refine Hid.out ?_))
 rw [show (vTruth false).1 = 2 from rfl, show (vTruth false).2 = 0 from rfl]
 have H4 := tZ (H3.out.next hb1)
 obtain ⟨⟨k0, k1⟩, ⟨f0, f1⟩, hsz⟩ := row2 H4.out.R
 clear hb1
 refine tZ ?_
 go_wp2
 refine bodyPost_ret (v := .agg #[.int .i64 2, .int .i64 0]) (by simp [results, Tryz.results128, go_sem, k0, k1]) rfl ?_
 exact H4.out.fin ((2, 0))
theorem w_open (r : Value) (x : By) (n : Int) (a : Option Addr) (l c : Nat) (q : Nat → Pt) (A : Nat → Option Addr) (L C : Nat → Nat) (v : Nat → Vl) (w : World) (hl : 1 ≤ l) (hl3 : l ≤ 3) (hK : KidsAt w a l q A L C) (hV : KidsV r w l q A L C v) :
  Calls Tryz.prog 128 #[.agg #[namedV r], .agg #[.int .i64 9, .string ⟨x.toArray⟩, .int .i64 n, .slice a l c]] w (VPost (v 0) w) := by
 obtain ⟨g, rfl, hg, c0, c1, c2, c3⟩ := hK 0 (by omega)
 rw [Nat.zero_mul] at c0 c1 c2 c3
 rw [Nat.zero_add] at c1 c2 c3
 have HV := tZ hV
 have hl1 : (0 : Int) < (l : Int) := by omega
 clear hK hV
 obtain ⟨W4, hW4⟩ : ∃ W4, W4 = (((w.alloc (.cells #[namedV r] 204)).alloc (.cells #[.int .i64 9, .string ⟨x.toArray⟩, .int .i64 n, .slice (some ⟨g, 0, none⟩) l c] 49)).alloc (.cells #[.int .i64 0, .int .i64 0] 96)) := ⟨_, rfl⟩
 have h3 : W3 r 9 n x (.slice (some ⟨g, 0, none⟩) l c) w W4 := by rw [hW4]; exact W3.start r 9 n x _ w
 have H3 := tZ h3
 have HW4 := tZ hW4
 obtain ⟨⟨_, _, _, i2⟩, _, hsp⟩ := row4 h3.p
 obtain ⟨⟨k0, k1⟩, ⟨f0, f1⟩, hsR⟩ := row2 h3.R
 have i0 := h3.c0
 have C0 := (h3.bel.cell (p := ⟨g, 0, none⟩) hg).trans c0
 have C1 := (h3.bel.cell (p := ⟨g, 1, none⟩) hg).trans c1
 have C2 := (h3.bel.cell (p := ⟨g, 2, none⟩) hg).trans c2
 have C3 := (h3.bel.cell (p := ⟨g, 3, none⟩) hg).trans c3
 have HCW := tZ (fun W (hb : Below W4.heap.size W4 W) => HV.out 0 (by omega) W (h3.bel.trans (hb.mono h3.bel.size)))
 have HCO := tZ (fun k W (hb : Below W4.heap.size W4 W) => (HV.out.next (h3.bel.trans (hb.mono h3.bel.size))).only 0 (by omega) k)
 have HMI := tZ (fun u W => minus201 u W)
 have HOP := tZ (fun u W => opposite203 u W)
 clear h3 c0 c1 c2 c3
 go_enter Tryz.func128, Tryz.ntmps128
 go_upto_region 10 with fail
 rw [← HW4.out]
 clear hW4 HW4
 go_region_with (first | (go_at_call 128; refine (HCW.out _ (Below.refl W4.heap.size W4).drew).mono ?_; rintro e w1 ⟨rfl, hb1⟩; have B4 := tZ (H3.out.next ((Below.refl W4.heap.size W4).drew.trans hb1)); obtain ⟨⟨m0, m1⟩, ⟨n0, n1⟩, hsm⟩ := row2 B4.out.R; clear hb1))
 all_goals go_wp2
 all_goals refine bodyPost_ret (v := .agg #[.int .i64 (v 0).1, .int .i64 (v 0).2]) (by simp [results, Tryz.results128, go_sem, m0, m1]) rfl ?_
 all_goals exact B4.out.fin (v 0)
theorem w_neg (r : Value) (x : By) (n : Int) (a : Option Addr) (l c : Nat) (q : Nat → Pt) (A : Nat → Option Addr) (L C : Nat → Nat) (v : Nat → Vl) (w : World) (hl : 1 ≤ l) (hl3 : l ≤ 3) (hK : KidsAt w a l q A L C) (hV : KidsV r w l q A L C v) :
  Calls Tryz.prog 128 #[.agg #[namedV r], .agg #[.int .i64 14, .string ⟨x.toArray⟩, .int .i64 n, .slice a l c]] w (VPost (vMinus (vOnly 1 (v 0))) w) := by
 obtain ⟨g, rfl, hg, c0, c1, c2, c3⟩ := hK 0 (by omega)
 rw [Nat.zero_mul] at c0 c1 c2 c3
 rw [Nat.zero_add] at c1 c2 c3
 have HV := tZ hV
 have hl1 : (0 : Int) < (l : Int) := by omega
 clear hK hV
 obtain ⟨W4, hW4⟩ : ∃ W4, W4 = (((w.alloc (.cells #[namedV r] 204)).alloc (.cells #[.int .i64 14, .string ⟨x.toArray⟩, .int .i64 n, .slice (some ⟨g, 0, none⟩) l c] 49)).alloc (.cells #[.int .i64 0, .int .i64 0] 96)) := ⟨_, rfl⟩
 have h3 : W3 r 14 n x (.slice (some ⟨g, 0, none⟩) l c) w W4 := by rw [hW4]; exact W3.start r 14 n x _ w
 have H3 := tZ h3
 have HW4 := tZ hW4
 obtain ⟨⟨_, _, _, i2⟩, _, hsp⟩ := row4 h3.p
 obtain ⟨⟨k0, k1⟩, ⟨f0, f1⟩, hsR⟩ := row2 h3.R
 have i0 := h3.c0
 have C0 := (h3.bel.cell (p := ⟨g, 0, none⟩) hg).trans c0
 have C1 := (h3.bel.cell (p := ⟨g, 1, none⟩) hg).trans c1
 have C2 := (h3.bel.cell (p := ⟨g, 2, none⟩) hg).trans c2
 have C3 := (h3.bel.cell (p := ⟨g, 3, none⟩) hg).trans c3
 have HCW := tZ (fun W (hb : Below W4.heap.size W4 W) => HV.out 0 (by omega) W (h3.bel.trans (hb.mono h3.bel.size)))
 have HCO := tZ (fun k W (hb : Below W4.heap.size W4 W) => (HV.out.next (h3.bel.trans (hb.mono h3.bel.size))).only 0 (by omega) k)
 have HMI := tZ (fun u W => minus201 u W)
 have HOP := tZ (fun u W => opposite203 u W)
 clear h3 c0 c1 c2 c3
 go_enter Tryz.func128, Tryz.ntmps128
 go_upto_region 12 with fail
 rw [← HW4.out]
 clear hW4 HW4
 go_region_with (first | (go_at_call 161; refine (HCO.out 1 _ (Below.refl W4.heap.size W4).drew).mono ?_; rintro e w1 ⟨rfl, hb1⟩; have B1 := tZ ((Below.refl W4.heap.size W4).drew.trans hb1); have hsw := ((Below.refl W4.heap.size W4).drew.trans hb1).size; clear hb1) | (go_at_call 160; refine (HMI.out _ _).mono ?_; rintro e w2 ⟨rfl, hb1⟩; have B4 := tZ (H3.out.next (B1.out.trans (hb1.mono B1.out.size))); obtain ⟨⟨m0, m1⟩, ⟨n0, n1⟩, hsm⟩ := row2 B4.out.R; clear hb1))
 all_goals go_wp2
 all_goals refine bodyPost_ret (v := .agg #[.int .i64 (vMinus (vOnly 1 (v 0))).1, .int .i64 (vMinus (vOnly 1 (v 0))).2]) (by simp [results, Tryz.results128, go_sem, m0, m1]) rfl ?_
 all_goals exact B4.out.fin (vMinus (vOnly 1 (v 0)))
theorem w_not (r : Value) (x : By) (n : Int) (a : Option Addr) (l c : Nat) (q : Nat → Pt) (A : Nat → Option Addr) (L C : Nat → Nat) (v : Nat → Vl) (w : World) (hl : 1 ≤ l) (hl3 : l ≤ 3) (hK : KidsAt w a l q A L C) (hV : KidsV r w l q A L C v) :
  Calls Tryz.prog 128 #[.agg #[namedV r], .agg #[.int .i64 6, .string ⟨x.toArray⟩, .int .i64 n, .slice a l c]] w (VPost (vOpp (vOnly 2 (v 0))) w) := by
 obtain ⟨g, rfl, hg, c0, c1, c2, c3⟩ := hK 0 (by omega)
 rw [Nat.zero_mul] at c0 c1 c2 c3
 rw [Nat.zero_add] at c1 c2 c3
 have HV := tZ hV
 have hl1 : (0 : Int) < (l : Int) := by omega
 clear hK hV
 obtain ⟨W4, hW4⟩ : ∃ W4, W4 = (((w.alloc (.cells #[namedV r] 204)).alloc (.cells #[.int .i64 6, .string ⟨x.toArray⟩, .int .i64 n, .slice (some ⟨g, 0, none⟩) l c] 49)).alloc (.cells #[.int .i64 0, .int .i64 0] 96)) := ⟨_, rfl⟩
 have h3 : W3 r 6 n x (.slice (some ⟨g, 0, none⟩) l c) w W4 := by rw [hW4]; exact W3.start r 6 n x _ w
 have H3 := tZ h3
 have HW4 := tZ hW4
 obtain ⟨⟨_, _, _, i2⟩, _, hsp⟩ := row4 h3.p
 obtain ⟨⟨k0, k1⟩, ⟨f0, f1⟩, hsR⟩ := row2 h3.R
 have i0 := h3.c0
 have C0 := (h3.bel.cell (p := ⟨g, 0, none⟩) hg).trans c0
 have C1 := (h3.bel.cell (p := ⟨g, 1, none⟩) hg).trans c1
 have C2 := (h3.bel.cell (p := ⟨g, 2, none⟩) hg).trans c2
 have C3 := (h3.bel.cell (p := ⟨g, 3, none⟩) hg).trans c3
 have HCW := tZ (fun W (hb : Below W4.heap.size W4 W) => HV.out 0 (by omega) W (h3.bel.trans (hb.mono h3.bel.size)))
 have HCO := tZ (fun k W (hb : Below W4.heap.size W4 W) => (HV.out.next (h3.bel.trans (hb.mono h3.bel.size))).only 0 (by omega) k)
 have HMI := tZ (fun u W => minus201 u W)
 have HOP := tZ (fun u W => opposite203 u W)
 clear h3 c0 c1 c2 c3
 go_enter Tryz.func128, Tryz.ntmps128
 go_upto_region 14 with fail
 rw [← HW4.out]
 clear hW4 HW4
 go_region_with (first | (go_at_call 161; refine (HCO.out 2 _ (Below.refl W4.heap.size W4).drew).mono ?_; rintro e w1 ⟨rfl, hb1⟩; have B1 := tZ ((Below.refl W4.heap.size W4).drew.trans hb1); have hsw := ((Below.refl W4.heap.size W4).drew.trans hb1).size; clear hb1) | (go_at_call 162; refine (HOP.out _ _).mono ?_; rintro e w2 ⟨rfl, hb1⟩; have B4 := tZ (H3.out.next (B1.out.trans (hb1.mono B1.out.size))); obtain ⟨⟨m0, m1⟩, ⟨n0, n1⟩, hsm⟩ := row2 B4.out.R; clear hb1))
 all_goals go_wp2
 all_goals refine bodyPost_ret (v := .agg #[.int .i64 (vOpp (vOnly 2 (v 0))).1, .int .i64 (vOpp (vOnly 2 (v 0))).2]) (by simp [results, Tryz.results128, go_sem, m0, m1]) rfl ?_
 all_goals exact B4.out.fin (vOpp (vOnly 2 (v 0)))
end
end Go.Proofs.YtihgojcfpnhelabGreatDoor
