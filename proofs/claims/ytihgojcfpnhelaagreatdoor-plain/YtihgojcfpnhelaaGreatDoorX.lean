import Derived.Test.YtihgojcfpnhelaaGreatDoorU
import Derived.Test.YtihgojcfpnhelaaGreatDoorTb
set_option linter.unusedVariables false
set_option linter.unusedSimpArgs false
namespace Go.Proofs.YtihgojcfpnhelaaGreatDoor
open Go.RowKit

def ptoks (len : Nat) (ts : List (By × Nat)) : List PT := ts.map (fun x => (kindB x.1, x.2, nmB x.1, nuB x.1)) ++ [(0, len, [], 0)]

section
variable {len : Nat} {ts : List (By × Nat)}

theorem ptoks_length : (ptoks len ts).length = ts.length + 1 := by simp [ptoks]

theorem ptoks_lt {i : Nat} (h : i < (ptoks len ts).length) (hi : i < ts.length) : (ptoks len ts)[i] = (kindB (tAt ts i), pAt len ts i, nmB (tAt ts i), nuB (tAt ts i)) := by
  have h2 : pAt len ts i = ts[i].2 := by simp [pAt, hi]
  rw [tAt_lt ts i hi, h2]
  simp [ptoks, hi]

theorem ptoks_end {i : Nat} (h : i < (ptoks len ts).length) (hi : ¬ i < ts.length) : (ptoks len ts)[i] = (0, len, [], 0) := by
  simp [ptoks, List.getElem_append, hi]

theorem ptoks_at {i : Nat} (h : i < (ptoks len ts).length) : ((ptoks len ts)[i]).2.1 = pAt len ts i := by
  by_cases hi : i < ts.length
  · rw [ptoks_lt h hi]
  · rw [ptoks_end h hi]
    simp [pAt, show ts.length ≤ i by omega]

theorem OkT.tk (hk : OkT ts) {i : Nat} (hi : i < ts.length) : Tk (tAt ts i) := by
  obtain ⟨_, c, r, h, h63, h78⟩ := hk.get hi
  rw [h]
  exact ⟨c, r, rfl, h63, fun he => h78 (by unfold wName at he; simp at he; exact he.1)⟩

theorem OkT.notNone (hk : OkT ts) (i : Nat) : tAt ts i ≠ wNone := by
  by_cases hi : i < ts.length
  · obtain ⟨_, c, r, h, h63, h78⟩ := hk.get hi
    rw [h]
    intro he
    apply h78
    unfold wNone at he
    simp at he
    exact he.1
  · rw [tAt_ge ts i (by omega)]
    decide

/-- The kind of the token at a place. -/
theorem OkT.cls (hk : OkT ts) {i : Nat} (h : i < (ptoks len ts).length) : ∃ k : Nat, Cls (tAt ts i) k ∧ ((ptoks len ts)[i]).1 = (k : Int) ∧ k < 20 ∧ (k = 0 ↔ ¬ i < ts.length) := by
  by_cases hi : i < ts.length
  · obtain ⟨ho, c, r, hc, _⟩ := hk.get hi
    obtain ⟨k, hcl, hkk⟩ := cls_tok (tAt ts i) ho (by rw [hc]; simp)
    refine ⟨k, hcl, by rw [ptoks_lt h hi]; exact hkk, ?_, ?_⟩
    · rcases hcl with ⟨_, rfl⟩ | ⟨_, _, rfl⟩ | ⟨_, rfl⟩ | hm
      · omega
      · omega
      · omega
      · exact (show ∀ x, x ∈ meanN → x.2 < 20 by decide) _ hm
    · constructor
      · rintro rfl
        rcases hcl with ⟨_, h0⟩ | ⟨_, _, h0⟩ | ⟨h0, _⟩ | hm
        · omega
        · omega
        · rw [hc] at h0; cases h0
        · exact absurd ((show ∀ x, x ∈ meanN → x.2 ≠ 0 by decide) _ hm rfl) id
      · intro h0; exact absurd hi h0
  · refine ⟨0, Or.inr (Or.inr (Or.inl ⟨tAt_ge ts i (by omega), rfl⟩)), by rw [ptoks_end h hi]; rfl, by omega, by simp [hi]⟩

/-- The token at a place, known by its kind. -/
theorem OkT.word (hok : OkT ts) {i : Nat} (h : i < (ptoks len ts).length) (x : By) (n : Nat) (hm : (x, n) ∈ meanN) : ((ptoks len ts)[i]).1 = (n : Int) ↔ tAt ts i = x := by
  obtain ⟨k, hc, hk, _, _⟩ := hok.cls h
  rw [hk]
  have := cls_word x n hm _ k hc
  constructor
  · intro h; exact this.1 (by omega)
  · intro h; have := this.2 h; omega
end

/-- The state of the reader: i tokens are read. -/
structure St (len : Nat) (ts : List (By × Nat)) (w : World) (b bl cp i : Nat) (d : Nat) (e : Int) : Prop where
  rd : Rdr w b bl cp (ptoks len ts) i (d : Int) e
  env : Env w
  low : 11 ≤ bl

theorem St.le {len : Nat} {ts : List (By × Nat)} {w : World} {b bl cp i d : Nat} {e : Int} (h : St len ts w b bl cp i d e) : i ≤ ts.length := by
  have := h.rd.lt
  rw [ptoks_length] at this
  omega

/-- A part of the program's. -/
abbrev pV (k : Int) (s : By) (n : Int) (a : Option Addr) (l c : Nat) : Value := .agg #[.int .i64 k, .string ⟨s.toArray⟩, .int .i64 n, .slice a l c]

/-- How a part is read. -/
def LvPost (len : Nat) (ts : List (By × Nat)) (S : List By) (D : Nat → Pt → Prop) (c1 : Nat) (b bl cp i d : Nat) (e : Int) (w : World) (r : Ending) (w' : World) : Prop :=
  (∃ (i' m : Nat) (p : Pt) (a : Option Addr) (l c : Nat), r = .returned (.tuple #[.agg #[.int .i64 (p.k : Int), .string ⟨p.nm.toArray⟩, .int .i64 (p.n : Int), .slice a l c], .bool true]) ∧ PIs w' (fun q => w.heap.size ≤ q ∧ q < w'.heap.size) p a l c ∧ D i' p ∧ St len ts w' b bl cp i' d e ∧ i < i' ∧ Kp b w w' ∧ m + c1 ≤ 20 * (i' - i) ∧ Go1 len ts S i i' m) ∨
  (∃ (i' m : Nat) (d' er k n : Int) (s : By) (a : Option Addr) (l c : Nat), r = .returned (.tuple #[.agg #[.int .i64 k, .string ⟨s.toArray⟩, .int .i64 n, .slice a l c], .bool false]) ∧ Rdr w' b bl cp (ptoks len ts) i' d' er ∧ er ≠ 0 ∧ Kp b w w' ∧ m + c1 ≤ 20 * (ts.length - i) + 20 ∧ No1 len ts S i er (pAt len ts i') m)

/-- 'level', for all that is below a measure. -/
def LvAll (len : Nat) (ts : List (By × Nat)) (b bl cp F : Nat) : Prop :=
  ∀ (n i d : Nat) (e : Int) (w : World), 1 ≤ n → n ≤ 6 → d ≤ 6 → 10 * (ts.length - i) + (7 - n) < F → St len ts w b bl cp i d e →
    Calls Tryz.prog 93 #[.pointer (some ⟨b, 0, none⟩), .int .i64 (n : Int)] w (LvPost len ts [symB (lv n) d] (fun i' p => Der ts n i i' p) (2 * n) b bl cp i d e w)

theorem St.setD {len : Nat} {ts : List (By × Nat)} {w : World} {b bl cp i d : Nat} {e : Int} (h : St len ts w b bl cp i d e) (d' : Nat) :
    St len ts (w.setCell ⟨b, 1, none⟩ (.int .i64 (d' : Int))) b bl cp i d' e ∧ Kp b w (w.setCell ⟨b, 1, none⟩ (.int .i64 (d' : Int))) := by
  obtain ⟨h1, h2⟩ := h.rd.setD (d' : Int)
  exact ⟨⟨h1, h.env.below h2.bel (by have := h.low; have := h.rd.blk; omega), h.low⟩, h2⟩

theorem St.down {len : Nat} {ts : List (By × Nat)} {w w' : World} {b bl cp i i' d d' : Nat} {e e' : Int} (h : St len ts w b bl cp i d e) (hr : Rdr w' b bl cp (ptoks len ts) i' (d' : Int) e') (hb : Below b w w') : St len ts w' b bl cp i' d' e' :=
  ⟨hr, h.env.below hb (by have := h.low; have := h.rd.blk; omega), h.low⟩

theorem St.next {len : Nat} {ts : List (By × Nat)} {w w' : World} {b bl cp i d : Nat} {e : Int} (h : St len ts w b bl cp i d e) (hb : Below w.heap.size w w') : St len ts w' b bl cp i d e :=
  ⟨h.rd.next hb, h.env.next hb, h.low⟩

theorem St.store {len : Nat} {ts : List (By × Nat)} {w : World} {b bl cp i d : Nat} {e : Int} (h : St len ts w b bl cp i d e) {g j : Nat} {u : Value} (hg : b < g) : St len ts (w.setCell ⟨g, j, none⟩ u) b bl cp i d e :=
  ⟨h.rd.store (by omega) (by have := h.rd.blk; omega), h.env.below ((Below.refl b w).setCell (p := ⟨g, j, none⟩) (by show b ≤ g; omega) _) (by have := h.low; have := h.rd.blk; omega), h.low⟩

theorem St.store4 {len : Nat} {ts : List (By × Nat)} {w : World} {b bl cp i d : Nat} {e : Int} (h : St len ts w b bl cp i d e) (g : Nat) (v0 v1 v2 v3 : Value) (hg : b < g) : St len ts ((((w.setCell ⟨g, 0, none⟩ v0).setCell ⟨g, 1, none⟩ v1).setCell ⟨g, 2, none⟩ v2).setCell ⟨g, 3, none⟩ v3) b bl cp i d e :=
  (((h.store hg).store hg).store hg).store hg

/-- A sign ahead: 'not' at a TEST, a minus at an ATOM. -/
def Ahead (n : Nat) (t : By) : Prop := (n = 3 ∧ t = [110, 111, 116]) ∨ (n = 6 ∧ t = [45])

theorem bec_ahead_go (n : Nat) (t : By) (d : Nat) (h : Ahead n t) (hd : d < 6) : becB (lv n) d t = [t, symB (lv n) (d + 1)] := by
  have hdp : ∀ k, deepB t k d = [t, symB k (d + 1)] := fun k => by unfold deepB; rw [if_neg (by omega)]
  rcases h with ⟨rfl, rfl⟩ | ⟨rfl, rfl⟩
  · exact hdp 84
  · exact hdp 65

theorem bec_ahead_no (n : Nat) (t : By) (h : Ahead n t) : becB (lv n) 6 t = [wDeep] := by
  rcases h with ⟨rfl, rfl⟩ | ⟨rfl, rfl⟩ <;> decide

theorem ahead_kind (n : Nat) (t : By) (k : Nat) (h : Ahead n t) (hc : Cls t k) : (n = 3 ∧ k = 6) ∨ (n = 6 ∧ k = 13) := by
  rcases h with ⟨rfl, rfl⟩ | ⟨rfl, rfl⟩
  · exact Or.inl ⟨rfl, (cls_word [110, 111, 116] 6 (by decide) _ k hc).2 rfl⟩
  · exact Or.inr ⟨rfl, (cls_word [45] 13 (by decide) _ k hc).2 rfl⟩

/-- One part in another. -/
theorem PIs.un {w : World} {S : Nat → Prop} {p : Pt} {a : Option Addr} {l c g : Nat} {t : TypeId} {fr : Nat × Nat} (k : Nat) (h : PIs w S p a l c) (hg : S g) (hb : w.heap[g]? = some (.cells #[.int .i64 (p.k : Int), .string ⟨p.nm.toArray⟩, .int .i64 (p.n : Int), .slice a l c] t fr)) (cap : Nat) : PIs w S (.un k p) (some ⟨g, 0, none⟩) 1 cap := by
  refine PIs.node (.un k p) g cap (fun _ => a) (fun _ => l) (fun _ => c) hg (by simp [Pt.kids]) (fun j hj => ?_) (fun j hj => ?_)
  · obtain rfl : j = 0 := by simp [Pt.kids] at hj; omega
    exact ⟨(cell_of_row w g 0 _ _ _ hb).trans rfl, (cell_of_row w g 1 _ _ _ hb).trans rfl, (cell_of_row w g 2 _ _ _ hb).trans rfl, (cell_of_row w g 3 _ _ _ hb).trans rfl⟩
  · obtain rfl : j = 0 := by simp [Pt.kids] at hj; omega
    exact h

/-- Two parts in another. -/
theorem PIs.bin {w : World} {S : Nat → Prop} {p p' : Pt} {a a' : Option Addr} {l c l' c' g : Nat} {t : TypeId} {fr : Nat × Nat} (k : Nat) (h : PIs w S p a l c) (h' : PIs w S p' a' l' c') (hg : S g) (hb : w.heap[g]? = some (.cells #[.int .i64 (p.k : Int), .string ⟨p.nm.toArray⟩, .int .i64 (p.n : Int), .slice a l c, .int .i64 (p'.k : Int), .string ⟨p'.nm.toArray⟩, .int .i64 (p'.n : Int), .slice a' l' c'] t fr)) (cap : Nat) : PIs w S (.bin k p p') (some ⟨g, 0, none⟩) 2 cap := by
  refine PIs.node (.bin k p p') g cap (fun j => if j = 0 then a else a') (fun j => if j = 0 then l else l') (fun j => if j = 0 then c else c') hg (by simp [Pt.kids]) (fun j hj => ?_) (fun j hj => ?_)
  · have hj2 : j = 0 ∨ j = 1 := by simp [Pt.kids] at hj; omega
    rcases hj2 with rfl | rfl
    · exact ⟨(cell_of_row w g 0 _ _ _ hb).trans rfl, (cell_of_row w g 1 _ _ _ hb).trans rfl, (cell_of_row w g 2 _ _ _ hb).trans rfl, (cell_of_row w g 3 _ _ _ hb).trans rfl⟩
    · exact ⟨(cell_of_row w g 4 _ _ _ hb).trans rfl, (cell_of_row w g 5 _ _ _ hb).trans rfl, (cell_of_row w g 6 _ _ _ hb).trans rfl, (cell_of_row w g 7 _ _ _ hb).trans rfl⟩
  · have hj2 : j = 0 ∨ j = 1 := by simp [Pt.kids] at hj; omega
    rcases hj2 with rfl | rfl
    · exact h
    · exact h'
end Go.Proofs.YtihgojcfpnhelaaGreatDoor
namespace Go.Proofs.YtihgojcfpnhelaaGreatDoor
open Go.RowKit

section
variable {len : Nat} {ts : List (By × Nat)} {b bl cp : Nat}

set_option maxRecDepth 100000 in
set_option maxHeartbeats 2000000 in
/-- A sign ahead at the greatest depth. -/
theorem bs_deep (n i : Nat) (e : Int) (w : World) (h : Rdr w b bl cp (ptoks len ts) i 6 e) :
    Calls Tryz.prog 128 #[.pointer (some ⟨b, 0, none⟩), .int .i64 (n : Int)] w fun r w' => r = .returned (.tuple #[.agg #[.int .i64 0, .string ⟨#[]⟩, .int .i64 0, .slice none 0 0], .bool false]) ∧ Rdr w' b bl cp (ptoks len ts) i 6 4 ∧ Kp b w w' := by
  have H := toHid (fun w1 (g : Rdr w1 b bl cp (ptoks len ts) i 6 e) => enter_no w1 b bl cp _ i e g)
  have hs := h.size
  have HR := toHid h
  have hblk := h.blk
  clear h
  go_enter Tryz.func128, Tryz.ntmps128
  go_wp2_with (first | (go_at_call 158; refine (H.out _ (HR.out.next ((Below.refl _ _).alloc (Nat.le_refl _) _))).mono ?_; rintro e w' ⟨rfl, hr, hbb⟩; refine Hid.out ?_))
  obtain ⟨⟨k0, k1, k2, k3⟩, ⟨f0, f1, f2, f3⟩, hsz⟩ := row4 (hbb.blk (q := w.heap.size) (heap_alloc_new w _) (by omega))
  have HB := toHid hbb
  have HR2 := toHid hr
  clear hr hbb
  refine toHid ?_
  go_wp2
  refine bodyPost_ret (v := .tuple #[.agg #[.int .i64 0, .string ⟨#[]⟩, .int .i64 0, .slice none 0 0], .bool false]) (by simp [results, Tryz.results128, go_sem, k0, k1, k2, k3, hsz]) rfl ?_
  have hk0 : Kp b w w' := (Kp.of ((Below.refl _ _).alloc (Nat.le_refl _) _) hs).trans HB.out
  have hk1 := hk0.there4 w.heap.size (.int .i64 0) (.string ⟨#[]⟩) (.int .i64 0) (.slice none 0 0) (Nat.le_refl _) hs
  exact ⟨rfl, (HR2.out.store4 w.heap.size _ _ _ _ hs).next ((Below.refl _ _).alloc (Nat.le_refl _) _), hk1.next ((Below.refl _ _).alloc (Nat.le_refl _) _) (by have := hk1.size; omega)⟩

set_option maxRecDepth 100000 in
set_option maxHeartbeats 10000000 in
theorem bs_go (hok : OkT ts) (n i d : Nat) (e : Int) (w : World) (_hn1 : 1 ≤ n) (hd : d < 6) (hi : i < ts.length) (hA : Ahead n (tAt ts i)) (hS : St len ts w b bl cp i d e) (z zz : Nat) (hz : ((ptoks len ts)[i]'hS.rd.lt).1 = (z : Int)) (hzz : (z = 13 ∧ zz = 14) ∨ (z ≠ 13 ∧ zz = z))
    (hDer : ∀ i' p, Der ts n (i + 1) i' p → Der ts n i i' (.un zz p))
    (hL : ∀ w2, St len ts w2 b bl cp (i + 1) (d + 1) e → Calls Tryz.prog 93 #[.pointer (some ⟨b, 0, none⟩), .int .i64 (n : Int)] w2 (LvPost len ts [symB (lv n) (d + 1)] (fun i' p => Der ts n (i + 1) i' p) (2 * n) b bl cp (i + 1) (d + 1) e w2)) :
    Calls Tryz.prog 128 #[.pointer (some ⟨b, 0, none⟩), .int .i64 (n : Int)] w (LvPost len ts [symB (lv n) d] (fun i' p => Der ts n i i' p) (2 * n) b bl cp i d e w) := by
  have hlt := hS.rd.lt
  have H := toHid (fun w1 (g : Rdr w1 b bl cp (ptoks len ts) i (d : Int) e) => enter_yes w1 b bl cp _ i d e g hd (by rw [ptoks_length]; omega))
  have HL := toHid hL
  have HS := toHid hS
  have HDer := toHid hDer
  have hs := hS.rd.size
  have hblk := hS.rd.blk
  have HGO := toHid (fun (i' m : Nat) (h : Go1 len ts [symB (lv n) (d + 1)] (i + 1) i' m) => (show Go1 len ts [symB (lv n) d] i i' (m + 1 + 1) from Go1.sym (by omega) (by rw [bec_ahead_go n _ d hA hd]; exact Go1.tok (hok.tk hi) rfl h)))
  have HNO := toHid (fun (er : Int) (p m : Nat) (h : No1 len ts [symB (lv n) (d + 1)] (i + 1) er p m) => (show No1 len ts [symB (lv n) d] i er p (m + 1 + 1) from No1.sym (by omega) (by rw [bec_ahead_go n _ d hA hd]; exact No1.tok (hok.tk hi) rfl h)))
  have HZ := toHid hz
  clear hL hDer hA hok hz
  go_enter Tryz.func128, Tryz.ntmps128
  go_wp2_with (first | (go_at_call 158; refine (H.out _ (HS.out.rd.next ((Below.refl _ _).alloc (Nat.le_refl _) _))).mono ?_; rw [HZ.out]; rintro r w1 ⟨rfl, hr, hbb⟩; refine Hid.out ?_))
  have hR1 := hbb.blk (q := w.heap.size) (heap_alloc_new w _) (by omega)
  have hk1 : Kp b w w1 := (Kp.of ((Below.refl _ _).alloc (Nat.le_refl _) _) hs).trans hbb
  have HS1 := toHid (show St len ts w1 b bl cp (i + 1) (d + 1) e from HS.out.down (d' := d + 1) hr hk1.bel)
  have hsz1 := (Array.getElem?_eq_some_iff.1 hR1).1
  have HR1 := toHid hR1
  have HK1 := toHid hk1
  generalize ((ptoks len ts)[i]).2.2.2 = tn at *
  generalize ((ptoks len ts)[i]).2.2.1 = tx at *
  generalize ((ptoks len ts)[i]).2.1 = tp at *
  clear hr hbb hR1 hk1
  refine toHid ?_
  have HC := toHid (show ∀ w3, Kp b (w1.alloc (.cells #[.int .i64 (zz : Int), .int .i64 (tp : Int), .string ⟨tx.toArray⟩, .int .i64 (tn : Int)] 134)) w3 → w3.heap[w.heap.size]? = some (.cells #[.int .i64 0, .string ⟨#[]⟩, .int .i64 0, .slice none 0 0] 87 (0, 0)) ∧ w3.heap[w1.heap.size]? = some (.cells #[.int .i64 (zz : Int), .int .i64 (tp : Int), .string ⟨tx.toArray⟩, .int .i64 (tn : Int)] 134 (0, 0)) ∧ Kp b w w3 from fun w3 h => by
    refine ⟨h.blk ((Below.heap_alloc _ _ _ hsz1).trans HR1.out) (by omega), h.blk (heap_alloc_new w1 _) (by omega), ?_⟩
    exact (HK1.out.next ((Below.refl _ _).alloc (Nat.le_refl _) _) (by omega)).trans h)
  have hzc : (zz = 14 ∧ ((z : Int) == 13) = true) ∨ (zz = z ∧ ((z : Int) == 13) = false) := by
    rcases hzz with ⟨h1, h2⟩ | ⟨h1, h2⟩
    · exact Or.inl ⟨h2, by simp [h1]⟩
    · exact Or.inr ⟨h2, beq_eq_false_iff_ne.2 (by omega)⟩
  clear hzz
  rcases hzc with ⟨rfl, hzb⟩ | ⟨rfl, hzb⟩
  · go_wp2_with (first | (go_at_call 93; refine (HL.out _ (HS1.out.next ((Below.refl _ _).alloc (Nat.le_refl _) _))).mono ?_; rintro r w3 (⟨i3, m3, p, a, l, c, rfl, hp, hD, hS3, hi3, hk3, hm3, hgo⟩ | ⟨i3, m3, d3, er, kk3, n3, s3, a, l, c, rfl, hr3, her, hk3, hm3, hno⟩) <;> refine Hid.out ?_))
    · obtain ⟨hRw, hSg, hkw⟩ := HC.out w3 hk3
      obtain ⟨⟨k0, k1, k2, k3⟩, ⟨f0, f1, f2, f3⟩, hsz3⟩ := row4 hRw
      obtain ⟨⟨g0, _, _, _⟩, _, hsz4⟩ := row4 hSg
      obtain ⟨_, c1, _, fz⟩ := hS3.rd.cell
      have fz1 := fz 1
      have hcast : ((d + 1 : Nat) : Int) = (d : Int) + 1 := by omega
      rw [hcast] at c1
      have hbw : b < w3.heap.size := hS3.rd.size
      have A1 := toHid hS3
      have A2 := toHid hkw
      have A3 := toHid hp
      have A4 := toHid (HDer.out _ _ hD)
      have A5 := toHid (HGO.out _ _ hgo)
      have hne1 : w.heap.size ≠ b := by omega
      have hne2 : b ≠ w.heap.size := by omega
      clear hS3 hkw hp hD hgo fz hRw hSg hk3 hcast
      refine toHid ?_
      go_wp2
      refine bodyPost_ret (v := .tuple #[.agg #[.int .i64 14, .string ⟨#[]⟩, .int .i64 0, .slice (some ⟨w3.heap.size + 1, 0, none⟩) 1 1], .bool true]) (by simp [results, Tryz.results128, go_sem, k0, k1, k2, k3, hsz3]) rfl ?_
      obtain ⟨hSd, hkd⟩ := A1.out.setD d
      have hkA := (A2.out.trans hkd).there4 w.heap.size (.int .i64 14) (.string ⟨#[]⟩) (.int .i64 0) (.slice (some ⟨w3.heap.size + 1, 0, none⟩) 1 1) (Nat.le_refl _) hs
      have hszA : ∀ v0 v1 v2 v3, (((((w3.setCell ⟨b, 1, none⟩ (.int .i64 (d : Int))).setCell ⟨w.heap.size, 0, none⟩ v0).setCell ⟨w.heap.size, 1, none⟩ v1).setCell ⟨w.heap.size, 2, none⟩ v2).setCell ⟨w.heap.size, 3, none⟩ v3).heap.size = w3.heap.size := fun v0 v1 v2 v3 => by simp
      have hsz1' := hsz1
      refine Or.inl ⟨i3, m3 + 1 + 1, .un 14 p, some ⟨w3.heap.size + 1, 0, none⟩, 1, 1, rfl, PIs.un 14 ((A3.out.next fun q hq => ?_).wide fun q hq => ?_) ?_ (t := 87) (fr := (0, 0)) ?_ 1, A4.out, ((hSd.store4 w.heap.size _ _ _ _ hs).next (below2 _ _ _)), by omega, hkA.next (below2 _ _ _) (by have := hkA.size; omega), by omega, A5.out⟩
      · have hq1 := hq.1
        simp at hq1
        rw [heap2 _ _ _ (by rw [hszA]; exact hq.2), heap4 _ _ _ _ _ _ (by omega), Below.heap_setCell _ _ _ _ (by show q ≠ b; omega)]
      · have hq1 := hq.1
        have hq2 := hq.2
        simp at hq1 ⊢
        omega
      · simp
        omega
      · have := heap_alloc_new ((((((w3.setCell ⟨b, 1, none⟩ (.int .i64 (d : Int))).setCell ⟨w.heap.size, 0, none⟩ (.int .i64 14)).setCell ⟨w.heap.size, 1, none⟩ (.string ⟨#[]⟩)).setCell ⟨w.heap.size, 2, none⟩ (.int .i64 0)).setCell ⟨w.heap.size, 3, none⟩ (.slice (some ⟨w3.heap.size + 1, 0, none⟩) 1 1)).alloc (.cells #[.int .i64 (p.k : Int), .string ⟨p.nm.toArray⟩, .int .i64 (p.n : Int), .slice a l c] 87)) (.cells #[.int .i64 (p.k : Int), .string ⟨p.nm.toArray⟩, .int .i64 (p.n : Int), .slice a l c] 87)
        simpa using this
    · obtain ⟨hRw, hSg, hkw⟩ := HC.out w3 hk3
      obtain ⟨⟨k0, k1, k2, k3⟩, ⟨f0, f1, f2, f3⟩, hsz3⟩ := row4 hRw
      obtain ⟨⟨g0, _, _, _⟩, _, hsz4⟩ := row4 hSg
      obtain ⟨_, c1, _, fz⟩ := hr3.cell
      have fz1 := fz 1
      have hbw : b < w3.heap.size := hr3.size
      have A1 := toHid hr3
      have A2 := toHid hkw
      have A5 := toHid (HNO.out _ _ _ hno)
      have A6 := toHid her
      have hne1 : w.heap.size ≠ b := by omega
      have hne2 : b ≠ w.heap.size := by omega
      clear hr3 hkw hno fz hRw hSg hk3 her
      refine toHid ?_
      go_wp2
      refine bodyPost_ret (v := .tuple #[.agg #[.int .i64 14, .string ⟨#[]⟩, .int .i64 0, .slice (some ⟨w3.heap.size + 1, 0, none⟩) 1 1], .bool false]) (by simp [results, Tryz.results128, go_sem, k0, k1, k2, k3, hsz3]) rfl ?_
      obtain ⟨hRd, hkd⟩ := A1.out.setD (wrap64 (d3 - 1))
      have hkA := (A2.out.trans hkd).there4 w.heap.size (.int .i64 14) (.string ⟨#[]⟩) (.int .i64 0) (.slice (some ⟨w3.heap.size + 1, 0, none⟩) 1 1) (Nat.le_refl _) hs
      exact Or.inr ⟨i3, m3 + 1 + 1, wrap64 (d3 - 1), er, 14, 0, [], some ⟨w3.heap.size + 1, 0, none⟩, 1, 1, rfl, ((hRd.store4 w.heap.size _ _ _ _ hs).next (below2 _ _ _)), A6.out, hkA.next (below2 _ _ _) (by have := hkA.size; omega), by omega, A5.out⟩
  · go_wp2_with (first | (go_at_call 93; refine (HL.out _ (HS1.out.next ((Below.refl _ _).alloc (Nat.le_refl _) _))).mono ?_; rintro r w3 (⟨i3, m3, p, a, l, c, rfl, hp, hD, hS3, hi3, hk3, hm3, hgo⟩ | ⟨i3, m3, d3, er, kk3, n3, s3, a, l, c, rfl, hr3, her, hk3, hm3, hno⟩) <;> refine Hid.out ?_))
    · obtain ⟨hRw, hSg, hkw⟩ := HC.out w3 hk3
      obtain ⟨⟨k0, k1, k2, k3⟩, ⟨f0, f1, f2, f3⟩, hsz3⟩ := row4 hRw
      obtain ⟨⟨g0, _, _, _⟩, _, hsz4⟩ := row4 hSg
      obtain ⟨_, c1, _, fz⟩ := hS3.rd.cell
      have fz1 := fz 1
      have hcast : ((d + 1 : Nat) : Int) = (d : Int) + 1 := by omega
      rw [hcast] at c1
      have hbw : b < w3.heap.size := hS3.rd.size
      have A1 := toHid hS3
      have A2 := toHid hkw
      have A3 := toHid hp
      have A4 := toHid (HDer.out _ _ hD)
      have A5 := toHid (HGO.out _ _ hgo)
      have hne1 : w.heap.size ≠ b := by omega
      have hne2 : b ≠ w.heap.size := by omega
      clear hS3 hkw hp hD hgo fz hRw hSg hk3 hcast
      refine toHid ?_
      go_wp2
      refine bodyPost_ret (v := .tuple #[.agg #[.int .i64 (zz : Int), .string ⟨#[]⟩, .int .i64 0, .slice (some ⟨w3.heap.size + 1, 0, none⟩) 1 1], .bool true]) (by simp [results, Tryz.results128, go_sem, k0, k1, k2, k3, hsz3]) rfl ?_
      obtain ⟨hSd, hkd⟩ := A1.out.setD d
      have hkA := (A2.out.trans hkd).there4 w.heap.size (.int .i64 (zz : Int)) (.string ⟨#[]⟩) (.int .i64 0) (.slice (some ⟨w3.heap.size + 1, 0, none⟩) 1 1) (Nat.le_refl _) hs
      have hszA : ∀ v0 v1 v2 v3, (((((w3.setCell ⟨b, 1, none⟩ (.int .i64 (d : Int))).setCell ⟨w.heap.size, 0, none⟩ v0).setCell ⟨w.heap.size, 1, none⟩ v1).setCell ⟨w.heap.size, 2, none⟩ v2).setCell ⟨w.heap.size, 3, none⟩ v3).heap.size = w3.heap.size := fun v0 v1 v2 v3 => by simp
      have hsz1' := hsz1
      refine Or.inl ⟨i3, m3 + 1 + 1, .un zz p, some ⟨w3.heap.size + 1, 0, none⟩, 1, 1, rfl, PIs.un zz ((A3.out.next fun q hq => ?_).wide fun q hq => ?_) ?_ (t := 87) (fr := (0, 0)) ?_ 1, A4.out, ((hSd.store4 w.heap.size _ _ _ _ hs).next (below2 _ _ _)), by omega, hkA.next (below2 _ _ _) (by have := hkA.size; omega), by omega, A5.out⟩
      · have hq1 := hq.1
        simp at hq1
        rw [heap2 _ _ _ (by rw [hszA]; exact hq.2), heap4 _ _ _ _ _ _ (by omega), Below.heap_setCell _ _ _ _ (by show q ≠ b; omega)]
      · have hq1 := hq.1
        have hq2 := hq.2
        simp at hq1 ⊢
        omega
      · simp
        omega
      · have := heap_alloc_new ((((((w3.setCell ⟨b, 1, none⟩ (.int .i64 (d : Int))).setCell ⟨w.heap.size, 0, none⟩ (.int .i64 (zz : Int))).setCell ⟨w.heap.size, 1, none⟩ (.string ⟨#[]⟩)).setCell ⟨w.heap.size, 2, none⟩ (.int .i64 0)).setCell ⟨w.heap.size, 3, none⟩ (.slice (some ⟨w3.heap.size + 1, 0, none⟩) 1 1)).alloc (.cells #[.int .i64 (p.k : Int), .string ⟨p.nm.toArray⟩, .int .i64 (p.n : Int), .slice a l c] 87)) (.cells #[.int .i64 (p.k : Int), .string ⟨p.nm.toArray⟩, .int .i64 (p.n : Int), .slice a l c] 87)
        simpa using this
    · obtain ⟨hRw, hSg, hkw⟩ := HC.out w3 hk3
      obtain ⟨⟨k0, k1, k2, k3⟩, ⟨f0, f1, f2, f3⟩, hsz3⟩ := row4 hRw
      obtain ⟨⟨g0, _, _, _⟩, _, hsz4⟩ := row4 hSg
      obtain ⟨_, c1, _, fz⟩ := hr3.cell
      have fz1 := fz 1
      have hbw : b < w3.heap.size := hr3.size
      have A1 := toHid hr3
      have A2 := toHid hkw
      have A5 := toHid (HNO.out _ _ _ hno)
      have A6 := toHid her
      have hne1 : w.heap.size ≠ b := by omega
      have hne2 : b ≠ w.heap.size := by omega
      clear hr3 hkw hno fz hRw hSg hk3 her
      refine toHid ?_
      go_wp2
      refine bodyPost_ret (v := .tuple #[.agg #[.int .i64 (zz : Int), .string ⟨#[]⟩, .int .i64 0, .slice (some ⟨w3.heap.size + 1, 0, none⟩) 1 1], .bool false]) (by simp [results, Tryz.results128, go_sem, k0, k1, k2, k3, hsz3]) rfl ?_
      obtain ⟨hRd, hkd⟩ := A1.out.setD (wrap64 (d3 - 1))
      have hkA := (A2.out.trans hkd).there4 w.heap.size (.int .i64 (zz : Int)) (.string ⟨#[]⟩) (.int .i64 0) (.slice (some ⟨w3.heap.size + 1, 0, none⟩) 1 1) (Nat.le_refl _) hs
      exact Or.inr ⟨i3, m3 + 1 + 1, wrap64 (d3 - 1), er, (zz : Int), 0, [], some ⟨w3.heap.size + 1, 0, none⟩, 1, 1, rfl, ((hRd.store4 w.heap.size _ _ _ _ hs).next (below2 _ _ _)), A6.out, hkA.next (below2 _ _ _) (by have := hkA.size; omega), by omega, A5.out⟩

set_option maxHeartbeats 1000000 in
theorem behindSign43 (hok : OkT ts) (F : Nat) (IH : LvAll len ts b bl cp F) (n i d : Nat) (e : Int) (w : World) (hd : d ≤ 6) (hi : i < ts.length) (hA : Ahead n (tAt ts i)) (hF : 10 * (ts.length - i) + (7 - n) < F + 1) (hS : St len ts w b bl cp i d e) :
    Calls Tryz.prog 128 #[.pointer (some ⟨b, 0, none⟩), .int .i64 (n : Int)] w (LvPost len ts [symB (lv n) d] (fun i' p => Der ts n i i' p) (2 * n) b bl cp i d e w) := by
  have hn : 1 ≤ n ∧ n ≤ 6 := by rcases hA with ⟨rfl, _⟩ | ⟨rfl, _⟩ <;> omega
  by_cases h6 : d = 6
  · subst h6
    refine (bs_deep n i e w hS.rd).mono ?_
    rintro r w' ⟨rfl, hr, hb⟩
    refine Or.inr ⟨i, 2, 6, 4, 0, 0, [], none, 0, 0, rfl, hr, by decide, hb, by omega, ?_⟩
    refine No1.sym (by omega) ?_
    rw [bec_ahead_no n _ hA]
    exact No1.deep
  · have hd6 : d < 6 := by omega
    obtain ⟨k, hcl, hkk, hk20, _⟩ := hok.cls hS.rd.lt
    have hkn := ahead_kind n _ k hA hcl
    refine bs_go hok n i d e w hn.1 hd6 hi hA hS k (if n = 6 then 14 else 6) hkk ?_ ?_ ?_
    · rcases hkn with ⟨rfl, rfl⟩ | ⟨rfl, rfl⟩
      · right; decide
      · left; decide
    · intro i' p hD
      rcases hA with ⟨rfl, ht⟩ | ⟨rfl, ht⟩
      · exact Der.nots i i' p ht hD
      · exact Der.neg i i' p ht hD
    · intro w2 hS2
      exact IH n (i + 1) (d + 1) e w2 hn.1 hn.2 (by omega) (by omega) hS2
end
end Go.Proofs.YtihgojcfpnhelaaGreatDoor
