import Derived.Test.YtihgojcfpnhelaaDoorU
import Derived.Test.YtihgojcfpnhelaaDoorTb
namespace Go.Proofs.YtihgojcfpnhelaaDoor
open Go.RowKit

def ptoks (len : Nat) (ts : List (By × Nat)) : List PT := ts.map (fun x => (kindB x.1, x.2, nmB x.1, nuB x.1)) ++ [(0, len, [], 0)]

section
variable {len : Nat} {ts : List (By × Nat)}

theorem ptoks_length : (ptoks len ts).length = ts.length + 1 := by simp [ptoks]

theorem ptoks_lt {i : Nat} (h : i < (ptoks len ts).length) (hi : i < ts.length) : (ptoks len ts)[i] = (kindB (tAt ts i), pAt len ts i, nmB (tAt ts i), nuB (tAt ts i)) := by
  have h2 : pAt len ts i = ts[i].2 := by simp [pAt, hi]
  rw [tAt_lt ts i hi, h2]
  simp [ptoks, hi]

theorem ptoks_end {i : Nat} (h : i < (ptoks len ts).length) (hi : ¬ i < ts.length) : (ptoks len ts)[i] = (0, len, [], 0) := by
  simp [ptoks, List.getElem_append, hi]

theorem ptoks_at {i : Nat} (h : i < (ptoks len ts).length) : ((ptoks len ts)[i]).2.1 = pAt len ts i := by
  by_cases hi : i < ts.length
  · rw [ptoks_lt h hi]
  · rw [ptoks_end h hi]
    simp [pAt, show ts.length ≤ i by omega]

theorem OkT.tk (hk : OkT ts) {i : Nat} (hi : i < ts.length) : Tk (tAt ts i) := by
  obtain ⟨_, c, r, h, h63, h78⟩ := hk.get hi
  rw [h]
  exact ⟨c, r, rfl, h63, fun he => h78 (by unfold wName at he; simp at he; exact he.1)⟩

theorem OkT.notNone (hk : OkT ts) (i : Nat) : tAt ts i ≠ wNone := by
  by_cases hi : i < ts.length
  · obtain ⟨_, c, r, h, h63, h78⟩ := hk.get hi
    rw [h]
    intro he
    apply h78
    unfold wNone at he
    simp at he
    exact he.1
  · rw [tAt_ge ts i (by omega)]
    decide

/-- The kind of the token at a place. -/
theorem OkT.cls (hk : OkT ts) {i : Nat} (h : i < (ptoks len ts).length) : ∃ k : Nat, Cls (tAt ts i) k ∧ ((ptoks len ts)[i]).1 = (k : Int) ∧ k < 20 ∧ (k = 0 ↔ ¬ i < ts.length) := by
  by_cases hi : i < ts.length
  · obtain ⟨ho, c, r, hc, _⟩ := hk.get hi
    obtain ⟨k, hcl, hkk⟩ := cls_tok (tAt ts i) ho (by rw [hc]; simp)
    refine ⟨k, hcl, by rw [ptoks_lt h hi]; exact hkk, ?_, ?_⟩
    · rcases hcl with ⟨_, rfl⟩ | ⟨_, _, rfl⟩ | ⟨_, rfl⟩ | hm
      · omega
      · omega
      · omega
      · exact (show ∀ x, x ∈ meanN → x.2 < 20 by decide) _ hm
    · constructor
      · rintro rfl
        rcases hcl with ⟨_, h0⟩ | ⟨_, _, h0⟩ | ⟨h0, _⟩ | hm
        · omega
        · omega
        · rw [hc] at h0; cases h0
        · exact absurd ((show ∀ x, x ∈ meanN → x.2 ≠ 0 by decide) _ hm rfl) id
      · intro h0; exact absurd hi h0
  · refine ⟨0, Or.inr (Or.inr (Or.inl ⟨tAt_ge ts i (by omega), rfl⟩)), by rw [ptoks_end h hi]; rfl, by omega, by simp [hi]⟩

/-- The token at a place, known by its kind. -/
theorem OkT.word (hok : OkT ts) {i : Nat} (h : i < (ptoks len ts).length) (x : By) (n : Nat) (hm : (x, n) ∈ meanN) : ((ptoks len ts)[i]).1 = (n : Int) ↔ tAt ts i = x := by
  obtain ⟨k, hc, hk, _, _⟩ := hok.cls h
  rw [hk]
  have := cls_word x n hm _ k hc
  constructor
  · intro h; exact this.1 (by omega)
  · intro h; have := this.2 h; omega
end

/-- The state of the reader: i tokens are read. -/
structure St (len : Nat) (ts : List (By × Nat)) (w : World) (b bl cp i : Nat) (d : Nat) (e : Int) : Prop where
  rd : Rdr w b bl cp (ptoks len ts) i (d : Int) e
  env : Env w
  low : 9 ≤ bl

theorem St.le {len : Nat} {ts : List (By × Nat)} {w : World} {b bl cp i d : Nat} {e : Int} (h : St len ts w b bl cp i d e) : i ≤ ts.length := by
  have := h.rd.lt
  rw [ptoks_length] at this
  omega

/-- A part of the program's. -/
abbrev pV (k : Int) (s : By) (n : Int) (a : Option Addr) (l c : Nat) : Value := .agg #[.int .i64 k, .string ⟨s.toArray⟩, .int .i64 n, .slice a l c]

/-- How a part is read. -/
def LvPost (len : Nat) (ts : List (By × Nat)) (S : List By) (D : Nat → Pt → Prop) (c1 : Nat) (b bl cp i d : Nat) (e : Int) (w : World) (r : Ending) (w' : World) : Prop :=
  (∃ (i' m : Nat) (p : Pt) (a : Option Addr) (l c : Nat), r = .returned (.tuple #[.agg #[.int .i64 (p.k : Int), .string ⟨p.nm.toArray⟩, .int .i64 (p.n : Int), .slice a l c], .bool true]) ∧ PIs w' (fun q => w.heap.size ≤ q ∧ q < w'.heap.size) p a l c ∧ D i' p ∧ St len ts w' b bl cp i' d e ∧ i < i' ∧ Kp b w w' ∧ m + c1 ≤ 20 * (i' - i) ∧ Go1 len ts S i i' m) ∨
  (∃ (i' m : Nat) (d' er k n : Int) (s : By) (a : Option Addr) (l c : Nat), r = .returned (.tuple #[.agg #[.int .i64 k, .string ⟨s.toArray⟩, .int .i64 n, .slice a l c], .bool false]) ∧ Rdr w' b bl cp (ptoks len ts) i' d' er ∧ er ≠ 0 ∧ Kp b w w' ∧ m + c1 ≤ 20 * (ts.length - i) + 20 ∧ No1 len ts S i er (pAt len ts i') m)

/-- 'level', for all that is below a measure. -/
def LvAll (len : Nat) (ts : List (By × Nat)) (b bl cp F : Nat) : Prop :=
  ∀ (n i d : Nat) (e : Int) (w : World), 1 ≤ n → n ≤ 6 → d ≤ 6 → 10 * (ts.length - i) + (7 - n) < F → St len ts w b bl cp i d e →
    Calls Tryd.prog 29 #[.pointer (some ⟨b, 0, none⟩), .int .i64 (n : Int)] w (LvPost len ts [symB (lv n) d] (fun i' p => Der ts n i i' p) (2 * n) b bl cp i d e w)

theorem St.setD {len : Nat} {ts : List (By × Nat)} {w : World} {b bl cp i d : Nat} {e : Int} (h : St len ts w b bl cp i d e) (d' : Nat) :
    St len ts (w.setCell ⟨b, 1, none⟩ (.int .i64 (d' : Int))) b bl cp i d' e ∧ Kp b w (w.setCell ⟨b, 1, none⟩ (.int .i64 (d' : Int))) := by
  obtain ⟨h1, h2⟩ := h.rd.setD (d' : Int)
  exact ⟨⟨h1, h.env.below h2.bel (by have := h.low; have := h.rd.blk; omega), h.low⟩, h2⟩

theorem St.down {len : Nat} {ts : List (By × Nat)} {w w' : World} {b bl cp i i' d d' : Nat} {e e' : Int} (h : St len ts w b bl cp i d e) (hr : Rdr w' b bl cp (ptoks len ts) i' (d' : Int) e') (hb : Below b w w') : St len ts w' b bl cp i' d' e' :=
  ⟨hr, h.env.below hb (by have := h.low; have := h.rd.blk; omega), h.low⟩

theorem St.next {len : Nat} {ts : List (By × Nat)} {w w' : World} {b bl cp i d : Nat} {e : Int} (h : St len ts w b bl cp i d e) (hb : Below w.heap.size w w') : St len ts w' b bl cp i d e :=
  ⟨h.rd.next hb, h.env.next hb, h.low⟩

theorem St.store {len : Nat} {ts : List (By × Nat)} {w : World} {b bl cp i d : Nat} {e : Int} (h : St len ts w b bl cp i d e) {g j : Nat} {u : Value} (hg : b < g) : St len ts (w.setCell ⟨g, j, none⟩ u) b bl cp i d e :=
  ⟨h.rd.store (by omega) (by have := h.rd.blk; omega), h.env.below ((Below.refl b w).setCell (p := ⟨g, j, none⟩) (by show b ≤ g; omega) _) (by have := h.low; have := h.rd.blk; omega), h.low⟩

theorem St.store4 {len : Nat} {ts : List (By × Nat)} {w : World} {b bl cp i d : Nat} {e : Int} (h : St len ts w b bl cp i d e) (g : Nat) (v0 v1 v2 v3 : Value) (hg : b < g) : St len ts ((((w.setCell ⟨g, 0, none⟩ v0).setCell ⟨g, 1, none⟩ v1).setCell ⟨g, 2, none⟩ v2).setCell ⟨g, 3, none⟩ v3) b bl cp i d e :=
  (((h.store hg).store hg).store hg).store hg

/-- A sign ahead: 'not' at a TEST, a minus at an ATOM. -/
def Ahead (n : Nat) (t : By) : Prop := (n = 3 ∧ t = [110, 111, 116]) ∨ (n = 6 ∧ t = [45])

theorem bec_ahead_go (n : Nat) (t : By) (d : Nat) (h : Ahead n t) (hd : d < 6) : becB (lv n) d t = [t, symB (lv n) (d + 1)] := by
  have hdp : ∀ k, deepB t k d = [t, symB k (d + 1)] := fun k => by unfold deepB; rw [if_neg (by omega)]
  rcases h with ⟨rfl, rfl⟩ | ⟨rfl, rfl⟩
  · exact hdp 84
  · exact hdp 65

theorem bec_ahead_no (n : Nat) (t : By) (h : Ahead n t) : becB (lv n) 6 t = [wDeep] := by
  rcases h with ⟨rfl, rfl⟩ | ⟨rfl, rfl⟩ <;> decide

theorem ahead_kind (n : Nat) (t : By) (k : Nat) (h : Ahead n t) (hc : Cls t k) : (n = 3 ∧ k = 6) ∨ (n = 6 ∧ k = 13) := by
  rcases h with ⟨rfl, rfl⟩ | ⟨rfl, rfl⟩
  · exact Or.inl ⟨rfl, (cls_word [110, 111, 116] 6 (by decide) _ k hc).2 rfl⟩
  · exact Or.inr ⟨rfl, (cls_word [45] 13 (by decide) _ k hc).2 rfl⟩

/-- One part in another. -/
theorem PIs.un {w : World} {S : Nat → Prop} {p : Pt} {a : Option Addr} {l c g : Nat} {t : TypeId} {fr : Nat × Nat} (k : Nat) (h : PIs w S p a l c) (hg : S g) (hb : w.heap[g]? = some (.cells #[.int .i64 (p.k : Int), .string ⟨p.nm.toArray⟩, .int .i64 (p.n : Int), .slice a l c] t fr)) (cap : Nat) : PIs w S (.un k p) (some ⟨g, 0, none⟩) 1 cap := by
  refine PIs.node (.un k p) g cap (fun _ => a) (fun _ => l) (fun _ => c) hg (by simp [Pt.kids]) (fun j hj => ?_) (fun j hj => ?_)
  · obtain rfl : j = 0 := by simp [Pt.kids] at hj; omega
    exact ⟨(cell_of_row w g 0 _ _ _ hb).trans rfl, (cell_of_row w g 1 _ _ _ hb).trans rfl, (cell_of_row w g 2 _ _ _ hb).trans rfl, (cell_of_row w g 3 _ _ _ hb).trans rfl⟩
  · obtain rfl : j = 0 := by simp [Pt.kids] at hj; omega
    exact h

/-- Two parts in another. -/
theorem PIs.bin {w : World} {S : Nat → Prop} {p p' : Pt} {a a' : Option Addr} {l c l' c' g : Nat} {t : TypeId} {fr : Nat × Nat} (k : Nat) (h : PIs w S p a l c) (h' : PIs w S p' a' l' c') (hg : S g) (hb : w.heap[g]? = some (.cells #[.int .i64 (p.k : Int), .string ⟨p.nm.toArray⟩, .int .i64 (p.n : Int), .slice a l c, .int .i64 (p'.k : Int), .string ⟨p'.nm.toArray⟩, .int .i64 (p'.n : Int), .slice a' l' c'] t fr)) (cap : Nat) : PIs w S (.bin k p p') (some ⟨g, 0, none⟩) 2 cap := by
  refine PIs.node (.bin k p p') g cap (fun j => if j = 0 then a else a') (fun j => if j = 0 then l else l') (fun j => if j = 0 then c else c') hg (by simp [Pt.kids]) (fun j hj => ?_) (fun j hj => ?_)
  · have hj2 : j = 0 ∨ j = 1 := by simp [Pt.kids] at hj; omega
    rcases hj2 with rfl | rfl
    · exact ⟨(cell_of_row w g 0 _ _ _ hb).trans rfl, (cell_of_row w g 1 _ _ _ hb).trans rfl, (cell_of_row w g 2 _ _ _ hb).trans rfl, (cell_of_row w g 3 _ _ _ hb).trans rfl⟩
    · exact ⟨(cell_of_row w g 4 _ _ _ hb).trans rfl, (cell_of_row w g 5 _ _ _ hb).trans rfl, (cell_of_row w g 6 _ _ _ hb).trans rfl, (cell_of_row w g 7 _ _ _ hb).trans rfl⟩
  · have hj2 : j = 0 ∨ j = 1 := by simp [Pt.kids] at hj; omega
    rcases hj2 with rfl | rfl
    · exact h
    · exact h'
end Go.Proofs.YtihgojcfpnhelaaDoor
