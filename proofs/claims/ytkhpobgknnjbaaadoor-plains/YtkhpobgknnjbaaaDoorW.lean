import Derived.Test.YtkhpobgknnjbaaaDoorU
import Derived.Test.YtkhpobgknnjbaaaDoorV
namespace Go.Proofs.YtkhpobgknnjbaaaDoor
open Go.RowKit

def ptoks (len : Nat) (ts : List (By × Nat)) : List PT := ts.map (fun x => (kindB x.1, x.2, textB x.1)) ++ [(0, len, [])]

def spellAll (tk : List PT) : By := tk.flatMap fun t => spellOf t.1 ++ t.2.2

theorem spellAll_snoc (tk : List PT) (t : PT) : spellAll (tk ++ [t]) = spellAll tk ++ (spellOf t.1 ++ t.2.2) := by simp [spellAll]

/-- All tokens are right. -/
def OkT (ts : List (By × Nat)) : Prop := ∀ t p, (t, p) ∈ ts → tokOK t = true ∧ ∃ c r, t = c :: r ∧ c ≠ 63 ∧ c ≠ 78

section
variable {len : Nat} {ts : List (By × Nat)}

theorem ptoks_length : (ptoks len ts).length = ts.length + 1 := by simp [ptoks]

theorem ptoks_lt {i : Nat} (h : i < (ptoks len ts).length) (hi : i < ts.length) : (ptoks len ts)[i] = (kindB (tAt ts i), pAt len ts i, textB (tAt ts i)) := by
  have h2 : pAt len ts i = ts[i].2 := by simp [pAt, hi]
  rw [tAt_lt ts i hi, h2]
  simp [ptoks, hi]

theorem ptoks_end {i : Nat} (h : i < (ptoks len ts).length) (hi : ¬ i < ts.length) : (ptoks len ts)[i] = (0, len, []) := by
  simp [ptoks, List.getElem_append, hi]

theorem ptoks_at {i : Nat} (h : i < (ptoks len ts).length) : ((ptoks len ts)[i]).2.1 = pAt len ts i := by
  by_cases hi : i < ts.length
  · rw [ptoks_lt h hi]
  · rw [ptoks_end h hi]
    simp [pAt, show ts.length ≤ i by omega]

theorem OkT.get (hk : OkT ts) {i : Nat} (hi : i < ts.length) : tokOK (tAt ts i) = true ∧ ∃ c r, tAt ts i = c :: r ∧ c ≠ 63 ∧ c ≠ 78 := by
  rw [tAt_lt ts i hi]
  exact hk ts[i].1 ts[i].2 (List.getElem_mem hi)

theorem OkT.tk (hk : OkT ts) {i : Nat} (hi : i < ts.length) : Tk (tAt ts i) := by
  obtain ⟨_, c, r, h, h63, h78⟩ := hk.get hi
  rw [h]
  exact ⟨c, r, rfl, h63, fun he => h78 (by unfold wName at he; simp at he; exact he.1)⟩

theorem OkT.notNone (hk : OkT ts) (i : Nat) : tAt ts i ≠ wNone := by
  by_cases hi : i < ts.length
  · obtain ⟨_, c, r, h, h63, h78⟩ := hk.get hi
    rw [h]
    intro he
    apply h78
    unfold wNone at he
    simp at he
    exact he.1
  · rw [tAt_ge ts i (by omega)]
    decide

/-- The kind of the token at a place. -/
theorem OkT.cls (hk : OkT ts) {i : Nat} (h : i < (ptoks len ts).length) : ∃ k : Nat, Cls (tAt ts i) k ∧ ((ptoks len ts)[i]).1 = (k : Int) ∧ k < 20 ∧ (k = 0 ↔ ¬ i < ts.length) := by
  by_cases hi : i < ts.length
  · obtain ⟨ho, c, r, hc, _⟩ := hk.get hi
    obtain ⟨k, hcl, hkk⟩ := cls_tok (tAt ts i) ho (by rw [hc]; simp)
    refine ⟨k, hcl, by rw [ptoks_lt h hi]; exact hkk, ?_, ?_⟩
    · rcases hcl with ⟨_, rfl⟩ | ⟨_, _, rfl⟩ | ⟨_, rfl⟩ | hm
      · omega
      · omega
      · omega
      · exact (show ∀ x, x ∈ meanN → x.2 < 20 by decide) _ hm
    · constructor
      · rintro rfl
        rcases hcl with ⟨_, h0⟩ | ⟨_, _, h0⟩ | ⟨h0, _⟩ | hm
        · omega
        · omega
        · rw [hc] at h0; cases h0
        · exact absurd ((show ∀ x, x ∈ meanN → x.2 ≠ 0 by decide) _ hm rfl) id
      · intro h0; exact absurd hi h0
  · refine ⟨0, Or.inr (Or.inr (Or.inl ⟨tAt_ge ts i (by omega), rfl⟩)), by rw [ptoks_end h hi]; rfl, by omega, by simp [hi]⟩

theorem prev_succ {i : Nat} (hi : i < ts.length) : prevB ts (i + 1) = some (tAt ts i) := by
  rw [prevB_succ ts i (by omega), tAt_lt ts i hi]

theorem told_succ {i : Nat} (hi : i < ts.length) : toldTo ts (i + 1) = toldTo ts i ++ pieceB (prevB ts i) (tAt ts i) := by
  rw [toldTo_succ ts i hi, tAt_lt ts i hi]

/-- A token that is told plainly is taken. -/
theorem told_take {i : Nat} (h : i < (ptoks len ts).length) (hi : i < ts.length) {k : Nat} (hkk : ((ptoks len ts)[i]).1 = (k : Int)) (hp : pieceB (prevB ts i) (tAt ts i) = spellOf (k : Int) ++ textB (tAt ts i)) (tk : List PT) (ht : spellAll tk = toldTo ts i) :
    spellAll (tk ++ [(ptoks len ts)[i]]) = toldTo ts (i + 1) := by
  rw [spellAll_snoc, told_succ hi, hp, ht, hkk, ptoks_lt h hi]
end

/-- The state of the reader: i tokens are read, told as they must be. -/
structure St (len : Nat) (ts : List (By × Nat)) (w : World) (b bl cp i : Nat) (tk : List PT) (d : Nat) (e : Int) : Prop where
  rd : Rdr w b bl cp (ptoks len ts) i tk (d : Int) e
  told : spellAll tk = toldTo ts i
  env : Env w
  low : 9 ≤ bl

theorem St.le {len : Nat} {ts : List (By × Nat)} {w : World} {b bl cp i d : Nat} {tk : List PT} {e : Int} (h : St len ts w b bl cp i tk d e) : i ≤ ts.length := by
  have := h.rd.lt
  rw [ptoks_length] at this
  omega

/-- How a part is read. -/
def LvPost (len : Nat) (ts : List (By × Nat)) (S : List By) (c1 : Nat) (b bl cp i d : Nat) (e : Int) (w : World) (r : Ending) (w' : World) : Prop :=
  (r = .returned (.bool true) ∧ ∃ i' tk' m, St len ts w' b bl cp i' tk' d e ∧ i < i' ∧ behO (prevB ts i') = true ∧ Below b w w' ∧ m + c1 ≤ 20 * (i' - i) ∧ Go1 len ts S i i' m) ∨
  (r = .returned (.bool false) ∧ ∃ i' tk' d' er m, Rdr w' b bl cp (ptoks len ts) i' tk' d' er ∧ er ≠ 0 ∧ Below b w w' ∧ m + c1 ≤ 20 * (ts.length - i) + 20 ∧ No1 len ts S i er (pAt len ts i') m)

/-- 'level', for all that is below a measure. -/
def LvAll (len : Nat) (ts : List (By × Nat)) (b bl cp F : Nat) : Prop :=
  ∀ (n i d : Nat) (tk : List PT) (e : Int) (w : World), 1 ≤ n → n ≤ 6 → d ≤ 6 → 10 * (ts.length - i) + (7 - n) < F → St len ts w b bl cp i tk d e → behO (prevB ts i) = false →
    Calls Tryd.prog 29 #[.pointer (some ⟨b, 0, none⟩), .int .i64 (n : Int)] w (LvPost len ts [symB (lv n) d] (2 * n) b bl cp i d e w)

theorem St.setD {len : Nat} {ts : List (By × Nat)} {w : World} {b bl cp i d : Nat} {tk : List PT} {e : Int} (h : St len ts w b bl cp i tk d e) (d' : Nat) :
    St len ts (w.setCell ⟨b, 2, none⟩ (.int .i64 (d' : Int))) b bl cp i tk d' e ∧ Below b w (w.setCell ⟨b, 2, none⟩ (.int .i64 (d' : Int))) := by
  obtain ⟨h1, h2⟩ := h.rd.setD (d' : Int)
  exact ⟨⟨h1, h.told, h.env.below h2 (by have := h.low; have := h.rd.blk; omega), h.low⟩, h2⟩

theorem St.down {len : Nat} {ts : List (By × Nat)} {w w' : World} {b bl cp i i' d d' : Nat} {tk tk' : List PT} {e e' : Int} (h : St len ts w b bl cp i tk d e) (hr : Rdr w' b bl cp (ptoks len ts) i' tk' (d' : Int) e') (ht : spellAll tk' = toldTo ts i') (hb : Below b w w') : St len ts w' b bl cp i' tk' d' e' :=
  ⟨hr, ht, h.env.below hb (by have := h.low; have := h.rd.blk; omega), h.low⟩

theorem ptc_length (l : List PT) : (ptc l).length = l.length * 3 := by
  induction l with
  | nil => rfl
  | cons t l ih => simp [ptc] at *; omega

/-- The last token taken, marked. -/
theorem Rdr.mark {w : World} {b bl cp : Nat} {pt : List PT} {i : Nat} {tk : List PT} {t : PT} {d e : Int} (h : Rdr w b bl cp pt i (tk ++ [t]) d e) :
    ∃ g cap, w.cell? ⟨b, 1, none⟩ = some (.slice (some ⟨g, 0, none⟩) (tk.length + 1) cap) ∧ w.cell? ⟨g, tk.length * 3, none⟩ = some (.int .i64 t.1) ∧ w.frozen? ⟨g, tk.length * 3, none⟩ = false ∧ b < g ∧
      ∀ z : Int, 0 ≤ z ∧ z < 20 → Rdr (w.setCell ⟨g, tk.length * 3, none⟩ (.int .i64 z)) b bl cp pt i (tk ++ [(z, t.2)]) d e ∧ Below b w (w.setCell ⟨g, tk.length * 3, none⟩ (.int .i64 z)) := by
  obtain ⟨tv, hb, ho⟩ := h.own
  have hlen : (tk ++ [t]).length = tk.length + 1 := by simp
  rw [hlen] at ho
  rcases ho.2 with ⟨_, h0⟩ | ⟨g, cap, cur, rfl, hg, hgg, hrest⟩
  · omega
  · have hx : (ptc (tk ++ [t]))[tk.length * 3]? = some (.int .i64 t.1) := by
      rw [ptc_snoc, List.getElem?_append_right (by rw [ptc_length]; exact Nat.le_refl _), ptc_length]
      simp
    refine ⟨g, cap, by rw [cell_of_row w b 1 _ _ _ hb]; rfl, ?_, ho.frozenAt _, by omega, fun z hz => ?_⟩
    · rw [ho.cellAt _ (by omega)]
      exact hx
    · have hbel : Below b w (w.setCell ⟨g, tk.length * 3, none⟩ (.int .i64 z)) := (Below.refl b w).setCell (p := ⟨g, tk.length * 3, none⟩) (by show b ≤ g; omega) _
      refine ⟨⟨⟨.slice (some ⟨g, 0, none⟩) (tk.length + 1) cap, ?_, ?_⟩, h.blk, h.lt, h.cap, h.many, by have := h.cnt; simpa using this, fun u hu => ?_, h.kip, fun j hj => ?_⟩, hbel⟩
      · rw [Below.heap_setCell _ _ _ _ (by show b ≠ g; omega)]
        exact hb
      · have hs := (ho.stored (tk.length * 3) (.int .i64 z)).1
        have e1 : (ptc (tk ++ [t])).set (tk.length * 3) (.int .i64 z) = ptc (tk ++ [(z, t.2)]) := by
          rw [ptc_snoc, ptc_snoc, List.set_append_right _ _ (by rw [ptc_length]; exact Nat.le_refl _), ptc_length]
          simp
        rw [e1] at hs
        simpa using hs
      · rw [List.mem_append, List.mem_singleton] at hu
        rcases hu with hu | rfl
        · exact h.kin u (by simp [hu])
        · exact hz
      · rw [hbel.cell h.blk, hbel.cell h.blk, hbel.cell h.blk]; exact h.left j hj

end Go.Proofs.YtkhpobgknnjbaaaDoor
