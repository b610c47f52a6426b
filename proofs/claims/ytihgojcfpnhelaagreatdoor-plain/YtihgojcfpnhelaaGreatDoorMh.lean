import Derived.Test.YtihgojcfpnhelaaGreatDoorTb
import Derived.Test.YtihgojcfpnhelaaGreatDoorMg
set_option linter.unusedVariables false
set_option linter.unusedSimpArgs false
namespace Go.Proofs.YtihgojcfpnhelaaGreatDoor
open Go.RowKit

/-- The kinds that the parts of a rule have. -/
def Shape : Pt → Prop
  | .atom k _ _ => k = 1 ∨ k = 2 ∨ k = 7 ∨ k = 8
  | .un k a => (k = 9 ∨ k = 14 ∨ k = 6) ∧ Shape a
  | .bin k a b => (k = 4 ∨ k = 5 ∨ k = 12 ∨ k = 13 ∨ k = 15 ∨ k = 16 ∨ k = 17 ∨ k = 18 ∨ k = 19) ∧ Shape a ∧ Shape b
  | .ifs a b c => Shape a ∧ Shape b ∧ Shape c

theorem Shape.get {p : Pt} (h : Shape p) : ∀ j (hj : j < p.kids.length), Shape p.kids[j] := by
  intro j hj
  cases p with
  | atom k x n => simp [Pt.kids] at hj
  | un k a =>
    obtain rfl : j = 0 := by simp [Pt.kids] at hj; omega
    exact h.2
  | bin k a b =>
    rcases (show j = 0 ∨ j = 1 by simp [Pt.kids] at hj; omega) with rfl | rfl
    · exact h.2.1
    · exact h.2.2
  | ifs a b c =>
    rcases (show j = 0 ∨ j = 1 ∨ j = 2 by simp [Pt.kids] at hj; omega) with rfl | rfl | rfl
    · exact h.1
    · exact h.2.1
    · exact h.2.2

theorem sgn_kind (n : Nat) (h1 : 1 ≤ n) (h5 : n ≤ 5) (t : By) (k : Nat) (h : inB t (sgn n) = true) (hc : Cls t k) : k = 4 ∨ k = 5 ∨ k = 12 ∨ k = 13 ∨ k = 15 ∨ k = 16 ∨ k = 17 ∨ k = 18 ∨ k = 19 := by
  have hn : n = 1 ∨ n = 2 ∨ n = 3 ∨ n = 4 ∨ n = 5 := by omega
  have key : ∀ x m, (x, m) ∈ meanN → t = x → k = m := fun x m hm ht => (cls_word x m hm t k hc).2 ht
  simp only [inB, List.contains_iff_mem] at h
  rcases hn with rfl | rfl | rfl | rfl | rfl <;> simp only [sgn, List.mem_cons, List.not_mem_nil, or_false] at h
  · have := key _ 5 (by decide) h; omega
  · have := key _ 4 (by decide) h; omega
  · rcases h with h | h
    · have := key _ 18 (by decide) h; omega
    · have := key _ 19 (by decide) h; omega
  · rcases h with h | h
    · have := key _ 12 (by decide) h; omega
    · have := key _ 13 (by decide) h; omega
  · rcases h with h | h | h
    · have := key _ 15 (by decide) h; omega
    · have := key _ 16 (by decide) h; omega
    · have := key _ 17 (by decide) h; omega

theorem Der.shape {ts : List (By × Nat)} {n i j : Nat} {p : Pt} (h : Der ts n i j p) : Shape p := by
  induction h with
  | atom i k _ _ hk => exact hk
  | nots _ _ _ _ _ ih => exact ⟨Or.inr (Or.inr rfl), ih⟩
  | neg _ _ _ _ _ ih => exact ⟨Or.inr (Or.inl rfl), ih⟩
  | br _ _ _ _ _ _ ih => exact ⟨Or.inl rfl, ih⟩
  | ifs _ _ _ _ _ _ _ _ _ _ _ _ _ _ _ iha ihb ihc => exact ⟨iha, ihb, ihc⟩
  | up _ _ _ _ _ _ _ ih => exact ih
  | more n i j j' k a b h1 h5 _ hs hc _ iha ihb => exact ⟨sgn_kind n h1 h5 _ k hs hc, iha, ihb⟩
end Go.Proofs.YtihgojcfpnhelaaGreatDoor
namespace Go.Proofs.YtihgojcfpnhelaaGreatDoor
open Go.RowKit

def kidAt (p : Pt) (j : Nat) : Pt := (p.kids[j]?).getD (.atom 1 [] 0)

theorem kidAt_eq (p : Pt) (j : Nat) (h : j < p.kids.length) : kidAt p j = p.kids[j] := by
  simp [kidAt, h]

/-- What a rule is worth is told. -/
theorem worth169 (r : Value) (ρ : By → Vl) {w0 : World} {S : Nat → Prop} {p : Pt} {a : Option Addr} {l c : Nat} (hP : PIs w0 S p a l c) : ∀ w, Shape p → (∀ q, S q → q < w.heap.size ∧ w.heap[q]? = w0.heap[q]?) → (∀ x W, Below w.heap.size w W → Calls Tryz.prog 198 #[r, .string ⟨(x : By).toArray⟩] W (VPost (ρ x) W)) →
    Calls Tryz.prog 220 #[.agg #[namedV r], .agg #[.int .i64 (p.k : Int), .string ⟨p.nm.toArray⟩, .int .i64 (p.n : Int), .slice a l c]] w (VPost (valP ρ p) w) := by
  induction hP with
  | leaf p hk =>
    intro w hSh _ hN
    cases p with
    | atom k x n =>
      rcases hSh with rfl | rfl | rfl | rfl
      · exact w_num r x n none 0 0 w
      · exact w_name r x n none 0 0 (ρ x) w (hN x)
      · exact w_true r x n none 0 0 w
      · exact w_false r x n none 0 0 w
    | un => simp [Pt.kids] at hk
    | bin => simp [Pt.kids] at hk
    | ifs => simp [Pt.kids] at hk
  | node p g cap A L C hg hk hc _ ih =>
    intro w hSh hS hN
    have hK : KidsAt w (some ⟨g, 0, none⟩) p.kids.length (kidAt p) A L C := fun j hj => by
      refine ⟨g, rfl, (hS g hg).1, ?_⟩
      rw [kidAt_eq p j hj, cell_congr (hS g hg).2, cell_congr (hS g hg).2, cell_congr (hS g hg).2, cell_congr (hS g hg).2]
      exact hc j hj
    have hV : KidsV r w p.kids.length (kidAt p) A L C (fun j => valP ρ (kidAt p j)) := fun j hj W hW => by
      have := ih j hj W (hSh.get j hj) (fun q hq => ⟨Nat.lt_of_lt_of_le (hS q hq).1 hW.size, (hW.block q (hS q hq).1).trans (hS q hq).2⟩) (fun x W' hW' => hN x W' (hW.trans (hW'.mono hW.size)))
      rw [← kidAt_eq p j hj] at this
      exact this
    cases p with
    | atom k x n => exact absurd rfl hk
    | un k y =>
      rcases hSh.1 with rfl | rfl | rfl
      · exact w_open r [] 0 _ 1 cap _ A L C _ w (by omega) (by omega) hK hV
      · exact w_neg r [] 0 _ 1 cap _ A L C _ w (by omega) (by omega) hK hV
      · exact w_not r [] 0 _ 1 cap _ A L C _ w (by omega) (by omega) hK hV
    | bin k y z =>
      by_cases h4 : k = 4
      · subst h4
        exact w_and r (.bin 4 y z) _ 2 cap _ A L C _ w rfl rfl hK hV
      · by_cases h5 : k = 5
        · subst h5
          exact w_or r (.bin 5 y z) _ 2 cap _ A L C _ w rfl rfl hK hV
        · have e : valP ρ (.bin k y z) = vTwo k (valP ρ y) (valP ρ z) := by simp only [valP, if_neg h4, if_neg h5]
          rw [e]
          exact w_two r (.bin k y z) _ 2 cap _ A L C _ w rfl (by have := hSh.1; show k ≠ 1 ∧ k ≠ 7 ∧ k ≠ 8 ∧ k ≠ 2 ∧ k ≠ 9 ∧ k ≠ 14 ∧ k ≠ 6 ∧ k ≠ 4 ∧ k ≠ 5 ∧ k ≠ 3; omega) hK hV
    | ifs y z u => exact w_if r (.ifs y z u) _ 3 cap _ A L C _ w rfl rfl hK hV
end Go.Proofs.YtihgojcfpnhelaaGreatDoor
