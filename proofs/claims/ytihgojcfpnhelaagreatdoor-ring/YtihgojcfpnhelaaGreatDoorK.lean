import Derived.Test.YtihgojcfpnhelaaGreatDoorJ
set_option linter.unusedVariables false
set_option linter.unusedSimpArgs false
namespace Go.Proofs.YtihgojcfpnhelaaGreatDoor
open Go.RowKit
attribute [local go_sem] idx_eq app_eq

theorem toks_good (f : Nat) (l : By) (k : Nat) (t : By) (p : Nat) (h : (t, p) ∈ (toks f l k).1) : ∃ c r, t = c :: r ∧ c ≠ 63 ∧ c ≠ 78 := by
  induction f generalizing l k with
  | zero => simp [toks] at h
  | succ f ih =>
    match l with
    | [] => simp [toks] at h
    | c :: r =>
      unfold toks at h
      split at h
      · exact ih _ _ h
      · split at h
        · rename_i hok
          simp only [List.mem_cons, Prod.mk.injEq] at h
          rcases h with ⟨rfl, rfl⟩ | h
          · have h1 := rowLen_pos c r
            obtain ⟨n, hn⟩ : ∃ n, rowLen (c :: r) = n + 1 := ⟨rowLen (c :: r) - 1, by omega⟩
            rw [hn, List.take_succ_cons] at hok ⊢
            refine ⟨c, _, rfl, ?_⟩
            have key : ∀ d : UInt8, isD d = false → isL d = false → inB (d :: List.take n r) signW = false → d ≠ c := by
              rintro d g1 g2 g3 rfl
              unfold tokOK at hok
              rw [show headD (d :: List.take n r) = isD d from rfl, show headL (d :: List.take n r) = isL d from rfl, g1, g2, g3] at hok
              simp at hok
            exact ⟨(key 63 (by decide) (by decide) (by simp [inB, signW])).symm, (key 78 (by decide) (by decide) (by simp [inB, signW])).symm⟩
          · exact ih _ _ h
        · simp at h

theorem toks_length (f : Nat) (l : By) (k : Nat) : (toks f l k).1.length ≤ f := by
  induction f generalizing l k with
  | zero => simp [toks]
  | succ f ih =>
    match l with
    | [] => simp [toks]
    | c :: r =>
      unfold toks
      split
      · exact Nat.le_succ_of_le (ih _ _)
      · split
        · simp only [List.length_cons]
          exact Nat.succ_le_succ (ih _ _)
        · simp

theorem runB_step (len n : Nat) (x : By) (K : List By) (ts : List (By × Nat)) (t : By) (p : Nat) (h : (ts = [] ∧ t = [] ∧ p = len) ∨ ∃ r, ts = (t, p) :: r) :
    runB len (n + 1) (x :: K) ts = if x = wDeep then some (4, p) else match becomesB x t with
      | some m => runB len n (m ++ K) ts
      | none => if (if x = wName then nameB t else decide (t ≠ []) && decide (x = t)) then runB len n K ts.tail else some (3, p) := by
  rcases h with ⟨rfl, rfl, rfl⟩ | ⟨r, rfl⟩ <;> rfl

end Go.Proofs.YtihgojcfpnhelaaGreatDoor
