import Derived.Test.YtihgojcfpnhelaaGreatDoorR2K
set_option maxRecDepth 100000
set_option maxHeartbeats 4000000
set_option linter.unusedVariables false
set_option linter.unusedSimpArgs false
namespace Go.Proofs.YtihgojcfpnhelaaGreatDoor
open Go.RowKit
section
attribute [local go_sem] idx_eq app_eq
def betW : List By := [[111, 114], [97, 110, 100], [61], [60], [43], [45], [42], [47], [37]]
def behO : Option By → Bool | none => false | some q => behB q
def pieceB (prev : Option By) (t : By) : By :=
 if inB t betW && behO prev then [32] ++ t ++ [32]
 else if t = [44] || t = [110, 111, 116] then t ++ [32]
 else shortB t
def prevB (ts : List (By × Nat)) (k : Nat) : Option By := if k = 0 then none else (ts[k - 1]?).map (·.1)
def toldTo (ts : List (By × Nat)) : Nat → By
 | 0 => []
 | k + 1 => toldTo ts k ++ pieceB (prevB ts k) ((ts[k]?).map (·.1) |>.getD [])
theorem shortB_len (t : By) : (shortB t).length ≤ t.length := by
 induction t with
 | nil => simp [shortB]
 | cons c r ih =>
  cases r with
  | nil => simp [shortB]
  | cons d r =>
   unfold shortB
   split
   ·simp only [List.length_cons] at ih ⊢
    omega
   ·simp
theorem pieceB_len (q : Option By) (t : By) : (pieceB q t).length ≤ t.length + 2 := by
 have := shortB_len t
 unfold pieceB
 split
 ·simp
 ·split
  ·simp
  ·omega
theorem toks_len19 (f : Nat) (l : By) (k : Nat) (t : By) (p : Nat) (h : (t, p) ∈ (toks f l k).1) : t.length ≤ 19 := by
 induction f generalizing l k with
 | zero => simp [toks] at h
 | succ f ih =>
  match l with
  | [] => simp [toks] at h
  | c :: r =>
   unfold toks at h
   split at h
   ·exact ih _ _ h
   ·split at h
    ·rename_i hok
     simp only [List.mem_cons, Prod.mk.injEq] at h
     rcases h with ⟨rfl, rfl⟩ | h
     ·unfold tokOK at hok
      split at hok
      ·simp only [Bool.and_eq_true, decide_eq_true_eq] at hok
       omega
      ·split at hok
       ·simp only [decide_eq_true_eq] at hok
        omega
       ·simp only [inB, signW, List.contains_iff_mem, List.mem_cons, List.not_mem_nil, or_false] at hok
        rcases hok with h | h | h | h | h | h | h | h | h | h <;> rw [h] <;> simp
     ·exact ih _ _ h
    ·simp at h
theorem toldTo_len (ts : List (By × Nat)) (h : ∀ t p, (t, p) ∈ ts → t.length ≤ 19) (k : Nat) : (toldTo ts k).length ≤ 21 * k := by
 induction k with
 | zero => simp [toldTo]
 | succ k ih =>
  have h1 := pieceB_len (prevB ts k) ((ts[k]?).map (·.1) |>.getD [])
  have h2 : ((ts[k]?).map (·.1) |>.getD []).length ≤ 19 := by
   cases hk : ts[k]? with
   | none => simp
   | some x =>
    obtain ⟨hlt, rfl⟩ := List.getElem?_eq_some_iff.1 hk
    exact h _ _ (List.getElem_mem hlt)
  unfold toldTo
  rw [List.length_append]
  omega
theorem toldTo_succ (ts : List (By × Nat)) (k : Nat) (h : k < ts.length) : toldTo ts (k + 1) = toldTo ts k ++ pieceB (prevB ts k) ts[k].1 := by
 conv => lhs; unfold toldTo
 rw [List.getElem?_eq_getElem h]
 rfl
theorem prevB_succ (ts : List (By × Nat)) (k : Nat) (h : k + 1 ≤ ts.length) : prevB ts (k + 1) = some (ts[k]'(by omega)).1 := by
 unfold prevB
 rw [if_neg (by omega)]
 simp [List.getElem?_eq_getElem (show k < ts.length by omega)]
end
end Go.Proofs.YtihgojcfpnhelaaGreatDoor
