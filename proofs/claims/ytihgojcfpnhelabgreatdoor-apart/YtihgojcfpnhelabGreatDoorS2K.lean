import Derived.Test.YtihgojcfpnhelabGreatDoorS2Q
import Derived.Laws.AppendOwnNone
set_option maxRecDepth 100000
set_option maxHeartbeats 4000000
set_option linter.unusedVariables false
set_option linter.unusedSimpArgs false
namespace Go.Proofs.YtihgojcfpnhelabGreatDoor
open Go.RowKit
section
attribute [local go_sem] idx_eq app_eq
def strs (l : List By) : List Value := l.map fun x => .string ⟨x.toArray⟩
def Own (w : World) (B : Nat) (v : Value) (l : List By) : Prop := w.ownsRow B 9 1 v l.length (strs l)
theorem own_lit (w : World) (l : List By) (hl : l.length ≤ 1000) : Own (w.alloc (.cells (strs l).toArray 9)) w.heap.size (.slice (some ⟨w.heap.size, 0, none⟩) l.length l.length) l := by
 have h := World.ownsRow_lit (base := w.heap.size) (e := 9) (size := 1) w (strs l).toArray l.length (Nat.le_refl _) (by unfold maxLen; omega) (by simp [strs])
 exact h
theorem info9 : (Tryz.prog.info? 9).map (fun i => (i.zero, i.size, i.bytes)) = some (some (.string ⟨#[]⟩), 1, 16) := by kernel_rfl
end
section
attribute [local go_sem] idx_eq app_eq
theorem byte_small (o : Nat) (h : o ≤ 7) : (48 + UInt8.ofNat o).toNat - 48 = o := by
 rcases (show o = 0 ∨ o = 1 ∨ o = 2 ∨ o = 3 ∨ o = 4 ∨ o = 5 ∨ o = 6 ∨ o = 7 by omega) with h | h | h | h | h | h | h | h <;> subst h <;> decide +kernel
theorem becomesB_sym (k : UInt8) (o : Nat) (t : By) (h : o ≤ 7) : becomesB (symB k o) t = some (becB k o t) := by
 show some (becB k ((48 + UInt8.ofNat o).toNat - 48) t) = _
 rw [byte_small o h]
theorem becomesB_tok (c : UInt8) (r t : By) (h : c ≠ 63) : becomesB (c :: r) t = none := by
 unfold becomesB
 split
 ·rename_i heq; simp at heq; exact absurd heq.1 h
 ·rename_i heq; simp at heq; exact absurd heq.1 h
 ·rfl
end
section
attribute [local go_sem] idx_eq app_eq
theorem toks_good (f : Nat) (l : By) (k : Nat) (t : By) (p : Nat) (h : (t, p) ∈ (toks f l k).1) : ∃ c r, t = c :: r ∧ c ≠ 63 ∧ c ≠ 78 := by
 induction f generalizing l k with
 | zero => simp [toks] at h
 | succ f ih =>
  match l with
  | [] => simp [toks] at h
  | c :: r =>
   unfold toks at h
   split at h
   ·exact ih _ _ h
   ·split at h
    ·rename_i hok
     simp only [List.mem_cons, Prod.mk.injEq] at h
     rcases h with ⟨rfl, rfl⟩ | h
     ·have h1 := rowLen_pos c r
      obtain ⟨n, hn⟩ : ∃ n, rowLen (c :: r) = n + 1 := ⟨rowLen (c :: r) - 1, by omega⟩
      rw [hn, List.take_succ_cons] at hok ⊢
      refine ⟨c, _, rfl, ?_⟩
      have key : ∀ d : UInt8, isD d = false → isL d = false → inB (d :: List.take n r) signW = false → d ≠ c := by
       rintro d g1 g2 g3 rfl
       unfold tokOK at hok
       rw [show headD (d :: List.take n r) = isD d from rfl, show headL (d :: List.take n r) = isL d from rfl, g1, g2, g3] at hok
       simp at hok
      exact ⟨(key 63 (by decide) (by decide) (by simp [inB, signW])).symm, (key 78 (by decide) (by decide) (by simp [inB, signW])).symm⟩
     ·exact ih _ _ h
    ·simp at h
theorem toks_length (f : Nat) (l : By) (k : Nat) : (toks f l k).1.length ≤ f := by
 induction f generalizing l k with
 | zero => simp [toks]
 | succ f ih =>
  match l with
  | [] => simp [toks]
  | c :: r =>
   unfold toks
   split
   ·exact Nat.le_succ_of_le (ih _ _)
   ·split
    ·simp only [List.length_cons]
     exact Nat.succ_le_succ (ih _ _)
    ·simp
theorem runB_step (len n : Nat) (x : By) (K : List By) (ts : List (By × Nat)) (t : By) (p : Nat) (h : (ts = [] ∧ t = [] ∧ p = len) ∨ ∃ r, ts = (t, p) :: r) :
  runB len (n + 1) (x :: K) ts = if x = wDeep then some (4, p) else match becomesB x t with
   | some m => runB len n (m ++ K) ts
   | none => if (if x = wName then nameB t else decide (t ≠ []) && decide (x = t)) then runB len n K ts.tail else some (3, p) := by
 rcases h with ⟨rfl, rfl, rfl⟩ | ⟨r, rfl⟩ <;> rfl
end
end Go.Proofs.YtihgojcfpnhelabGreatDoor
