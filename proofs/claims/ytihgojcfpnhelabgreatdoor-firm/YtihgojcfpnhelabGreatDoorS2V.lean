import Derived.Test.YtihgojcfpnhelabGreatDoorS2K
import Derived.Test.YtihgojcfpnhelabGreatDoorS2U
set_option maxRecDepth 100000
set_option maxHeartbeats 4000000
set_option linter.unusedVariables false
set_option linter.unusedSimpArgs false
namespace Go.Proofs.YtihgojcfpnhelabGreatDoor
open Go.RowKit
section
attribute [local go_sem] idx_eq app_eq
def betW : List By := [[111, 114], [97, 110, 100], [61], [60], [43], [45], [42], [47], [37]]
def behO : Option By → Bool | none => false | some q => behB q
def pieceB (prev : Option By) (t : By) : By :=
 if inB t betW && behO prev then [32] ++ t ++ [32]
 else if t = [44] || t = [110, 111, 116] then t ++ [32]
 else shortB t
def prevB (ts : List (By × Nat)) (k : Nat) : Option By := if k = 0 then none else (ts[k - 1]?).map (·.1)
def toldTo (ts : List (By × Nat)) : Nat → By
 | 0 => []
 | k + 1 => toldTo ts k ++ pieceB (prevB ts k) ((ts[k]?).map (·.1) |>.getD [])
theorem shortB_len (t : By) : (shortB t).length ≤ t.length := by
 induction t with
 | nil => simp [shortB]
 | cons c r ih =>
  cases r with
  | nil => simp [shortB]
  | cons d r =>
   unfold shortB
   split
   ·simp only [List.length_cons] at ih ⊢
    omega
   ·simp
theorem pieceB_len (q : Option By) (t : By) : (pieceB q t).length ≤ t.length + 2 := by
 have := shortB_len t
 unfold pieceB
 split
 ·simp
 ·split
  ·simp
  ·omega
theorem toks_len19 (f : Nat) (l : By) (k : Nat) (t : By) (p : Nat) (h : (t, p) ∈ (toks f l k).1) : t.length ≤ 19 := by
 induction f generalizing l k with
 | zero => simp [toks] at h
 | succ f ih =>
  match l with
  | [] => simp [toks] at h
  | c :: r =>
   unfold toks at h
   split at h
   ·exact ih _ _ h
   ·split at h
    ·rename_i hok
     simp only [List.mem_cons, Prod.mk.injEq] at h
     rcases h with ⟨rfl, rfl⟩ | h
     ·unfold tokOK at hok
      split at hok
      ·simp only [Bool.and_eq_true, decide_eq_true_eq] at hok
       omega
      ·split at hok
       ·simp only [decide_eq_true_eq] at hok
        omega
       ·simp only [inB, signW, List.contains_iff_mem, List.mem_cons, List.not_mem_nil, or_false] at hok
        rcases hok with h | h | h | h | h | h | h | h | h | h <;> rw [h] <;> simp
     ·exact ih _ _ h
    ·simp at h
theorem toldTo_len (ts : List (By × Nat)) (h : ∀ t p, (t, p) ∈ ts → t.length ≤ 19) (k : Nat) : (toldTo ts k).length ≤ 21 * k := by
 induction k with
 | zero => simp [toldTo]
 | succ k ih =>
  have h1 := pieceB_len (prevB ts k) ((ts[k]?).map (·.1) |>.getD [])
  have h2 : ((ts[k]?).map (·.1) |>.getD []).length ≤ 19 := by
   cases hk : ts[k]? with
   | none => simp
   | some x =>
    obtain ⟨hlt, rfl⟩ := List.getElem?_eq_some_iff.1 hk
    exact h _ _ (List.getElem_mem hlt)
  unfold toldTo
  rw [List.length_append]
  omega
theorem toldTo_succ (ts : List (By × Nat)) (k : Nat) (h : k < ts.length) : toldTo ts (k + 1) = toldTo ts k ++ pieceB (prevB ts k) ts[k].1 := by
 conv => lhs; unfold toldTo
 rw [List.getElem?_eq_getElem h]
 rfl
theorem prevB_succ (ts : List (By × Nat)) (k : Nat) (h : k + 1 ≤ ts.length) : prevB ts (k + 1) = some (ts[k]'(by omega)).1 := by
 unfold prevB
 rw [if_neg (by omega)]
 simp [List.getElem?_eq_getElem (show k < ts.length by omega)]
end
section
def tAt (ts : List (By × Nat)) (i : Nat) : By := match ts[i]? with | some x => x.1 | none => []
def pAt (len : Nat) (ts : List (By × Nat)) (i : Nat) : Nat := match ts[i]? with | some x => x.2 | none => len
theorem tAt_lt (ts : List (By × Nat)) (i : Nat) (h : i < ts.length) : tAt ts i = ts[i].1 := by simp [tAt, h]
theorem tAt_ge (ts : List (By × Nat)) (i : Nat) (h : ts.length ≤ i) : tAt ts i = [] := by simp [tAt, h]
theorem head_at (len : Nat) (ts : List (By × Nat)) (i : Nat) : (ts.drop i = [] ∧ tAt ts i = [] ∧ pAt len ts i = len) ∨ ∃ r, ts.drop i = (tAt ts i, pAt len ts i) :: r := by
 by_cases h : i < ts.length
 ·right
  refine ⟨ts.drop (i + 1), ?_⟩
  have h2 : pAt len ts i = ts[i].2 := by simp [pAt, h]
  rw [tAt_lt ts i h, h2]
  exact List.drop_eq_getElem_cons h
 ·left
  have h' : ts.length ≤ i := by omega
  exact ⟨List.drop_of_length_le h', by simp [tAt, h'], by simp [pAt, h']⟩
def Tk (x : By) : Prop := ∃ c r, x = c :: r ∧ c ≠ 63 ∧ c :: r ≠ wName
section
variable (len : Nat) (ts : List (By × Nat))
theorem step_sym (k : UInt8) (o i q : Nat) (K : List By) (ho : o ≤ 7) : runB len (q + 1) (symB k o :: K) (ts.drop i) = runB len q (becB k o (tAt ts i) ++ K) (ts.drop i) := by
 rw [runB_step len q _ K _ (tAt ts i) (pAt len ts i) (head_at len ts i), if_neg (by simp [symB, wDeep]), becomesB_sym k o _ ho]
theorem step_tok (x : By) (i q : Nat) (K : List By) (hx : Tk x) (h : tAt ts i = x) : runB len (q + 1) (x :: K) (ts.drop i) = runB len q K (ts.drop (i + 1)) := by
 obtain ⟨c, r, rfl, hc, hn⟩ := hx
 rw [runB_step len q _ K _ (tAt ts i) (pAt len ts i) (head_at len ts i), if_neg (by simp [wDeep]; intro h; exact absurd h hc), becomesB_tok c r _ hc]
 simp only [if_neg hn, h]
 simp [List.tail_drop]
theorem step_no (x : By) (i q : Nat) (K : List By) (hx : Tk x) (h : tAt ts i ≠ x) : runB len (q + 1) (x :: K) (ts.drop i) = some (3, pAt len ts i) := by
 obtain ⟨c, r, rfl, hc, hn⟩ := hx
 rw [runB_step len q _ K _ (tAt ts i) (pAt len ts i) (head_at len ts i), if_neg (by simp [wDeep]; intro h; exact absurd h hc), becomesB_tok c r _ hc]
 simp only [if_neg hn]
 rw [if_neg (by simp; intro _ h2; exact h h2.symm)]
theorem step_deep (i q : Nat) (K : List By) : runB len (q + 1) (wDeep :: K) (ts.drop i) = some (4, pAt len ts i) := by
 rw [runB_step len q _ K _ (tAt ts i) (pAt len ts i) (head_at len ts i), if_pos rfl]
def Go1 (S : List By) (i j m : Nat) : Prop := ∀ K q, runB len (m + q) (S ++ K) (ts.drop i) = runB len q K (ts.drop j)
def No1 (S : List By) (i : Nat) (er : Int) (p m : Nat) : Prop := ∀ K q, runB len (m + q) (S ++ K) (ts.drop i) = some (er, p)
end
section
variable {len : Nat} {ts : List (By × Nat)}
theorem Go1.nil (i : Nat) : Go1 len ts [] i i 0 := fun K q => by rw [Nat.zero_add]; rfl
theorem Go1.trans {S T : List By} {i j k m n : Nat} (h : Go1 len ts S i j m) (g : Go1 len ts T j k n) : Go1 len ts (S ++ T) i k (m + n) := fun K q => by
 rw [List.append_assoc, Nat.add_assoc, h (T ++ K) (n + q), g K q]
theorem Go1.sym {S : List By} {k : UInt8} {o i j m : Nat} (ho : o ≤ 7) (h : Go1 len ts (becB k o (tAt ts i) ++ S) i j m) : Go1 len ts (symB k o :: S) i j (m + 1) := fun K q => by
 rw [show m + 1 + q = m + q + 1 by omega, List.cons_append, step_sym len ts k o i (m + q) (S ++ K) ho, ← List.append_assoc, h K q]
theorem No1.sym {S : List By} {k : UInt8} {o i m p : Nat} {er : Int} (ho : o ≤ 7) (h : No1 len ts (becB k o (tAt ts i) ++ S) i er p m) : No1 len ts (symB k o :: S) i er p (m + 1) := fun K q => by
 rw [show m + 1 + q = m + q + 1 by omega, List.cons_append, step_sym len ts k o i (m + q) (S ++ K) ho, ← List.append_assoc, h K q]
theorem Go1.tok {S : List By} {x : By} {i j m : Nat} (hx : Tk x) (ht : tAt ts i = x) (h : Go1 len ts S (i + 1) j m) : Go1 len ts (x :: S) i j (m + 1) := fun K q => by
 rw [show m + 1 + q = m + q + 1 by omega, List.cons_append, step_tok len ts x i (m + q) (S ++ K) hx ht, h K q]
theorem No1.tok {S : List By} {x : By} {i m p : Nat} {er : Int} (hx : Tk x) (ht : tAt ts i = x) (h : No1 len ts S (i + 1) er p m) : No1 len ts (x :: S) i er p (m + 1) := fun K q => by
 rw [show m + 1 + q = m + q + 1 by omega, List.cons_append, step_tok len ts x i (m + q) (S ++ K) hx ht, h K q]
theorem No1.bad {S : List By} {x : By} {i : Nat} (hx : Tk x) (ht : tAt ts i ≠ x) : No1 len ts (x :: S) i 3 (pAt len ts i) 1 := fun K q => by
 rw [Nat.add_comm 1 q, List.cons_append, step_no len ts x i q (S ++ K) hx ht]
theorem No1.deep {S : List By} {i : Nat} : No1 len ts (wDeep :: S) i 4 (pAt len ts i) 1 := fun K q => by
 rw [Nat.add_comm 1 q, List.cons_append, step_deep len ts i q (S ++ K)]
theorem No1.opens {S : List By} {i : Nat} (ht : tAt ts i = [40]) : No1 len ts (wOpen :: S) i 4 (pAt len ts i) 2 := fun K q => by
 rw [show 2 + q = q + 1 + 1 by omega, List.cons_append, runB_step len (q + 1) _ _ _ (tAt ts i) (pAt len ts i) (head_at len ts i), if_neg (by decide), ht]
 show runB len (q + 1) (wDeep :: (S ++ K)) (ts.drop i) = _
 exact step_deep len ts i q (S ++ K)
theorem tkNone : Tk wNone := ⟨78, _, rfl, by decide, by decide⟩
theorem No1.opens_no {S : List By} {i : Nat} (ht : tAt ts i ≠ [40]) (hn : tAt ts i ≠ wNone) : No1 len ts (wOpen :: S) i 3 (pAt len ts i) 2 := fun K q => by
 rw [show 2 + q = q + 1 + 1 by omega, List.cons_append, runB_step len (q + 1) _ _ _ (tAt ts i) (pAt len ts i) (head_at len ts i), if_neg (by decide)]
 rw [show becomesB wOpen (tAt ts i) = some (if tAt ts i = [40] then [wDeep] else [wNone]) from rfl, if_neg ht]
 exact step_no len ts wNone i q (S ++ K) tkNone hn
end
def meanN : List (By × Nat) :=
 [([105, 102], 3), ([97, 110, 100], 4), ([111, 114], 5), ([110, 111, 116], 6), ([116, 114, 117, 101], 7), ([102, 97, 108, 115, 101], 8),
  ([40], 9), ([41], 10), ([44], 11), ([43], 12), ([45], 13), ([42], 15), ([47], 16), ([37], 17), ([61], 18), ([60], 19)]
def Cls (t : By) (k : Nat) : Prop := (headD t = true ∧ k = 1) ∨ (headD t = false ∧ nameB t = true ∧ k = 2) ∨ (t = [] ∧ k = 0) ∨ (t, k) ∈ meanN
theorem toks_ok (f : Nat) (l : By) (k : Nat) (t : By) (p : Nat) (h : (t, p) ∈ (toks f l k).1) : tokOK t = true := by
 induction f generalizing l k with
 | zero => simp [toks] at h
 | succ f ih =>
  match l with
  | [] => simp [toks] at h
  | c :: r =>
   unfold toks at h
   split at h
   ·exact ih _ _ h
   ·split at h
    ·rename_i hok
     simp only [List.mem_cons, Prod.mk.injEq] at h
     rcases h with ⟨rfl, rfl⟩ | h
     ·exact hok
     ·exact ih _ _ h
    ·simp at h
theorem meanIn_mem (l : List (By × Int)) (t : By) (k : Int) (h : meanIn l t = some k) : (t, k) ∈ l := by
 induction l with
 | nil => simp [meanIn] at h
 | cons x l ih =>
  obtain ⟨y, z⟩ := x
  unfold meanIn at h
  split at h
  ·rename_i hy
   simp at h
   subst hy h
   simp
  ·exact List.mem_cons_of_mem _ (ih h)
theorem cls_tok (t : By) (h : tokOK t = true) (hne : t ≠ []) : ∃ k : Nat, Cls t k ∧ kindB t = (k : Int) := by
 by_cases hD : headD t = true
 ·exact ⟨1, Or.inl ⟨hD, rfl⟩, by simp [kindB, hD]⟩
 ·have hD' : headD t = false := by simpa using hD
  cases hm : meanB t with
  | some k =>
   have hmem := meanIn_mem meanW t k hm
   have hk : kindB t = k := by simp [kindB, hD', hm]
   simp only [meanW, List.mem_cons, List.not_mem_nil, or_false, Prod.mk.injEq] at hmem
   rcases hmem with ⟨rfl, rfl⟩ | ⟨rfl, rfl⟩ | ⟨rfl, rfl⟩ | ⟨rfl, rfl⟩ | ⟨rfl, rfl⟩ | ⟨rfl, rfl⟩ | ⟨rfl, rfl⟩ | ⟨rfl, rfl⟩ | ⟨rfl, rfl⟩ | ⟨rfl, rfl⟩ | ⟨rfl, rfl⟩ | ⟨rfl, rfl⟩ | ⟨rfl, rfl⟩ | ⟨rfl, rfl⟩ | ⟨rfl, rfl⟩ | ⟨rfl, rfl⟩
   ·exact ⟨3, Or.inr (Or.inr (Or.inr (by decide))), hk⟩
   ·exact ⟨4, Or.inr (Or.inr (Or.inr (by decide))), hk⟩
   ·exact ⟨5, Or.inr (Or.inr (Or.inr (by decide))), hk⟩
   ·exact ⟨6, Or.inr (Or.inr (Or.inr (by decide))), hk⟩
   ·exact ⟨7, Or.inr (Or.inr (Or.inr (by decide))), hk⟩
   ·exact ⟨8, Or.inr (Or.inr (Or.inr (by decide))), hk⟩
   ·exact ⟨9, Or.inr (Or.inr (Or.inr (by decide))), hk⟩
   ·exact ⟨10, Or.inr (Or.inr (Or.inr (by decide))), hk⟩
   ·exact ⟨11, Or.inr (Or.inr (Or.inr (by decide))), hk⟩
   ·exact ⟨12, Or.inr (Or.inr (Or.inr (by decide))), hk⟩
   ·exact ⟨13, Or.inr (Or.inr (Or.inr (by decide))), hk⟩
   ·exact ⟨15, Or.inr (Or.inr (Or.inr (by decide))), hk⟩
   ·exact ⟨16, Or.inr (Or.inr (Or.inr (by decide))), hk⟩
   ·exact ⟨17, Or.inr (Or.inr (Or.inr (by decide))), hk⟩
   ·exact ⟨18, Or.inr (Or.inr (Or.inr (by decide))), hk⟩
   ·exact ⟨19, Or.inr (Or.inr (Or.inr (by decide))), hk⟩
  | none =>
   refine ⟨2, Or.inr (Or.inl ⟨hD', ?_, rfl⟩), by simp [kindB, hD', hm]⟩
   match t, hne, hD', hm, h with
   | c :: r, _, hD', hm, h =>
    have hL : isL c = true := by
     cases hL : isL c with
     | true => rfl
     | false =>
      have := sign_mean c r hL
      rw [hm] at this
      unfold tokOK at h
      rw [hD', show headL (c :: r) = isL c from rfl, hL, ← this] at h
      simp at h
    unfold nameB
    rw [show headL (c :: r) = isL c from rfl, hL]
    simp only [Bool.true_and, Bool.not_eq_true']
    rw [Bool.eq_false_iff]
    intro hin
    simp only [inB, sixW, List.contains_iff_mem, List.mem_cons, List.not_mem_nil, or_false] at hin
    rcases hin with h | h | h | h | h | h <;> rw [h] at hm <;> simp [meanB, meanIn, meanW] at hm
def sgn (n : Nat) : List By := match n with | 1 => [[111, 114]] | 2 => [[97, 110, 100]] | 3 => [[61], [60]] | 4 => [[43], [45]] | 5 => [[42], [47], [37]] | _ => []
def lv (n : Nat) : UInt8 := match n with | 1 => 82 | 2 => 80 | 3 => 84 | 4 => 83 | 5 => 77 | _ => 65
def tl (n : Nat) : UInt8 := match n with | 1 => 114 | 2 => 112 | 3 => 99 | 4 => 115 | _ => 109
theorem headD_not (t x : By) (hD : headD t = true) (hx : headD x = false) : t ≠ x := by
 rintro rfl
 rw [hD] at hx
 cases hx
theorem name_not (t x : By) (hN : nameB t = true) (hx : nameB x = false) : t ≠ x := by
 rintro rfl
 rw [hN] at hx
 cases hx
theorem cls_ask (P : By → Nat → Prop) (t : By) (k : Nat) (h : Cls t k) (h1 : ∀ t, headD t = true → P t 1) (h2 : ∀ t, headD t = false → nameB t = true → P t 2) (h0 : P [] 0) (hm : ∀ x, x ∈ meanN → P x.1 x.2) : P t k := by
 rcases h with ⟨hD, rfl⟩ | ⟨hD, hN, rfl⟩ | ⟨rfl, rfl⟩ | h
 ·exact h1 t hD
 ·exact h2 t hD hN
 ·exact h0
 ·exact hm (t, k) h
theorem inB_false (t : By) (l : List By) (h : ∀ x, x ∈ l → t ≠ x) : inB t l = false := by
 rw [Bool.eq_false_iff]
 intro hin
 simp only [inB, List.contains_iff_mem] at hin
 exact h t hin rfl
theorem betw_sgn (t : By) (k : Nat) (h : Cls t k) (n : Nat) (h1 : 1 ≤ n) (h5 : n ≤ 5) : (betwW.getD k 0 = (n : Int)) ↔ inB t (sgn n) = true := by
 have hn : n = 1 ∨ n = 2 ∨ n = 3 ∨ n = 4 ∨ n = 5 := by omega
 refine cls_ask (fun t k => (betwW.getD k 0 = (n : Int)) ↔ inB t (sgn n) = true) t k h (fun t hD => ?_) (fun t _ hN => ?_) ?_ ?_
 ·rw [inB_false t (sgn n) (fun x hx => headD_not t x hD (by rcases hn with rfl | rfl | rfl | rfl | rfl <;> revert x <;> decide))]
  rcases hn with rfl | rfl | rfl | rfl | rfl <;> decide
 ·rw [inB_false t (sgn n) (fun x hx => name_not t x hN (by rcases hn with rfl | rfl | rfl | rfl | rfl <;> revert x <;> decide))]
  rcases hn with rfl | rfl | rfl | rfl | rfl <;> decide
 ·rcases hn with rfl | rfl | rfl | rfl | rfl <;> decide
 ·rcases hn with rfl | rfl | rfl | rfl | rfl <;> decide
theorem ahead_iff (t : By) (k : Nat) (h : Cls t k) (n : Nat) (h1 : 1 ≤ n) (h6 : n ≤ 6) : (aheadW.getD k 0 = (n : Int)) ↔ ((n = 3 ∧ t = [110, 111, 116]) ∨ (n = 6 ∧ t = [45])) := by
 have hn : n = 1 ∨ n = 2 ∨ n = 3 ∨ n = 4 ∨ n = 5 ∨ n = 6 := by omega
 refine cls_ask (fun t k => (aheadW.getD k 0 = (n : Int)) ↔ ((n = 3 ∧ t = [110, 111, 116]) ∨ (n = 6 ∧ t = [45]))) t k h (fun t hD => ?_) (fun t _ hN => ?_) ?_ ?_
 ·have e1 := headD_not t [110, 111, 116] hD (by decide)
  have e2 := headD_not t [45] hD (by decide)
  simp only [e1, e2]
  rcases hn with rfl | rfl | rfl | rfl | rfl | rfl <;> decide
 ·have e1 := name_not t [110, 111, 116] hN (by decide)
  have e2 := name_not t [45] hN (by decide)
  simp only [e1, e2]
  rcases hn with rfl | rfl | rfl | rfl | rfl | rfl <;> decide
 ·rcases hn with rfl | rfl | rfl | rfl | rfl | rfl <;> decide
 ·rcases hn with rfl | rfl | rfl | rfl | rfl | rfl <;> decide
theorem bec_lv (n : Nat) (h1 : 1 ≤ n) (h5 : n ≤ 5) (o : Nat) (t : By) (h : n = 3 → t ≠ [110, 111, 116]) : becB (lv n) o t = [symB (lv (n + 1)) o, symB (tl n) o] := by
 have hn : n = 1 ∨ n = 2 ∨ n = 3 ∨ n = 4 ∨ n = 5 := by omega
 rcases hn with rfl | rfl | rfl | rfl | rfl
 ·rfl
 ·rfl
 ·show (if t = [110, 111, 116] then deepB t 84 o else [symB 83 o, symB 99 o]) = _
  rw [if_neg (h rfl)]
  rfl
 ·rfl
 ·rfl
theorem bec_tl_stop (n : Nat) (h1 : 1 ≤ n) (h5 : n ≤ 5) (o : Nat) (t : By) (h : inB t (sgn n) = false) : becB (tl n) o t = [] := by
 have hn : n = 1 ∨ n = 2 ∨ n = 3 ∨ n = 4 ∨ n = 5 := by omega
 have key : ∀ p g, moreB t (sgn n) p g o = [] := fun p g => by unfold moreB; rw [h]; rfl
 rcases hn with rfl | rfl | rfl | rfl | rfl
 ·exact key 80 (some 114)
 ·exact key 84 (some 112)
 ·exact key 83 none
 ·exact key 77 (some 115)
 ·exact key 65 (some 109)
theorem bec_tl_go (n : Nat) (h1 : 1 ≤ n) (h5 : n ≤ 5) (o : Nat) (t : By) (h : inB t (sgn n) = true) : becB (tl n) o t = t :: symB (lv (n + 1)) o :: (if n = 3 then [] else [symB (tl n) o]) := by
 have hn : n = 1 ∨ n = 2 ∨ n = 3 ∨ n = 4 ∨ n = 5 := by omega
 have key : ∀ p g, moreB t (sgn n) p g o = (match g with | none => [t, symB p o] | some g => [t, symB p o, symB g o]) := fun p g => by unfold moreB; rw [h]; rfl
 rcases hn with rfl | rfl | rfl | rfl | rfl
 ·exact key 80 (some 114)
 ·exact key 84 (some 112)
 ·exact key 83 none
 ·exact key 77 (some 115)
 ·exact key 65 (some 109)
def spellOf (k : Int) : By := spellW.getD k.toNat []
theorem textB_D (t : By) (h : headD t = true) : textB t = shortB t := by simp [textB, h]
theorem piece_other (q : Option By) (t : By) (k : Nat) (h : Cls t k) (hk : k ≠ 0) (hb : inB t betW = false) : pieceB q t = spellOf (k : Int) ++ textB t := by
 have e : pieceB q t = if t = [44] || t = [110, 111, 116] then t ++ [32] else shortB t := by
  unfold pieceB
  rw [hb]
  rfl
 rw [e]
 refine cls_ask (fun t k => k ≠ 0 → inB t betW = false → (if t = [44] || t = [110, 111, 116] then t ++ [32] else shortB t) = spellOf (k : Int) ++ textB t) t k h (fun t hD _ _ => ?_) (fun t hD hN _ _ => ?_) (fun h => absurd rfl h) (by decide) hk hb
 ·rw [if_neg (by simp [headD_not t [44] hD (by decide), headD_not t [110, 111, 116] hD (by decide)]), textB_D t hD]
  rfl
 ·rw [if_neg (by simp [name_not t [44] hN (by decide), name_not t [110, 111, 116] hN (by decide)])]
  have hm : meanB t = none := meanIn_none meanW t fun j hj he => by
   have := name_not t (meanW[j]).1 hN ((show ∀ x, x ∈ meanW → nameB x.1 = false by decide) _ (List.getElem_mem hj))
   exact this he.symm
  have ht : textB t = t := by simp [textB, hD, hm]
  rw [ht]
  match t, hN with
  | [], hN => simp [nameB, headL] at hN
  | [c], _ => rfl
  | c :: d :: r, hN =>
   have hc : c ≠ 48 := by
    rintro rfl
    have : headL (48 :: d :: r) = false := by show isL 48 = false; decide
    simp [nameB, this] at hN
   simp [shortB, hc, spellOf, spellW]
theorem piece_op (q : Option By) (t : By) (k : Nat) (h : Cls t k) (hb : inB t betW = true) (hq : behO q = true) : pieceB q t = spellOf (k : Int) ++ textB t := by
 have e : pieceB q t = [32] ++ t ++ [32] := by
  unfold pieceB
  rw [hb, hq]
  rfl
 rw [e]
 refine cls_ask (fun t k => inB t betW = true → [32] ++ t ++ [32] = spellOf (k : Int) ++ textB t) t k h (fun t hD hb => ?_) (fun t _ hN hb => ?_) (by decide) (by decide) hb
 ·rw [inB_false t betW (fun x hx => headD_not t x hD (by revert x; decide))] at hb
  cases hb
 ·rw [inB_false t betW (fun x hx => name_not t x hN (by revert x; decide))] at hb
  cases hb
theorem piece_neg (q : Option By) (hq : behO q = false) : pieceB q [45] = spellOf 14 := by
 unfold pieceB
 rw [hq]
 decide
end
end Go.Proofs.YtihgojcfpnhelabGreatDoor
