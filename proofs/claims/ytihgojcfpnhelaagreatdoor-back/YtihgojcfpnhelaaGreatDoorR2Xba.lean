import Derived.Test.YtihgojcfpnhelaaGreatDoorR2L
import Derived.Test.YtihgojcfpnhelaaGreatDoorR2D
set_option maxRecDepth 100000
set_option maxHeartbeats 4000000
set_option linter.unusedVariables false
set_option linter.unusedSimpArgs false
namespace Go.Proofs.YtihgojcfpnhelaaGreatDoor
open Go.RowKit
section
def tAt (ts : List (By × Nat)) (i : Nat) : By := match ts[i]? with | some x => x.1 | none => []
def pAt (len : Nat) (ts : List (By × Nat)) (i : Nat) : Nat := match ts[i]? with | some x => x.2 | none => len
theorem tAt_lt (ts : List (By × Nat)) (i : Nat) (h : i < ts.length) : tAt ts i = ts[i].1 := by simp [tAt, h]
theorem tAt_ge (ts : List (By × Nat)) (i : Nat) (h : ts.length ≤ i) : tAt ts i = [] := by simp [tAt, h]
theorem head_at (len : Nat) (ts : List (By × Nat)) (i : Nat) : (ts.drop i = [] ∧ tAt ts i = [] ∧ pAt len ts i = len) ∨ ∃ r, ts.drop i = (tAt ts i, pAt len ts i) :: r := by
 by_cases h : i < ts.length
 ·right
  refine ⟨ts.drop (i + 1), ?_⟩
  have h2 : pAt len ts i = ts[i].2 := by simp [pAt, h]
  rw [tAt_lt ts i h, h2]
  exact List.drop_eq_getElem_cons h
 ·left
  have h' : ts.length ≤ i := by omega
  exact ⟨List.drop_of_length_le h', by simp [tAt, h'], by simp [pAt, h']⟩
def Tk (x : By) : Prop := ∃ c r, x = c :: r ∧ c ≠ 63 ∧ c :: r ≠ wName
section
variable (len : Nat) (ts : List (By × Nat))
theorem step_sym (k : UInt8) (o i q : Nat) (K : List By) (ho : o ≤ 7) : runB len (q + 1) (symB k o :: K) (ts.drop i) = runB len q (becB k o (tAt ts i) ++ K) (ts.drop i) := by
 rw [runB_step len q _ K _ (tAt ts i) (pAt len ts i) (head_at len ts i), if_neg (by simp [symB, wDeep]), becomesB_sym k o _ ho]
theorem step_tok (x : By) (i q : Nat) (K : List By) (hx : Tk x) (h : tAt ts i = x) : runB len (q + 1) (x :: K) (ts.drop i) = runB len q K (ts.drop (i + 1)) := by
 obtain ⟨c, r, rfl, hc, hn⟩ := hx
 rw [runB_step len q _ K _ (tAt ts i) (pAt len ts i) (head_at len ts i), if_neg (by simp [wDeep]; intro h; exact absurd h hc), becomesB_tok c r _ hc]
 simp only [if_neg hn, h]
 simp [List.tail_drop]
theorem step_no (x : By) (i q : Nat) (K : List By) (hx : Tk x) (h : tAt ts i ≠ x) : runB len (q + 1) (x :: K) (ts.drop i) = some (3, pAt len ts i) := by
 obtain ⟨c, r, rfl, hc, hn⟩ := hx
 rw [runB_step len q _ K _ (tAt ts i) (pAt len ts i) (head_at len ts i), if_neg (by simp [wDeep]; intro h; exact absurd h hc), becomesB_tok c r _ hc]
 simp only [if_neg hn]
 rw [if_neg (by simp; intro _ h2; exact h h2.symm)]
theorem step_deep (i q : Nat) (K : List By) : runB len (q + 1) (wDeep :: K) (ts.drop i) = some (4, pAt len ts i) := by
 rw [runB_step len q _ K _ (tAt ts i) (pAt len ts i) (head_at len ts i), if_pos rfl]
def Go1 (S : List By) (i j m : Nat) : Prop := ∀ K q, runB len (m + q) (S ++ K) (ts.drop i) = runB len q K (ts.drop j)
def No1 (S : List By) (i : Nat) (er : Int) (p m : Nat) : Prop := ∀ K q, runB len (m + q) (S ++ K) (ts.drop i) = some (er, p)
end
section
variable {len : Nat} {ts : List (By × Nat)}
theorem Go1.nil (i : Nat) : Go1 len ts [] i i 0 := fun K q => by rw [Nat.zero_add]; rfl
theorem Go1.trans {S T : List By} {i j k m n : Nat} (h : Go1 len ts S i j m) (g : Go1 len ts T j k n) : Go1 len ts (S ++ T) i k (m + n) := fun K q => by
 rw [List.append_assoc, Nat.add_assoc, h (T ++ K) (n + q), g K q]
theorem Go1.sym {S : List By} {k : UInt8} {o i j m : Nat} (ho : o ≤ 7) (h : Go1 len ts (becB k o (tAt ts i) ++ S) i j m) : Go1 len ts (symB k o :: S) i j (m + 1) := fun K q => by
 rw [show m + 1 + q = m + q + 1 by omega, List.cons_append, step_sym len ts k o i (m + q) (S ++ K) ho, ← List.append_assoc, h K q]
theorem No1.sym {S : List By} {k : UInt8} {o i m p : Nat} {er : Int} (ho : o ≤ 7) (h : No1 len ts (becB k o (tAt ts i) ++ S) i er p m) : No1 len ts (symB k o :: S) i er p (m + 1) := fun K q => by
 rw [show m + 1 + q = m + q + 1 by omega, List.cons_append, step_sym len ts k o i (m + q) (S ++ K) ho, ← List.append_assoc, h K q]
theorem Go1.tok {S : List By} {x : By} {i j m : Nat} (hx : Tk x) (ht : tAt ts i = x) (h : Go1 len ts S (i + 1) j m) : Go1 len ts (x :: S) i j (m + 1) := fun K q => by
 rw [show m + 1 + q = m + q + 1 by omega, List.cons_append, step_tok len ts x i (m + q) (S ++ K) hx ht, h K q]
theorem No1.tok {S : List By} {x : By} {i m p : Nat} {er : Int} (hx : Tk x) (ht : tAt ts i = x) (h : No1 len ts S (i + 1) er p m) : No1 len ts (x :: S) i er p (m + 1) := fun K q => by
 rw [show m + 1 + q = m + q + 1 by omega, List.cons_append, step_tok len ts x i (m + q) (S ++ K) hx ht, h K q]
theorem No1.bad {S : List By} {x : By} {i : Nat} (hx : Tk x) (ht : tAt ts i ≠ x) : No1 len ts (x :: S) i 3 (pAt len ts i) 1 := fun K q => by
 rw [Nat.add_comm 1 q, List.cons_append, step_no len ts x i q (S ++ K) hx ht]
theorem No1.deep {S : List By} {i : Nat} : No1 len ts (wDeep :: S) i 4 (pAt len ts i) 1 := fun K q => by
 rw [Nat.add_comm 1 q, List.cons_append, step_deep len ts i q (S ++ K)]
theorem No1.opens {S : List By} {i : Nat} (ht : tAt ts i = [40]) : No1 len ts (wOpen :: S) i 4 (pAt len ts i) 2 := fun K q => by
 rw [show 2 + q = q + 1 + 1 by omega, List.cons_append, runB_step len (q + 1) _ _ _ (tAt ts i) (pAt len ts i) (head_at len ts i), if_neg (by decide), ht]
 show runB len (q + 1) (wDeep :: (S ++ K)) (ts.drop i) = _
 exact step_deep len ts i q (S ++ K)
theorem tkNone : Tk wNone := ⟨78, _, rfl, by decide, by decide⟩
theorem No1.opens_no {S : List By} {i : Nat} (ht : tAt ts i ≠ [40]) (hn : tAt ts i ≠ wNone) : No1 len ts (wOpen :: S) i 3 (pAt len ts i) 2 := fun K q => by
 rw [show 2 + q = q + 1 + 1 by omega, List.cons_append, runB_step len (q + 1) _ _ _ (tAt ts i) (pAt len ts i) (head_at len ts i), if_neg (by decide)]
 rw [show becomesB wOpen (tAt ts i) = some (if tAt ts i = [40] then [wDeep] else [wNone]) from rfl, if_neg ht]
 exact step_no len ts wNone i q (S ++ K) tkNone hn
end
def meanN : List (By × Nat) :=
 [([105, 102], 3), ([97, 110, 100], 4), ([111, 114], 5), ([110, 111, 116], 6), ([116, 114, 117, 101], 7), ([102, 97, 108, 115, 101], 8),
  ([40], 9), ([41], 10), ([44], 11), ([43], 12), ([45], 13), ([42], 15), ([47], 16), ([37], 17), ([61], 18), ([60], 19)]
def Cls (t : By) (k : Nat) : Prop := (headD t = true ∧ k = 1) ∨ (headD t = false ∧ nameB t = true ∧ k = 2) ∨ (t = [] ∧ k = 0) ∨ (t, k) ∈ meanN
theorem toks_ok (f : Nat) (l : By) (k : Nat) (t : By) (p : Nat) (h : (t, p) ∈ (toks f l k).1) : tokOK t = true := by
 induction f generalizing l k with
 | zero => simp [toks] at h
 | succ f ih =>
  match l with
  | [] => simp [toks] at h
  | c :: r =>
   unfold toks at h
   split at h
   ·exact ih _ _ h
   ·split at h
    ·rename_i hok
     simp only [List.mem_cons, Prod.mk.injEq] at h
     rcases h with ⟨rfl, rfl⟩ | h
     ·exact hok
     ·exact ih _ _ h
    ·simp at h
theorem meanIn_mem (l : List (By × Int)) (t : By) (k : Int) (h : meanIn l t = some k) : (t, k) ∈ l := by
 induction l with
 | nil => simp [meanIn] at h
 | cons x l ih =>
  obtain ⟨y, z⟩ := x
  unfold meanIn at h
  split at h
  ·rename_i hy
   simp at h
   subst hy h
   simp
  ·exact List.mem_cons_of_mem _ (ih h)
theorem cls_tok (t : By) (h : tokOK t = true) (hne : t ≠ []) : ∃ k : Nat, Cls t k ∧ kindB t = (k : Int) := by
 by_cases hD : headD t = true
 ·exact ⟨1, Or.inl ⟨hD, rfl⟩, by simp [kindB, hD]⟩
 ·have hD' : headD t = false := by simpa using hD
  cases hm : meanB t with
  | some k =>
   have hmem := meanIn_mem meanW t k hm
   have hk : kindB t = k := by simp [kindB, hD', hm]
   simp only [meanW, List.mem_cons, List.not_mem_nil, or_false, Prod.mk.injEq] at hmem
   rcases hmem with ⟨rfl, rfl⟩ | ⟨rfl, rfl⟩ | ⟨rfl, rfl⟩ | ⟨rfl, rfl⟩ | ⟨rfl, rfl⟩ | ⟨rfl, rfl⟩ | ⟨rfl, rfl⟩ | ⟨rfl, rfl⟩ | ⟨rfl, rfl⟩ | ⟨rfl, rfl⟩ | ⟨rfl, rfl⟩ | ⟨rfl, rfl⟩ | ⟨rfl, rfl⟩ | ⟨rfl, rfl⟩ | ⟨rfl, rfl⟩ | ⟨rfl, rfl⟩
   ·exact ⟨3, Or.inr (Or.inr (Or.inr (by decide))), hk⟩
   ·exact ⟨4, Or.inr (Or.inr (Or.inr (by decide))), hk⟩
   ·exact ⟨5, Or.inr (Or.inr (Or.inr (by decide))), hk⟩
   ·exact ⟨6, Or.inr (Or.inr (Or.inr (by decide))), hk⟩
   ·exact ⟨7, Or.inr (Or.inr (Or.inr (by decide))), hk⟩
   ·exact ⟨8, Or.inr (Or.inr (Or.inr (by decide))), hk⟩
   ·exact ⟨9, Or.inr (Or.inr (Or.inr (by decide))), hk⟩
   ·exact ⟨10, Or.inr (Or.inr (Or.inr (by decide))), hk⟩
   ·exact ⟨11, Or.inr (Or.inr (Or.inr (by decide))), hk⟩
   ·exact ⟨12, Or.inr (Or.inr (Or.inr (by decide))), hk⟩
   ·exact ⟨13, Or.inr (Or.inr (Or.inr (by decide))), hk⟩
   ·exact ⟨15, Or.inr (Or.inr (Or.inr (by decide))), hk⟩
   ·exact ⟨16, Or.inr (Or.inr (Or.inr (by decide))), hk⟩
   ·exact ⟨17, Or.inr (Or.inr (Or.inr (by decide))), hk⟩
   ·exact ⟨18, Or.inr (Or.inr (Or.inr (by decide))), hk⟩
   ·exact ⟨19, Or.inr (Or.inr (Or.inr (by decide))), hk⟩
  | none =>
   refine ⟨2, Or.inr (Or.inl ⟨hD', ?_, rfl⟩), by simp [kindB, hD', hm]⟩
   match t, hne, hD', hm, h with
   | c :: r, _, hD', hm, h =>
    have hL : isL c = true := by
     cases hL : isL c with
     | true => rfl
     | false =>
      have := sign_mean c r hL
      rw [hm] at this
      unfold tokOK at h
      rw [hD', show headL (c :: r) = isL c from rfl, hL, ← this] at h
      simp at h
    unfold nameB
    rw [show headL (c :: r) = isL c from rfl, hL]
    simp only [Bool.true_and, Bool.not_eq_true']
    rw [Bool.eq_false_iff]
    intro hin
    simp only [inB, sixW, List.contains_iff_mem, List.mem_cons, List.not_mem_nil, or_false] at hin
    rcases hin with h | h | h | h | h | h <;> rw [h] at hm <;> simp [meanB, meanIn, meanW] at hm
def sgn (n : Nat) : List By := match n with | 1 => [[111, 114]] | 2 => [[97, 110, 100]] | 3 => [[61], [60]] | 4 => [[43], [45]] | 5 => [[42], [47], [37]] | _ => []
def lv (n : Nat) : UInt8 := match n with | 1 => 82 | 2 => 80 | 3 => 84 | 4 => 83 | 5 => 77 | _ => 65
def tl (n : Nat) : UInt8 := match n with | 1 => 114 | 2 => 112 | 3 => 99 | 4 => 115 | _ => 109
theorem headD_not (t x : By) (hD : headD t = true) (hx : headD x = false) : t ≠ x := by
 rintro rfl
 rw [hD] at hx
 cases hx
theorem name_not (t x : By) (hN : nameB t = true) (hx : nameB x = false) : t ≠ x := by
 rintro rfl
 rw [hN] at hx
 cases hx
theorem cls_ask (P : By → Nat → Prop) (t : By) (k : Nat) (h : Cls t k) (h1 : ∀ t, headD t = true → P t 1) (h2 : ∀ t, headD t = false → nameB t = true → P t 2) (h0 : P [] 0) (hm : ∀ x, x ∈ meanN → P x.1 x.2) : P t k := by
 rcases h with ⟨hD, rfl⟩ | ⟨hD, hN, rfl⟩ | ⟨rfl, rfl⟩ | h
 ·exact h1 t hD
 ·exact h2 t hD hN
 ·exact h0
 ·exact hm (t, k) h
theorem inB_false (t : By) (l : List By) (h : ∀ x, x ∈ l → t ≠ x) : inB t l = false := by
 rw [Bool.eq_false_iff]
 intro hin
 simp only [inB, List.contains_iff_mem] at hin
 exact h t hin rfl
theorem betw_sgn (t : By) (k : Nat) (h : Cls t k) (n : Nat) (h1 : 1 ≤ n) (h5 : n ≤ 5) : (betwW.getD k 0 = (n : Int)) ↔ inB t (sgn n) = true := by
 have hn : n = 1 ∨ n = 2 ∨ n = 3 ∨ n = 4 ∨ n = 5 := by omega
 refine cls_ask (fun t k => (betwW.getD k 0 = (n : Int)) ↔ inB t (sgn n) = true) t k h (fun t hD => ?_) (fun t _ hN => ?_) ?_ ?_
 ·rw [inB_false t (sgn n) (fun x hx => headD_not t x hD (by rcases hn with rfl | rfl | rfl | rfl | rfl <;> revert x <;> decide))]
  rcases hn with rfl | rfl | rfl | rfl | rfl <;> decide
 ·rw [inB_false t (sgn n) (fun x hx => name_not t x hN (by rcases hn with rfl | rfl | rfl | rfl | rfl <;> revert x <;> decide))]
  rcases hn with rfl | rfl | rfl | rfl | rfl <;> decide
 ·rcases hn with rfl | rfl | rfl | rfl | rfl <;> decide
 ·rcases hn with rfl | rfl | rfl | rfl | rfl <;> decide
theorem ahead_iff (t : By) (k : Nat) (h : Cls t k) (n : Nat) (h1 : 1 ≤ n) (h6 : n ≤ 6) : (aheadW.getD k 0 = (n : Int)) ↔ ((n = 3 ∧ t = [110, 111, 116]) ∨ (n = 6 ∧ t = [45])) := by
 have hn : n = 1 ∨ n = 2 ∨ n = 3 ∨ n = 4 ∨ n = 5 ∨ n = 6 := by omega
 refine cls_ask (fun t k => (aheadW.getD k 0 = (n : Int)) ↔ ((n = 3 ∧ t = [110, 111, 116]) ∨ (n = 6 ∧ t = [45]))) t k h (fun t hD => ?_) (fun t _ hN => ?_) ?_ ?_
 ·have e1 := headD_not t [110, 111, 116] hD (by decide)
  have e2 := headD_not t [45] hD (by decide)
  simp only [e1, e2]
  rcases hn with rfl | rfl | rfl | rfl | rfl | rfl <;> decide
 ·have e1 := name_not t [110, 111, 116] hN (by decide)
  have e2 := name_not t [45] hN (by decide)
  simp only [e1, e2]
  rcases hn with rfl | rfl | rfl | rfl | rfl | rfl <;> decide
 ·rcases hn with rfl | rfl | rfl | rfl | rfl | rfl <;> decide
 ·rcases hn with rfl | rfl | rfl | rfl | rfl | rfl <;> decide
theorem bec_lv (n : Nat) (h1 : 1 ≤ n) (h5 : n ≤ 5) (o : Nat) (t : By) (h : n = 3 → t ≠ [110, 111, 116]) : becB (lv n) o t = [symB (lv (n + 1)) o, symB (tl n) o] := by
 have hn : n = 1 ∨ n = 2 ∨ n = 3 ∨ n = 4 ∨ n = 5 := by omega
 rcases hn with rfl | rfl | rfl | rfl | rfl
 ·rfl
 ·rfl
 ·show (if t = [110, 111, 116] then deepB t 84 o else [symB 83 o, symB 99 o]) = _
  rw [if_neg (h rfl)]
  rfl
 ·rfl
 ·rfl
theorem bec_tl_stop (n : Nat) (h1 : 1 ≤ n) (h5 : n ≤ 5) (o : Nat) (t : By) (h : inB t (sgn n) = false) : becB (tl n) o t = [] := by
 have hn : n = 1 ∨ n = 2 ∨ n = 3 ∨ n = 4 ∨ n = 5 := by omega
 have key : ∀ p g, moreB t (sgn n) p g o = [] := fun p g => by unfold moreB; rw [h]; rfl
 rcases hn with rfl | rfl | rfl | rfl | rfl
 ·exact key 80 (some 114)
 ·exact key 84 (some 112)
 ·exact key 83 none
 ·exact key 77 (some 115)
 ·exact key 65 (some 109)
theorem bec_tl_go (n : Nat) (h1 : 1 ≤ n) (h5 : n ≤ 5) (o : Nat) (t : By) (h : inB t (sgn n) = true) : becB (tl n) o t = t :: symB (lv (n + 1)) o :: (if n = 3 then [] else [symB (tl n) o]) := by
 have hn : n = 1 ∨ n = 2 ∨ n = 3 ∨ n = 4 ∨ n = 5 := by omega
 have key : ∀ p g, moreB t (sgn n) p g o = (match g with | none => [t, symB p o] | some g => [t, symB p o, symB g o]) := fun p g => by unfold moreB; rw [h]; rfl
 rcases hn with rfl | rfl | rfl | rfl | rfl
 ·exact key 80 (some 114)
 ·exact key 84 (some 112)
 ·exact key 83 none
 ·exact key 77 (some 115)
 ·exact key 65 (some 109)
def spellOf (k : Int) : By := spellW.getD k.toNat []
theorem textB_D (t : By) (h : headD t = true) : textB t = shortB t := by simp [textB, h]
theorem piece_other (q : Option By) (t : By) (k : Nat) (h : Cls t k) (hk : k ≠ 0) (hb : inB t betW = false) : pieceB q t = spellOf (k : Int) ++ textB t := by
 have e : pieceB q t = if t = [44] || t = [110, 111, 116] then t ++ [32] else shortB t := by
  unfold pieceB
  rw [hb]
  rfl
 rw [e]
 refine cls_ask (fun t k => k ≠ 0 → inB t betW = false → (if t = [44] || t = [110, 111, 116] then t ++ [32] else shortB t) = spellOf (k : Int) ++ textB t) t k h (fun t hD _ _ => ?_) (fun t hD hN _ _ => ?_) (fun h => absurd rfl h) (by decide) hk hb
 ·rw [if_neg (by simp [headD_not t [44] hD (by decide), headD_not t [110, 111, 116] hD (by decide)]), textB_D t hD]
  rfl
 ·rw [if_neg (by simp [name_not t [44] hN (by decide), name_not t [110, 111, 116] hN (by decide)])]
  have hm : meanB t = none := meanIn_none meanW t fun j hj he => by
   have := name_not t (meanW[j]).1 hN ((show ∀ x, x ∈ meanW → nameB x.1 = false by decide) _ (List.getElem_mem hj))
   exact this he.symm
  have ht : textB t = t := by simp [textB, hD, hm]
  rw [ht]
  match t, hN with
  | [], hN => simp [nameB, headL] at hN
  | [c], _ => rfl
  | c :: d :: r, hN =>
   have hc : c ≠ 48 := by
    rintro rfl
    have : headL (48 :: d :: r) = false := by show isL 48 = false; decide
    simp [nameB, this] at hN
   simp [shortB, hc, spellOf, spellW]
theorem piece_op (q : Option By) (t : By) (k : Nat) (h : Cls t k) (hb : inB t betW = true) (hq : behO q = true) : pieceB q t = spellOf (k : Int) ++ textB t := by
 have e : pieceB q t = [32] ++ t ++ [32] := by
  unfold pieceB
  rw [hb, hq]
  rfl
 rw [e]
 refine cls_ask (fun t k => inB t betW = true → [32] ++ t ++ [32] = spellOf (k : Int) ++ textB t) t k h (fun t hD hb => ?_) (fun t _ hN hb => ?_) (by decide) (by decide) hb
 ·rw [inB_false t betW (fun x hx => headD_not t x hD (by revert x; decide))] at hb
  cases hb
 ·rw [inB_false t betW (fun x hx => name_not t x hN (by revert x; decide))] at hb
  cases hb
theorem piece_neg (q : Option By) (hq : behO q = false) : pieceB q [45] = spellOf 14 := by
 unfold pieceB
 rw [hq]
 decide
end
section
inductive Pt where
 | atom (k : Nat) (nm : By) (n : Nat)
 | un (k : Nat) (a : Pt)
 | bin (k : Nat) (a b : Pt)
 | ifs (a b c : Pt)
def Pt.k : Pt → Nat | .atom k _ _ => k | .un k _ => k | .bin k _ _ => k | .ifs _ _ _ => 3
def Pt.nm : Pt → By | .atom _ x _ => x | _ => []
def Pt.n : Pt → Nat | .atom _ _ n => n | _ => 0
def Pt.kids : Pt → List Pt | .atom _ _ _ => [] | .un _ a => [a] | .bin _ a b => [a, b] | .ifs a b c => [a, b, c]
def jn (bt : By) : List By → By | [] => [] | x :: l => x ++ l.flatMap fun y => bt ++ y
def numT (k n : Nat) : By := if k = 1 then Lib.decDigits n else []
def txt : Pt → By
 | .atom k x n => ahd k ++ x ++ numT k n ++ jn (btw k) [] ++ bhd k
 | .un k a => ahd k ++ [] ++ numT k 0 ++ jn (btw k) [txt a] ++ bhd k
 | .bin k a b => ahd k ++ [] ++ numT k 0 ++ jn (btw k) [txt a, txt b] ++ bhd k
 | .ifs a b c => ahd 3 ++ [] ++ numT 3 0 ++ jn (btw 3) [txt a, txt b, txt c] ++ bhd 3
theorem txt_eq (p : Pt) : txt p = ahd p.k ++ p.nm ++ numT p.k p.n ++ jn (btw p.k) (p.kids.map txt) ++ bhd p.k := by
 cases p <;> rfl
theorem jn_snoc (bt : By) (l : List By) (x : By) : jn bt (l ++ [x]) = jn bt l ++ (if l = [] then [] else bt) ++ x := by
 cases l with
 | nil => simp [jn]
 | cons y l => simp [jn]
inductive PIs (w : World) (S : Nat → Prop) : Pt → Option Addr → Nat → Nat → Prop
 | leaf (p : Pt) : p.kids = [] → PIs w S p none 0 0
 | node (p : Pt) (g cap : Nat) (A : Nat → Option Addr) (L C : Nat → Nat) : S g → p.kids ≠ [] →
   (∀ j (h : j < p.kids.length), w.cell? ⟨g, j * 4, none⟩ = some (.int .i64 ((p.kids[j]).k : Int)) ∧ w.cell? ⟨g, j * 4 + 1, none⟩ = some (.string ⟨((p.kids[j]).nm).toArray⟩) ∧ w.cell? ⟨g, j * 4 + 2, none⟩ = some (.int .i64 ((p.kids[j]).n : Int)) ∧ w.cell? ⟨g, j * 4 + 3, none⟩ = some (.slice (A j) (L j) (C j))) →
   (∀ j (h : j < p.kids.length), PIs w S p.kids[j] (A j) (L j) (C j)) →
   PIs w S p (some ⟨g, 0, none⟩) p.kids.length cap
theorem cell_congr {w w' : World} {g : Nat} (h : w'.heap[g]? = w.heap[g]?) (o : Nat) : w'.cell? ⟨g, o, none⟩ = w.cell? ⟨g, o, none⟩ := by
 simp only [World.cell?, h]
theorem PIs.next {w w' : World} {S : Nat → Prop} {p : Pt} {a : Option Addr} {l c : Nat} (h : PIs w S p a l c) (hh : ∀ q, S q → w'.heap[q]? = w.heap[q]?) : PIs w' S p a l c := by
 induction h with
 | leaf p hp => exact .leaf p hp
 | node p g cap A L C hg hk hc _ ih =>
  refine .node p g cap A L C hg hk (fun j hj => ?_) ih
  rw [cell_congr (hh g hg), cell_congr (hh g hg), cell_congr (hh g hg), cell_congr (hh g hg)]
  exact hc j hj
theorem PIs.wide {w : World} {S S' : Nat → Prop} {p : Pt} {a : Option Addr} {l c : Nat} (h : PIs w S p a l c) (hh : ∀ q, S q → S' q) : PIs w S' p a l c := by
 induction h with
 | leaf p hp => exact .leaf p hp
 | node p g cap A L C hg hk hc _ ih => exact .node p g cap A L C (hh g hg) hk hc ih
inductive Der (ts : List (By × Nat)) : Nat → Nat → Nat → Pt → Prop
 | atom (i k : Nat) : i < ts.length → Cls (tAt ts i) k → (k = 1 ∨ k = 2 ∨ k = 7 ∨ k = 8) → Der ts 6 i (i + 1) (.atom k (nmB (tAt ts i)) (nuB (tAt ts i)))
 | nots (i j : Nat) (a : Pt) : tAt ts i = [110, 111, 116] → Der ts 3 (i + 1) j a → Der ts 3 i j (.un 6 a)
 | neg (i j : Nat) (a : Pt) : tAt ts i = [45] → Der ts 6 (i + 1) j a → Der ts 6 i j (.un 14 a)
 | br (i j : Nat) (a : Pt) : tAt ts i = [40] → Der ts 1 (i + 1) j a → tAt ts j = [41] → Der ts 6 i (j + 1) (.un 9 a)
 | ifs (i j1 j2 j3 : Nat) (a b c : Pt) : tAt ts i = [105, 102] → tAt ts (i + 1) = [40] → Der ts 1 (i + 1 + 1) j1 a → tAt ts j1 = [44] → Der ts 1 (j1 + 1) j2 b → tAt ts j2 = [44] → Der ts 1 (j2 + 1) j3 c → tAt ts j3 = [41] → Der ts 6 i (j3 + 1) (.ifs a b c)
 | up (n i j : Nat) (a : Pt) : 1 ≤ n → n ≤ 5 → Der ts (n + 1) i j a → Der ts n i j a
 | more (n i j j' k : Nat) (a b : Pt) : 1 ≤ n → n ≤ 5 → Der ts (if n = 3 then 4 else n) i j a → inB (tAt ts j) (sgn n) = true → Cls (tAt ts j) k → Der ts (n + 1) (j + 1) j' b → Der ts n i j' (.bin k a b)
theorem Der.lt {ts : List (By × Nat)} {n i j : Nat} {p : Pt} (h : Der ts n i j p) : i < j := by
 induction h with
 | atom => omega
 | nots => omega
 | neg => omega
 | br => omega
 | ifs => omega
 | up => omega
 | more => omega
end
section
def OkT (ts : List (By × Nat)) : Prop := ∀ t p, (t, p) ∈ ts → (tokOK t = true ∧ ∃ c r, t = c :: r ∧ c ≠ 63 ∧ c ≠ 78) ∧ (headD t = true → AllD t)
theorem toks_allD (f : Nat) (l : By) (k : Nat) (t : By) (p : Nat) (h : (t, p) ∈ (toks f l k).1) : headD t = true → AllD t := by
 induction f generalizing l k with
 | zero => simp [toks] at h
 | succ f ih =>
  match l with
  | [] => simp [toks] at h
  | c :: r =>
   unfold toks at h
   split at h
   ·exact ih _ _ h
   ·split at h
    ·simp only [List.mem_cons, Prod.mk.injEq] at h
     rcases h with ⟨rfl, rfl⟩ | h
     ·rw [row_cons]
      intro hD
      exact row_allD c r hD
     ·exact ih _ _ h
    ·simp at h
theorem cls_word (x : By) (n : Nat) (hm : (x, n) ∈ meanN) (t : By) (k : Nat) (h : Cls t k) : k = n ↔ t = x := by
 have hx : ∀ y, y ∈ meanN → headD y.1 = false ∧ nameB y.1 = false ∧ y.1 ≠ [] ∧ y.2 ≠ 1 ∧ y.2 ≠ 2 ∧ y.2 ≠ 0 := by decide
 obtain ⟨a1, a2, a3, a4, a5, a6⟩ := hx _ hm
 simp only at a1 a2 a3 a4 a5 a6
 have huniq : ∀ y, y ∈ meanN → ∀ z, z ∈ meanN → (y.2 = z.2 ↔ y.1 = z.1) := by decide
 rcases h with ⟨h, rfl⟩ | ⟨_, h, rfl⟩ | ⟨rfl, rfl⟩ | h
 ·exact ⟨fun e => absurd e.symm a4, fun e => by rw [e, a1] at h; cases h⟩
 ·exact ⟨fun e => absurd e.symm a5, fun e => by rw [e, a2] at h; cases h⟩
 ·exact ⟨fun e => absurd e.symm a6, fun e => absurd e.symm a3⟩
 ·exact huniq _ h _ hm
theorem bet_plain (t : By) (k : Nat) (h : Cls t k) (hk : k = 1 ∨ k = 2 ∨ k = 7 ∨ k = 8) : inB t betW = false ∧ behB t = true := by
 rcases h with ⟨hD, _⟩ | ⟨_, hN, _⟩ | ⟨_, h⟩ | h
 ·exact ⟨inB_false t betW (fun x hx => headD_not t x hD (by revert x; decide)), by simp [behB, hD]⟩
 ·exact ⟨inB_false t betW (fun x hx => name_not t x hN (by revert x; decide)), by simp [behB, hN]⟩
 ·omega
 ·simp only [meanN, List.mem_cons, List.not_mem_nil, or_false, Prod.mk.injEq] at h
  rcases h with ⟨rfl, rfl⟩ | ⟨rfl, rfl⟩ | ⟨rfl, rfl⟩ | ⟨rfl, rfl⟩ | ⟨rfl, rfl⟩ | ⟨rfl, rfl⟩ | ⟨rfl, rfl⟩ | ⟨rfl, rfl⟩ | ⟨rfl, rfl⟩ | ⟨rfl, rfl⟩ | ⟨rfl, rfl⟩ | ⟨rfl, rfl⟩ | ⟨rfl, rfl⟩ | ⟨rfl, rfl⟩ | ⟨rfl, rfl⟩ | ⟨rfl, rfl⟩ <;> first | decide | omega
theorem sgn_bet (n : Nat) (h1 : 1 ≤ n) (h5 : n ≤ 5) (t : By) (h : inB t (sgn n) = true) : inB t betW = true ∧ behB t = false ∧ t ≠ [] := by
 have hn : n = 1 ∨ n = 2 ∨ n = 3 ∨ n = 4 ∨ n = 5 := by omega
 simp only [inB, List.contains_iff_mem] at h
 rcases hn with rfl | rfl | rfl | rfl | rfl <;> simp only [sgn, List.mem_cons, List.not_mem_nil, or_false] at h
 ·subst h; decide
 ·subst h; decide
 ·rcases h with rfl | rfl <;> decide
 ·rcases h with rfl | rfl <;> decide
 ·rcases h with rfl | rfl | rfl <;> decide
theorem sgn_told (n : Nat) (h1 : 1 ≤ n) (h5 : n ≤ 5) (t : By) (k : Nat) (h : inB t (sgn n) = true) (hc : Cls t k) : spellOf (k : Int) ++ textB t = btw k ∧ ahd k = [] ∧ bhd k = [] ∧ k ≠ 1 := by
 have hn : n = 1 ∨ n = 2 ∨ n = 3 ∨ n = 4 ∨ n = 5 := by omega
 have key : ∀ x m, (x, m) ∈ meanN → t = x → (spellOf (m : Int) ++ textB x = btw m ∧ ahd m = [] ∧ bhd m = [] ∧ m ≠ 1) → spellOf (k : Int) ++ textB t = btw k ∧ ahd k = [] ∧ bhd k = [] ∧ k ≠ 1 := by
  intro x m hm ht h
  have hk := (cls_word x m hm t k hc).2 ht
  subst hk ht
  exact h
 simp only [inB, List.contains_iff_mem] at h
 rcases hn with rfl | rfl | rfl | rfl | rfl <;> simp only [sgn, List.mem_cons, List.not_mem_nil, or_false] at h
 ·exact key _ 5 (by decide) h (by decide)
 ·exact key _ 4 (by decide) h (by decide)
 ·rcases h with h | h
  ·exact key _ 18 (by decide) h (by decide)
  ·exact key _ 19 (by decide) h (by decide)
 ·rcases h with h | h
  ·exact key _ 12 (by decide) h (by decide)
  ·exact key _ 13 (by decide) h (by decide)
 ·rcases h with h | h | h
  ·exact key _ 15 (by decide) h (by decide)
  ·exact key _ 16 (by decide) h (by decide)
  ·exact key _ 17 (by decide) h (by decide)
section
variable {ts : List (By × Nat)}
theorem OkT.get (hk : OkT ts) {i : Nat} (hi : i < ts.length) : tokOK (tAt ts i) = true ∧ ∃ c r, tAt ts i = c :: r ∧ c ≠ 63 ∧ c ≠ 78 := by
 rw [tAt_lt ts i hi]
 exact (hk ts[i].1 ts[i].2 (List.getElem_mem hi)).1
theorem OkT.dig (hk : OkT ts) {i : Nat} (hi : i < ts.length) : headD (tAt ts i) = true → AllD (tAt ts i) := by
 rw [tAt_lt ts i hi]
 exact (hk ts[i].1 ts[i].2 (List.getElem_mem hi)).2
theorem at_lt {i : Nat} {x : By} (hx : x ≠ []) (h : tAt ts i = x) : i < ts.length := by
 rcases Nat.lt_or_ge i ts.length with h1 | h1
 ·exact h1
 ·rw [tAt_ge ts i h1] at h; exact absurd h.symm hx
theorem prev_succ {i : Nat} (hi : i < ts.length) : prevB ts (i + 1) = some (tAt ts i) := by
 rw [prevB_succ ts i (by omega), tAt_lt ts i hi]
theorem told_succ {i : Nat} (hi : i < ts.length) : toldTo ts (i + 1) = toldTo ts i ++ pieceB (prevB ts i) (tAt ts i) := by
 rw [toldTo_succ ts i hi, tAt_lt ts i hi]
theorem told_word {i : Nat} (x : By) (k : Nat) (hm : (x, k) ∈ meanN) (hb : inB x betW = false) (hx : x ≠ []) (hk : k ≠ 0) (h : tAt ts i = x) : toldTo ts (i + 1) = toldTo ts i ++ (spellOf (k : Int) ++ textB x) ∧ prevB ts (i + 1) = some x ∧ i < ts.length := by
 have hi := at_lt hx h
 refine ⟨?_, by rw [prev_succ hi, h], hi⟩
 rw [told_succ hi, h, piece_other _ x k (Or.inr (Or.inr (Or.inr hm))) hk hb]
theorem atom_txt (t : By) (k : Nat) (hc : Cls t k) (hk : k = 1 ∨ k = 2 ∨ k = 7 ∨ k = 8) (hD : headD t = true → AllD t) (hne : t ≠ []) : spellOf (k : Int) ++ textB t = txt (.atom k (nmB t) (nuB t)) := by
 show _ = ahd k ++ nmB t ++ numT k (nuB t) ++ [] ++ bhd k
 rcases hc with ⟨h, rfl⟩ | ⟨h, hN, rfl⟩ | ⟨_, h⟩ | h
 ·rw [textB_D t h]
  unfold nmB nuB numT
  rw [h]
  simp only [if_true]
  rw [dec_short t hne (hD h)]
  simp [spellOf, spellW, ahd, ahdW, bhd, bhdW]
 ·unfold nmB numT
  rw [h]
  simp [spellOf, spellW, ahd, ahdW, bhd, bhdW]
 ·omega
 ·simp only [meanN, List.mem_cons, List.not_mem_nil, or_false, Prod.mk.injEq] at h
  rcases h with ⟨rfl, rfl⟩ | ⟨rfl, rfl⟩ | ⟨rfl, rfl⟩ | ⟨rfl, rfl⟩ | ⟨rfl, rfl⟩ | ⟨rfl, rfl⟩ | ⟨rfl, rfl⟩ | ⟨rfl, rfl⟩ | ⟨rfl, rfl⟩ | ⟨rfl, rfl⟩ | ⟨rfl, rfl⟩ | ⟨rfl, rfl⟩ | ⟨rfl, rfl⟩ | ⟨rfl, rfl⟩ | ⟨rfl, rfl⟩ | ⟨rfl, rfl⟩ <;> first | rfl | omega
theorem Der.told (hok : OkT ts) {n i j : Nat} {p : Pt} (h : Der ts n i j p) : behO (prevB ts i) = false → j ≤ ts.length ∧ behO (prevB ts j) = true ∧ toldTo ts j = toldTo ts i ++ txt p := by
 induction h with
 | atom i k hi hc hk =>
  intro _
  obtain ⟨hnb, hbe⟩ := bet_plain _ k hc hk
  obtain ⟨_, c, r, hcr, _⟩ := hok.get hi
  refine ⟨by omega, by rw [prev_succ hi]; exact hbe, ?_⟩
  rw [told_succ hi, piece_other _ _ k hc (by omega) hnb, atom_txt _ k hc hk (hok.dig hi) (by rw [hcr]; simp)]
 | nots i j a ht _ ih =>
  intro _
  obtain ⟨e1, e2, _⟩ := told_word (ts := ts) [110, 111, 116] 6 (by decide) (by decide) (by decide) (by decide) ht
  obtain ⟨h1, h2, h3⟩ := ih (by rw [e2]; decide)
  refine ⟨h1, h2, ?_⟩
  rw [h3, e1]
  simp [txt, jn, spellOf, spellW, textB, headD, isD, digB, meanB, meanIn, meanW, ahd, ahdW, bhd, bhdW, numT]
 | neg i j a ht _ ih =>
  intro hq
  have hi := at_lt (by decide) ht
  obtain ⟨h1, h2, h3⟩ := ih (by rw [prev_succ hi, ht]; decide)
  refine ⟨h1, h2, ?_⟩
  rw [h3, told_succ hi, ht, piece_neg _ hq]
  simp [txt, jn, spellOf, spellW, ahd, ahdW, bhd, bhdW, numT]
 | br i j a ht _ hu ih =>
  intro _
  obtain ⟨e1, e2, _⟩ := told_word (ts := ts) [40] 9 (by decide) (by decide) (by decide) (by decide) ht
  obtain ⟨f1, f2, f3⟩ := told_word (ts := ts) [41] 10 (by decide) (by decide) (by decide) (by decide) hu
  obtain ⟨h1, h2, h3⟩ := ih (by rw [e2]; decide)
  refine ⟨by omega, by rw [f2]; decide, ?_⟩
  rw [f1, h3, e1]
  simp [txt, jn, spellOf, spellW, textB, headD, isD, digB, meanB, meanIn, meanW, ahd, ahdW, bhd, bhdW, numT]
 | ifs i j1 j2 j3 a b c ht hu _ h1 _ h2 _ h3 iha ihb ihc =>
  intro _
  obtain ⟨e1, e2, _⟩ := told_word (ts := ts) [105, 102] 3 (by decide) (by decide) (by decide) (by decide) ht
  obtain ⟨f1, f2, _⟩ := told_word (ts := ts) [40] 9 (by decide) (by decide) (by decide) (by decide) hu
  obtain ⟨g1, g2, _⟩ := told_word (ts := ts) [44] 11 (by decide) (by decide) (by decide) (by decide) h1
  obtain ⟨k1, k2, _⟩ := told_word (ts := ts) [44] 11 (by decide) (by decide) (by decide) (by decide) h2
  obtain ⟨l1, l2, l3⟩ := told_word (ts := ts) [41] 10 (by decide) (by decide) (by decide) (by decide) h3
  obtain ⟨_, _, a3⟩ := iha (by rw [f2]; decide)
  obtain ⟨_, _, b3⟩ := ihb (by rw [g2]; decide)
  obtain ⟨_, _, c3⟩ := ihc (by rw [k2]; decide)
  refine ⟨by omega, by rw [l2]; decide, ?_⟩
  rw [l1, c3, k1, b3, g1, a3, f1, e1]
  simp [txt, jn, spellOf, spellW, textB, headD, isD, digB, meanB, meanIn, meanW, ahd, ahdW, bhd, bhdW, numT, btw, btwW]
 | up n i j a _ _ _ ih => exact ih
 | more n i j j' k a b h1 h5 _ hs hc _ iha ihb =>
  intro hq
  obtain ⟨hbw, hbn, hne⟩ := sgn_bet n h1 h5 _ hs
  obtain ⟨e1, e2, e3, e4⟩ := sgn_told n h1 h5 _ k hs hc
  have hj : j < ts.length := by
   rcases Nat.lt_or_ge j ts.length with h | h
   ·exact h
   ·exact absurd (tAt_ge ts j h) hne
  obtain ⟨_, a2, a3⟩ := iha hq
  obtain ⟨b1, b2, b3⟩ := ihb (by rw [prev_succ hj]; exact hbn)
  refine ⟨b1, b2, ?_⟩
  rw [b3, told_succ hj, piece_op _ _ k hc hbw a2, e1, a3]
  simp [txt, jn, e2, e3, e4, numT]
end
end
section
def ptoks (len : Nat) (ts : List (By × Nat)) : List PT := ts.map (fun x => (kindB x.1, x.2, nmB x.1, nuB x.1)) ++ [(0, len, [], 0)]
section
variable {len : Nat} {ts : List (By × Nat)}
theorem ptoks_length : (ptoks len ts).length = ts.length + 1 := by simp [ptoks]
theorem ptoks_lt {i : Nat} (h : i < (ptoks len ts).length) (hi : i < ts.length) : (ptoks len ts)[i] = (kindB (tAt ts i), pAt len ts i, nmB (tAt ts i), nuB (tAt ts i)) := by
 have h2 : pAt len ts i = ts[i].2 := by simp [pAt, hi]
 rw [tAt_lt ts i hi, h2]
 simp [ptoks, hi]
theorem ptoks_end {i : Nat} (h : i < (ptoks len ts).length) (hi : ¬ i < ts.length) : (ptoks len ts)[i] = (0, len, [], 0) := by
 simp [ptoks, List.getElem_append, hi]
theorem ptoks_at {i : Nat} (h : i < (ptoks len ts).length) : ((ptoks len ts)[i]).2.1 = pAt len ts i := by
 by_cases hi : i < ts.length
 ·rw [ptoks_lt h hi]
 ·rw [ptoks_end h hi]
  simp [pAt, show ts.length ≤ i by omega]
theorem OkT.tk (hk : OkT ts) {i : Nat} (hi : i < ts.length) : Tk (tAt ts i) := by
 obtain ⟨_, c, r, h, h63, h78⟩ := hk.get hi
 rw [h]
 exact ⟨c, r, rfl, h63, fun he => h78 (by unfold wName at he; simp at he; exact he.1)⟩
theorem OkT.notNone (hk : OkT ts) (i : Nat) : tAt ts i ≠ wNone := by
 by_cases hi : i < ts.length
 ·obtain ⟨_, c, r, h, h63, h78⟩ := hk.get hi
  rw [h]
  intro he
  apply h78
  unfold wNone at he
  simp at he
  exact he.1
 ·rw [tAt_ge ts i (by omega)]
  decide
theorem OkT.cls (hk : OkT ts) {i : Nat} (h : i < (ptoks len ts).length) : ∃ k : Nat, Cls (tAt ts i) k ∧ ((ptoks len ts)[i]).1 = (k : Int) ∧ k < 20 ∧ (k = 0 ↔ ¬ i < ts.length) := by
 by_cases hi : i < ts.length
 ·obtain ⟨ho, c, r, hc, _⟩ := hk.get hi
  obtain ⟨k, hcl, hkk⟩ := cls_tok (tAt ts i) ho (by rw [hc]; simp)
  refine ⟨k, hcl, by rw [ptoks_lt h hi]; exact hkk, ?_, ?_⟩
  ·rcases hcl with ⟨_, rfl⟩ | ⟨_, _, rfl⟩ | ⟨_, rfl⟩ | hm
   ·omega
   ·omega
   ·omega
   ·exact (show ∀ x, x ∈ meanN → x.2 < 20 by decide) _ hm
  ·constructor
   ·rintro rfl
    rcases hcl with ⟨_, h0⟩ | ⟨_, _, h0⟩ | ⟨h0, _⟩ | hm
    ·omega
    ·omega
    ·rw [hc] at h0; cases h0
    ·exact absurd ((show ∀ x, x ∈ meanN → x.2 ≠ 0 by decide) _ hm rfl) id
   ·intro h0; exact absurd hi h0
 ·refine ⟨0, Or.inr (Or.inr (Or.inl ⟨tAt_ge ts i (by omega), rfl⟩)), by rw [ptoks_end h hi]; rfl, by omega, by simp [hi]⟩
theorem OkT.word (hok : OkT ts) {i : Nat} (h : i < (ptoks len ts).length) (x : By) (n : Nat) (hm : (x, n) ∈ meanN) : ((ptoks len ts)[i]).1 = (n : Int) ↔ tAt ts i = x := by
 obtain ⟨k, hc, hk, _, _⟩ := hok.cls h
 rw [hk]
 have := cls_word x n hm _ k hc
 constructor
 ·intro h; exact this.1 (by omega)
 ·intro h; have := this.2 h; omega
end
structure St (len : Nat) (ts : List (By × Nat)) (w : World) (b bl cp i : Nat) (d : Nat) (e : Int) : Prop where
 rd : Rdr w b bl cp (ptoks len ts) i (d : Int) e
 env : Env w
 low : 11 ≤ bl
theorem St.le {len : Nat} {ts : List (By × Nat)} {w : World} {b bl cp i d : Nat} {e : Int} (h : St len ts w b bl cp i d e) : i ≤ ts.length := by
 have := h.rd.lt
 rw [ptoks_length] at this
 omega
def LvPost (len : Nat) (ts : List (By × Nat)) (S : List By) (D : Nat → Pt → Prop) (c1 : Nat) (b bl cp i d : Nat) (e : Int) (w : World) (r : Ending) (w' : World) : Prop :=
 (∃ (i' m : Nat) (p : Pt) (a : Option Addr) (l c : Nat), r = .returned (.tuple #[.agg #[.int .i64 (p.k : Int), .string ⟨p.nm.toArray⟩, .int .i64 (p.n : Int), .slice a l c], .bool true]) ∧ PIs w' (fun q => w.heap.size ≤ q ∧ q < w'.heap.size) p a l c ∧ D i' p ∧ St len ts w' b bl cp i' d e ∧ i < i' ∧ Kp b w w' ∧ m + c1 ≤ 20 * (i' - i) ∧ Go1 len ts S i i' m) ∨
 (∃ (i' m : Nat) (d' er k n : Int) (s : By) (a : Option Addr) (l c : Nat), r = .returned (.tuple #[.agg #[.int .i64 k, .string ⟨s.toArray⟩, .int .i64 n, .slice a l c], .bool false]) ∧ Rdr w' b bl cp (ptoks len ts) i' d' er ∧ er ≠ 0 ∧ Kp b w w' ∧ m + c1 ≤ 20 * (ts.length - i) + 20 ∧ No1 len ts S i er (pAt len ts i') m)
def LvAll (len : Nat) (ts : List (By × Nat)) (b bl cp F : Nat) : Prop :=
 ∀ (n i d : Nat) (e : Int) (w : World), 1 ≤ n → n ≤ 6 → d ≤ 6 → 10 * (ts.length - i) + (7 - n) < F → St len ts w b bl cp i d e →
  Calls Tryz.prog 93 #[.pointer (some ⟨b, 0, none⟩), .int .i64 (n : Int)] w (LvPost len ts [symB (lv n) d] (fun i' p => Der ts n i i' p) (2 * n) b bl cp i d e w)
theorem St.setD {len : Nat} {ts : List (By × Nat)} {w : World} {b bl cp i d : Nat} {e : Int} (h : St len ts w b bl cp i d e) (d' : Nat) :
  St len ts (w.setCell ⟨b, 1, none⟩ (.int .i64 (d' : Int))) b bl cp i d' e ∧ Kp b w (w.setCell ⟨b, 1, none⟩ (.int .i64 (d' : Int))) := by
 obtain ⟨h1, h2⟩ := h.rd.setD (d' : Int)
 exact ⟨⟨h1, h.env.below h2.bel (by have := h.low; have := h.rd.blk; omega), h.low⟩, h2⟩
theorem St.down {len : Nat} {ts : List (By × Nat)} {w w' : World} {b bl cp i i' d d' : Nat} {e e' : Int} (h : St len ts w b bl cp i d e) (hr : Rdr w' b bl cp (ptoks len ts) i' (d' : Int) e') (hb : Below b w w') : St len ts w' b bl cp i' d' e' :=
 ⟨hr, h.env.below hb (by have := h.low; have := h.rd.blk; omega), h.low⟩
theorem St.next {len : Nat} {ts : List (By × Nat)} {w w' : World} {b bl cp i d : Nat} {e : Int} (h : St len ts w b bl cp i d e) (hb : Below w.heap.size w w') : St len ts w' b bl cp i d e :=
 ⟨h.rd.next hb, h.env.next hb, h.low⟩
theorem St.store {len : Nat} {ts : List (By × Nat)} {w : World} {b bl cp i d : Nat} {e : Int} (h : St len ts w b bl cp i d e) {g j : Nat} {u : Value} (hg : b < g) : St len ts (w.setCell ⟨g, j, none⟩ u) b bl cp i d e :=
 ⟨h.rd.store (by omega) (by have := h.rd.blk; omega), h.env.below ((Below.refl b w).setCell (p := ⟨g, j, none⟩) (by show b ≤ g; omega) _) (by have := h.low; have := h.rd.blk; omega), h.low⟩
theorem St.store4 {len : Nat} {ts : List (By × Nat)} {w : World} {b bl cp i d : Nat} {e : Int} (h : St len ts w b bl cp i d e) (g : Nat) (v0 v1 v2 v3 : Value) (hg : b < g) : St len ts ((((w.setCell ⟨g, 0, none⟩ v0).setCell ⟨g, 1, none⟩ v1).setCell ⟨g, 2, none⟩ v2).setCell ⟨g, 3, none⟩ v3) b bl cp i d e :=
 (((h.store hg).store hg).store hg).store hg
def Ahead (n : Nat) (t : By) : Prop := (n = 3 ∧ t = [110, 111, 116]) ∨ (n = 6 ∧ t = [45])
theorem bec_ahead_go (n : Nat) (t : By) (d : Nat) (h : Ahead n t) (hd : d < 6) : becB (lv n) d t = [t, symB (lv n) (d + 1)] := by
 have hdp : ∀ k, deepB t k d = [t, symB k (d + 1)] := fun k => by unfold deepB; rw [if_neg (by omega)]
 rcases h with ⟨rfl, rfl⟩ | ⟨rfl, rfl⟩
 ·exact hdp 84
 ·exact hdp 65
theorem bec_ahead_no (n : Nat) (t : By) (h : Ahead n t) : becB (lv n) 6 t = [wDeep] := by
 rcases h with ⟨rfl, rfl⟩ | ⟨rfl, rfl⟩ <;> decide
theorem ahead_kind (n : Nat) (t : By) (k : Nat) (h : Ahead n t) (hc : Cls t k) : (n = 3 ∧ k = 6) ∨ (n = 6 ∧ k = 13) := by
 rcases h with ⟨rfl, rfl⟩ | ⟨rfl, rfl⟩
 ·exact Or.inl ⟨rfl, (cls_word [110, 111, 116] 6 (by decide) _ k hc).2 rfl⟩
 ·exact Or.inr ⟨rfl, (cls_word [45] 13 (by decide) _ k hc).2 rfl⟩
theorem PIs.un {w : World} {S : Nat → Prop} {p : Pt} {a : Option Addr} {l c g : Nat} {t : TypeId} {fr : Nat × Nat} (k : Nat) (h : PIs w S p a l c) (hg : S g) (hb : w.heap[g]? = some (.cells #[.int .i64 (p.k : Int), .string ⟨p.nm.toArray⟩, .int .i64 (p.n : Int), .slice a l c] t fr)) (cap : Nat) : PIs w S (.un k p) (some ⟨g, 0, none⟩) 1 cap := by
 refine PIs.node (.un k p) g cap (fun _ => a) (fun _ => l) (fun _ => c) hg (by simp [Pt.kids]) (fun j hj => ?_) (fun j hj => ?_)
 ·obtain rfl : j = 0 := by simp [Pt.kids] at hj; omega
  exact ⟨(cell_of_row w g 0 _ _ _ hb).trans rfl, (cell_of_row w g 1 _ _ _ hb).trans rfl, (cell_of_row w g 2 _ _ _ hb).trans rfl, (cell_of_row w g 3 _ _ _ hb).trans rfl⟩
 ·obtain rfl : j = 0 := by simp [Pt.kids] at hj; omega
  exact h
theorem PIs.bin {w : World} {S : Nat → Prop} {p p' : Pt} {a a' : Option Addr} {l c l' c' g : Nat} {t : TypeId} {fr : Nat × Nat} (k : Nat) (h : PIs w S p a l c) (h' : PIs w S p' a' l' c') (hg : S g) (hb : w.heap[g]? = some (.cells #[.int .i64 (p.k : Int), .string ⟨p.nm.toArray⟩, .int .i64 (p.n : Int), .slice a l c, .int .i64 (p'.k : Int), .string ⟨p'.nm.toArray⟩, .int .i64 (p'.n : Int), .slice a' l' c'] t fr)) (cap : Nat) : PIs w S (.bin k p p') (some ⟨g, 0, none⟩) 2 cap := by
 refine PIs.node (.bin k p p') g cap (fun j => if j = 0 then a else a') (fun j => if j = 0 then l else l') (fun j => if j = 0 then c else c') hg (by simp [Pt.kids]) (fun j hj => ?_) (fun j hj => ?_)
 ·have hj2 : j = 0 ∨ j = 1 := by simp [Pt.kids] at hj; omega
  rcases hj2 with rfl | rfl
  ·exact ⟨(cell_of_row w g 0 _ _ _ hb).trans rfl, (cell_of_row w g 1 _ _ _ hb).trans rfl, (cell_of_row w g 2 _ _ _ hb).trans rfl, (cell_of_row w g 3 _ _ _ hb).trans rfl⟩
  ·exact ⟨(cell_of_row w g 4 _ _ _ hb).trans rfl, (cell_of_row w g 5 _ _ _ hb).trans rfl, (cell_of_row w g 6 _ _ _ hb).trans rfl, (cell_of_row w g 7 _ _ _ hb).trans rfl⟩
 ·have hj2 : j = 0 ∨ j = 1 := by simp [Pt.kids] at hj; omega
  rcases hj2 with rfl | rfl
  ·exact h
  ·exact h'
end
section
section
variable {len : Nat} {ts : List (By × Nat)} {b bl cp : Nat}
theorem bs_deep (n i : Nat) (e : Int) (w : World) (h : Rdr w b bl cp (ptoks len ts) i 6 e) :
  Calls Tryz.prog 128 #[.pointer (some ⟨b, 0, none⟩), .int .i64 (n : Int)] w fun r w' => r = .returned (.tuple #[.agg #[.int .i64 0, .string ⟨#[]⟩, .int .i64 0, .slice none 0 0], .bool false]) ∧ Rdr w' b bl cp (ptoks len ts) i 6 4 ∧ Kp b w w' := by
 have H := tZ (fun w1 (g : Rdr w1 b bl cp (ptoks len ts) i 6 e) => enter_no w1 b bl cp _ i e g)
 have hs := h.size
 have HR := tZ h
 have hblk := h.blk
 clear h
 go_enter Tryz.func128, Tryz.ntmps128
 go_wp2_with (first | (go_at_call 158; refine (H.out _ (HR.out.next (bZ _))).mono ?_; rintro e w' ⟨rfl, hr, hbb⟩; refine Hid.out ?_))
 obtain ⟨⟨k0, k1, k2, k3⟩, ⟨f0, f1, f2, f3⟩, hsz⟩ := row4 (hbb.blk (q := w.heap.size) (heap_alloc_new w _) (by omega))
 have HB := tZ hbb
 have HR2 := tZ hr
 clear hr hbb
 refine tZ ?_
 go_wp2
 refine bodyPost_ret (v := .tuple #[.agg #[.int .i64 0, .string ⟨#[]⟩, .int .i64 0, .slice none 0 0], .bool false]) (by simp [results, Tryz.results128, go_sem, k0, k1, k2, k3, hsz]) rfl ?_
 have hk0 : Kp b w w' := (Kp.of (bZ _) hs).trans HB.out
 have hk1 := hk0.there4 w.heap.size (.int .i64 0) (.string ⟨#[]⟩) (.int .i64 0) (.slice none 0 0) (Nat.le_refl _) hs
 exact ⟨rfl, (HR2.out.store4 w.heap.size _ _ _ _ hs).next (bZ _), hk1.next (bZ _) (by have := hk1.size; omega)⟩
theorem bs_go (hok : OkT ts) (n i d : Nat) (e : Int) (w : World) (_hn1 : 1 ≤ n) (hd : d < 6) (hi : i < ts.length) (hA : Ahead n (tAt ts i)) (hS : St len ts w b bl cp i d e) (z zz : Nat) (hz : ((ptoks len ts)[i]'hS.rd.lt).1 = (z : Int)) (hzz : (z = 13 ∧ zz = 14) ∨ (z ≠ 13 ∧ zz = z))
  (hDer : ∀ i' p, Der ts n (i + 1) i' p → Der ts n i i' (.un zz p))
  (hL : ∀ w2, St len ts w2 b bl cp (i + 1) (d + 1) e → Calls Tryz.prog 93 #[.pointer (some ⟨b, 0, none⟩), .int .i64 (n : Int)] w2 (LvPost len ts [symB (lv n) (d + 1)] (fun i' p => Der ts n (i + 1) i' p) (2 * n) b bl cp (i + 1) (d + 1) e w2)) :
  Calls Tryz.prog 128 #[.pointer (some ⟨b, 0, none⟩), .int .i64 (n : Int)] w (LvPost len ts [symB (lv n) d] (fun i' p => Der ts n i i' p) (2 * n) b bl cp i d e w) := by
 have hlt := hS.rd.lt
 have H := tZ (fun w1 (g : Rdr w1 b bl cp (ptoks len ts) i (d : Int) e) => enter_yes w1 b bl cp _ i d e g hd (by rw [ptoks_length]; omega))
 have HL := tZ hL
 have HS := tZ hS
 have HDer := tZ hDer
 have hs := hS.rd.size
 have hblk := hS.rd.blk
 have HGO := tZ (fun (i' m : Nat) (h : Go1 len ts [symB (lv n) (d + 1)] (i + 1) i' m) => (show Go1 len ts [symB (lv n) d] i i' (m + 1 + 1) from Go1.sym (by omega) (by rw [bec_ahead_go n _ d hA hd]; exact Go1.tok (hok.tk hi) rfl h)))
 have HNO := tZ (fun (er : Int) (p m : Nat) (h : No1 len ts [symB (lv n) (d + 1)] (i + 1) er p m) => (show No1 len ts [symB (lv n) d] i er p (m + 1 + 1) from No1.sym (by omega) (by rw [bec_ahead_go n _ d hA hd]; exact No1.tok (hok.tk hi) rfl h)))
 have HZ := tZ hz
 clear hL hDer hA hok hz
 go_enter Tryz.func128, Tryz.ntmps128
 go_wp2_with (first | (go_at_call 158; refine (H.out _ (HS.out.rd.next (bZ _))).mono ?_; rw [HZ.out]; rintro r w1 ⟨rfl, hr, hbb⟩; refine Hid.out ?_))
 have hR1 := hbb.blk (q := w.heap.size) (heap_alloc_new w _) (by omega)
 have hk1 : Kp b w w1 := (Kp.of (bZ _) hs).trans hbb
 have HS1 := tZ (show St len ts w1 b bl cp (i + 1) (d + 1) e from HS.out.down (d' := d + 1) hr hk1.bel)
 have hsz1 := (Array.getElem?_eq_some_iff.1 hR1).1
 have HR1 := tZ hR1
 have HK1 := tZ hk1
 generalize ((ptoks len ts)[i]).2.2.2 = tn at *
 generalize ((ptoks len ts)[i]).2.2.1 = tx at *
 generalize ((ptoks len ts)[i]).2.1 = tp at *
 clear hr hbb hR1 hk1
 refine tZ ?_
 have HC := tZ (show ∀ w3, Kp b (w1.alloc (.cells #[.int .i64 (zz : Int), .int .i64 (tp : Int), .string ⟨tx.toArray⟩, .int .i64 (tn : Int)] 134)) w3 → w3.heap[w.heap.size]? = some (.cells #[.int .i64 0, .string ⟨#[]⟩, .int .i64 0, .slice none 0 0] 87 (0, 0)) ∧ w3.heap[w1.heap.size]? = some (.cells #[.int .i64 (zz : Int), .int .i64 (tp : Int), .string ⟨tx.toArray⟩, .int .i64 (tn : Int)] 134 (0, 0)) ∧ Kp b w w3 from fun w3 h => by
  refine ⟨h.blk ((Below.heap_alloc _ _ _ hsz1).trans HR1.out) (by omega), h.blk (heap_alloc_new w1 _) (by omega), ?_⟩
  exact (HK1.out.next (bZ _) (by omega)).trans h)
 have hzc : (zz = 14 ∧ ((z : Int) == 13) = true) ∨ (zz = z ∧ ((z : Int) == 13) = false) := by
  rcases hzz with ⟨h1, h2⟩ | ⟨h1, h2⟩
  ·exact Or.inl ⟨h2, by simp [h1]⟩
  ·exact Or.inr ⟨h2, beq_eq_false_iff_ne.2 (by omega)⟩
 clear hzz
 rcases hzc with ⟨rfl, hzb⟩ | ⟨rfl, hzb⟩
 ·go_wp2_with (first | (go_at_call 93; refine (HL.out _ (HS1.out.next (bZ _))).mono ?_; rintro r w3 (⟨i3, m3, p, a, l, c, rfl, hp, hD, hS3, hi3, hk3, hm3, hgo⟩ | ⟨i3, m3, d3, er, kk3, n3, s3, a, l, c, rfl, hr3, her, hk3, hm3, hno⟩) <;> refine Hid.out ?_))
  ·obtain ⟨hRw, hSg, hkw⟩ := HC.out w3 hk3
   obtain ⟨⟨k0, k1, k2, k3⟩, ⟨f0, f1, f2, f3⟩, hsz3⟩ := row4 hRw
   obtain ⟨⟨g0, _, _, _⟩, _, hsz4⟩ := row4 hSg
   obtain ⟨_, c1, _, fz⟩ := hS3.rd.cell
   have fz1 := fz 1
   have hcast : ((d + 1 : Nat) : Int) = (d : Int) + 1 := by omega
   rw [hcast] at c1
   have hbw : b < w3.heap.size := hS3.rd.size
   have A1 := tZ hS3
   have A2 := tZ hkw
   have A3 := tZ hp
   have A4 := tZ (HDer.out _ _ hD)
   have A5 := tZ (HGO.out _ _ hgo)
   have hne1 : w.heap.size ≠ b := by omega
   have hne2 : b ≠ w.heap.size := by omega
   clear hS3 hkw hp hD hgo fz hRw hSg hk3 hcast
   refine tZ ?_
   go_wp2
   refine bodyPost_ret (v := .tuple #[.agg #[.int .i64 14, .string ⟨#[]⟩, .int .i64 0, .slice (some ⟨w3.heap.size + 1, 0, none⟩) 1 1], .bool true]) (by simp [results, Tryz.results128, go_sem, k0, k1, k2, k3, hsz3]) rfl ?_
   obtain ⟨hSd, hkd⟩ := A1.out.setD d
   have hkA := (A2.out.trans hkd).there4 w.heap.size (.int .i64 14) (.string ⟨#[]⟩) (.int .i64 0) (.slice (some ⟨w3.heap.size + 1, 0, none⟩) 1 1) (Nat.le_refl _) hs
   have hszA : ∀ v0 v1 v2 v3, (((((w3.setCell ⟨b, 1, none⟩ (.int .i64 (d : Int))).setCell ⟨w.heap.size, 0, none⟩ v0).setCell ⟨w.heap.size, 1, none⟩ v1).setCell ⟨w.heap.size, 2, none⟩ v2).setCell ⟨w.heap.size, 3, none⟩ v3).heap.size = w3.heap.size := fun v0 v1 v2 v3 => by simp
   have hsz1' := hsz1
   refine Or.inl ⟨i3, m3 + 1 + 1, .un 14 p, some ⟨w3.heap.size + 1, 0, none⟩, 1, 1, rfl, PIs.un 14 ((A3.out.next fun q hq => ?_).wide fun q hq => ?_) ?_ (t := 87) (fr := (0, 0)) ?_ 1, A4.out, ((hSd.store4 w.heap.size _ _ _ _ hs).next (below2 _ _ _)), by omega, hkA.next (below2 _ _ _) (by have := hkA.size; omega), by omega, A5.out⟩
   ·have hq1 := hq.1
    simp at hq1
    rw [heap2 _ _ _ (by rw [hszA]; exact hq.2), heap4 _ _ _ _ _ _ (by omega), Below.heap_setCell _ _ _ _ (by show q ≠ b; omega)]
   ·have hq1 := hq.1
    have hq2 := hq.2
    simp at hq1 ⊢
    omega
   ·simp
    omega
   ·have := heap_alloc_new ((((((w3.setCell ⟨b, 1, none⟩ (.int .i64 (d : Int))).setCell ⟨w.heap.size, 0, none⟩ (.int .i64 14)).setCell ⟨w.heap.size, 1, none⟩ (.string ⟨#[]⟩)).setCell ⟨w.heap.size, 2, none⟩ (.int .i64 0)).setCell ⟨w.heap.size, 3, none⟩ (.slice (some ⟨w3.heap.size + 1, 0, none⟩) 1 1)).alloc (.cells #[.int .i64 (p.k : Int), .string ⟨p.nm.toArray⟩, .int .i64 (p.n : Int), .slice a l c] 87)) (.cells #[.int .i64 (p.k : Int), .string ⟨p.nm.toArray⟩, .int .i64 (p.n : Int), .slice a l c] 87)
    simpa using this
  ·obtain ⟨hRw, hSg, hkw⟩ := HC.out w3 hk3
   obtain ⟨⟨k0, k1, k2, k3⟩, ⟨f0, f1, f2, f3⟩, hsz3⟩ := row4 hRw
   obtain ⟨⟨g0, _, _, _⟩, _, hsz4⟩ := row4 hSg
   obtain ⟨_, c1, _, fz⟩ := hr3.cell
   have fz1 := fz 1
   have hbw : b < w3.heap.size := hr3.size
   have A1 := tZ hr3
   have A2 := tZ hkw
   have A5 := tZ (HNO.out _ _ _ hno)
   have A6 := tZ her
   have hne1 : w.heap.size ≠ b := by omega
   have hne2 : b ≠ w.heap.size := by omega
   clear hr3 hkw hno fz hRw hSg hk3 her
   refine tZ ?_
   go_wp2
   refine bodyPost_ret (v := .tuple #[.agg #[.int .i64 14, .string ⟨#[]⟩, .int .i64 0, .slice (some ⟨w3.heap.size + 1, 0, none⟩) 1 1], .bool false]) (by simp [results, Tryz.results128, go_sem, k0, k1, k2, k3, hsz3]) rfl ?_
   obtain ⟨hRd, hkd⟩ := A1.out.setD (wrap64 (d3 - 1))
   have hkA := (A2.out.trans hkd).there4 w.heap.size (.int .i64 14) (.string ⟨#[]⟩) (.int .i64 0) (.slice (some ⟨w3.heap.size + 1, 0, none⟩) 1 1) (Nat.le_refl _) hs
   exact Or.inr ⟨i3, m3 + 1 + 1, wrap64 (d3 - 1), er, 14, 0, [], some ⟨w3.heap.size + 1, 0, none⟩, 1, 1, rfl, ((hRd.store4 w.heap.size _ _ _ _ hs).next (below2 _ _ _)), A6.out, hkA.next (below2 _ _ _) (by have := hkA.size; omega), by omega, A5.out⟩
 ·go_wp2_with (first | (go_at_call 93; refine (HL.out _ (HS1.out.next (bZ _))).mono ?_; rintro r w3 (⟨i3, m3, p, a, l, c, rfl, hp, hD, hS3, hi3, hk3, hm3, hgo⟩ | ⟨i3, m3, d3, er, kk3, n3, s3, a, l, c, rfl, hr3, her, hk3, hm3, hno⟩) <;> refine Hid.out ?_))
  ·obtain ⟨hRw, hSg, hkw⟩ := HC.out w3 hk3
   obtain ⟨⟨k0, k1, k2, k3⟩, ⟨f0, f1, f2, f3⟩, hsz3⟩ := row4 hRw
   obtain ⟨⟨g0, _, _, _⟩, _, hsz4⟩ := row4 hSg
   obtain ⟨_, c1, _, fz⟩ := hS3.rd.cell
   have fz1 := fz 1
   have hcast : ((d + 1 : Nat) : Int) = (d : Int) + 1 := by omega
   rw [hcast] at c1
   have hbw : b < w3.heap.size := hS3.rd.size
   have A1 := tZ hS3
   have A2 := tZ hkw
   have A3 := tZ hp
   have A4 := tZ (HDer.out _ _ hD)
   have A5 := tZ (HGO.out _ _ hgo)
   have hne1 : w.heap.size ≠ b := by omega
   have hne2 : b ≠ w.heap.size := by omega
   clear hS3 hkw hp hD hgo fz hRw hSg hk3 hcast
   refine tZ ?_
   go_wp2
   refine bodyPost_ret (v := .tuple #[.agg #[.int .i64 (zz : Int), .string ⟨#[]⟩, .int .i64 0, .slice (some ⟨w3.heap.size + 1, 0, none⟩) 1 1], .bool true]) (by simp [results, Tryz.results128, go_sem, k0, k1, k2, k3, hsz3]) rfl ?_
   obtain ⟨hSd, hkd⟩ := A1.out.setD d
   have hkA := (A2.out.trans hkd).there4 w.heap.size (.int .i64 (zz : Int)) (.string ⟨#[]⟩) (.int .i64 0) (.slice (some ⟨w3.heap.size + 1, 0, none⟩) 1 1) (Nat.le_refl _) hs
   have hszA : ∀ v0 v1 v2 v3, (((((w3.setCell ⟨b, 1, none⟩ (.int .i64 (d : Int))).setCell ⟨w.heap.size, 0, none⟩ v0).setCell ⟨w.heap.size, 1, none⟩ v1).setCell ⟨w.heap.size, 2, none⟩ v2).setCell ⟨w.heap.size, 3, none⟩ v3).heap.size = w3.heap.size := fun v0 v1 v2 v3 => by simp
   have hsz1' := hsz1
   refine Or.inl ⟨i3, m3 + 1 + 1, .un zz p, some ⟨w3.heap.size + 1, 0, none⟩, 1, 1, rfl, PIs.un zz ((A3.out.next fun q hq => ?_).wide fun q hq => ?_) ?_ (t := 87) (fr := (0, 0)) ?_ 1, A4.out, ((hSd.store4 w.heap.size _ _ _ _ hs).next (below2 _ _ _)), by omega, hkA.next (below2 _ _ _) (by have := hkA.size; omega), by omega, A5.out⟩
   ·have hq1 := hq.1
    simp at hq1
    rw [heap2 _ _ _ (by rw [hszA]; exact hq.2), heap4 _ _ _ _ _ _ (by omega), Below.heap_setCell _ _ _ _ (by show q ≠ b; omega)]
   ·have hq1 := hq.1
    have hq2 := hq.2
    simp at hq1 ⊢
    omega
   ·simp
    omega
   ·have := heap_alloc_new ((((((w3.setCell ⟨b, 1, none⟩ (.int .i64 (d : Int))).setCell ⟨w.heap.size, 0, none⟩ (.int .i64 (zz : Int))).setCell ⟨w.heap.size, 1, none⟩ (.string ⟨#[]⟩)).setCell ⟨w.heap.size, 2, none⟩ (.int .i64 0)).setCell ⟨w.heap.size, 3, none⟩ (.slice (some ⟨w3.heap.size + 1, 0, none⟩) 1 1)).alloc (.cells #[.int .i64 (p.k : Int), .string ⟨p.nm.toArray⟩, .int .i64 (p.n : Int), .slice a l c] 87)) (.cells #[.int .i64 (p.k : Int), .string ⟨p.nm.toArray⟩, .int .i64 (p.n : Int), .slice a l c] 87)
    simpa using this
  ·obtain ⟨hRw, hSg, hkw⟩ := HC.out w3 hk3
   obtain ⟨⟨k0, k1, k2, k3⟩, ⟨f0, f1, f2, f3⟩, hsz3⟩ := row4 hRw
   obtain ⟨⟨g0, _, _, _⟩, _, hsz4⟩ := row4 hSg
   obtain ⟨_, c1, _, fz⟩ := hr3.cell
   have fz1 := fz 1
   have hbw : b < w3.heap.size := hr3.size
   have A1 := tZ hr3
   have A2 := tZ hkw
   have A5 := tZ (HNO.out _ _ _ hno)
   have A6 := tZ her
   have hne1 : w.heap.size ≠ b := by omega
   have hne2 : b ≠ w.heap.size := by omega
   clear hr3 hkw hno fz hRw hSg hk3 her
   refine tZ ?_
   go_wp2
   refine bodyPost_ret (v := .tuple #[.agg #[.int .i64 (zz : Int), .string ⟨#[]⟩, .int .i64 0, .slice (some ⟨w3.heap.size + 1, 0, none⟩) 1 1], .bool false]) (by simp [results, Tryz.results128, go_sem, k0, k1, k2, k3, hsz3]) rfl ?_
   obtain ⟨hRd, hkd⟩ := A1.out.setD (wrap64 (d3 - 1))
   have hkA := (A2.out.trans hkd).there4 w.heap.size (.int .i64 (zz : Int)) (.string ⟨#[]⟩) (.int .i64 0) (.slice (some ⟨w3.heap.size + 1, 0, none⟩) 1 1) (Nat.le_refl _) hs
   exact Or.inr ⟨i3, m3 + 1 + 1, wrap64 (d3 - 1), er, (zz : Int), 0, [], some ⟨w3.heap.size + 1, 0, none⟩, 1, 1, rfl, ((hRd.store4 w.heap.size _ _ _ _ hs).next (below2 _ _ _)), A6.out, hkA.next (below2 _ _ _) (by have := hkA.size; omega), by omega, A5.out⟩
theorem behindSign43 (hok : OkT ts) (F : Nat) (IH : LvAll len ts b bl cp F) (n i d : Nat) (e : Int) (w : World) (hd : d ≤ 6) (hi : i < ts.length) (hA : Ahead n (tAt ts i)) (hF : 10 * (ts.length - i) + (7 - n) < F + 1) (hS : St len ts w b bl cp i d e) :
  Calls Tryz.prog 128 #[.pointer (some ⟨b, 0, none⟩), .int .i64 (n : Int)] w (LvPost len ts [symB (lv n) d] (fun i' p => Der ts n i i' p) (2 * n) b bl cp i d e w) := by
 have hn : 1 ≤ n ∧ n ≤ 6 := by rcases hA with ⟨rfl, _⟩ | ⟨rfl, _⟩ <;> omega
 by_cases h6 : d = 6
 ·subst h6
  refine (bs_deep n i e w hS.rd).mono ?_
  rintro r w' ⟨rfl, hr, hb⟩
  refine Or.inr ⟨i, 2, 6, 4, 0, 0, [], none, 0, 0, rfl, hr, by decide, hb, by omega, ?_⟩
  refine No1.sym (by omega) ?_
  rw [bec_ahead_no n _ hA]
  exact No1.deep
 ·have hd6 : d < 6 := by omega
  obtain ⟨k, hcl, hkk, hk20, _⟩ := hok.cls hS.rd.lt
  have hkn := ahead_kind n _ k hA hcl
  refine bs_go hok n i d e w hn.1 hd6 hi hA hS k (if n = 6 then 14 else 6) hkk ?_ ?_ ?_
  ·rcases hkn with ⟨rfl, rfl⟩ | ⟨rfl, rfl⟩
   ·right; decide
   ·left; decide
  ·intro i' p hD
   rcases hA with ⟨rfl, ht⟩ | ⟨rfl, ht⟩
   ·exact Der.nots i i' p ht hD
   ·exact Der.neg i i' p ht hD
  ·intro w2 hS2
   exact IH n (i + 1) (d + 1) e w2 hn.1 hn.2 (by omega) (by omega) hS2
end
end
section
def restS (R c o : Nat) : List By := (List.replicate (R - c) [[44], symB 82 o]).flatten ++ [[41]]
def stackS (R c o : Nat) : List By := if c = 0 then symB 82 o :: restS R 1 o else restS R c o
def brS (R o : Nat) : List By := [40] :: stackS R 0 o
theorem stackS_step (R c o : Nat) (h1 : 1 ≤ c) (h : c < R) : stackS R c o = [44] :: symB 82 o :: stackS R (c + 1) o := by
 unfold stackS restS
 rw [if_neg (by omega), if_neg (by omega), show R - c = R - (c + 1) + 1 by omega, List.replicate_succ]
 simp
theorem stackS_end (R o : Nat) (h : 1 ≤ R) : stackS R R o = [[41]] := by
 unfold stackS restS
 rw [if_neg (by omega), Nat.sub_self]
 rfl
theorem tkOpen : Tk [40] := ⟨40, _, rfl, by decide, by decide⟩
theorem tkClose : Tk [41] := ⟨41, _, rfl, by decide, by decide⟩
theorem tkComma : Tk [44] := ⟨44, _, rfl, by decide, by decide⟩
def To1 (len : Nat) (ts : List (By × Nat)) (S L : List By) (i j m : Nat) : Prop := ∀ K q, runB len (m + q) (S ++ K) (ts.drop i) = runB len q (L ++ K) (ts.drop j)
section
variable {len : Nat} {ts : List (By × Nat)}
theorem To1.go {S A L : List By} {i j k m n : Nat} (h : To1 len ts S (A ++ L) i j m) (g : Go1 len ts A j k n) : To1 len ts S L i k (m + n) := fun K q => by
 rw [Nat.add_assoc, h K (n + q), List.append_assoc, g (L ++ K) q]
theorem To1.no {S A L : List By} {i j m n p : Nat} {er : Int} (h : To1 len ts S (A ++ L) i j m) (g : No1 len ts A j er p n) : No1 len ts S i er p (m + n) := fun K q => by
 rw [Nat.add_assoc, h K (n + q), List.append_assoc, g (L ++ K) q]
theorem To1.tok {S L : List By} {x : By} {i j m : Nat} (h : To1 len ts S (x :: L) i j m) (hx : Tk x) (ht : tAt ts j = x) : To1 len ts S L i (j + 1) (m + 1) := fun K q => by
 rw [Nat.add_assoc, h K (1 + q), Nat.add_comm 1 q, List.cons_append, step_tok len ts x j q (L ++ K) hx ht]
theorem To1.bad {S L : List By} {x : By} {i j m : Nat} (h : To1 len ts S (x :: L) i j m) (hx : Tk x) (ht : tAt ts j ≠ x) : No1 len ts S i 3 (pAt len ts j) (m + 1) := fun K q => by
 rw [Nat.add_assoc, h K (1 + q), Nat.add_comm 1 q, List.cons_append, step_no len ts x j q (L ++ K) hx ht]
theorem To1.go1 {S : List By} {i j m : Nat} (h : To1 len ts S [] i j m) : Go1 len ts S i j m := fun K q => h K q
end
inductive DerB (ts : List (By × Nat)) (i : Nat) : List Pt → Nat → Prop
 | one (j : Nat) (a : Pt) : tAt ts i = [40] → Der ts 1 (i + 1) j a → DerB ts i [a] j
 | snoc (l : List Pt) (j j' : Nat) (a : Pt) : DerB ts i l j → tAt ts j = [44] → Der ts 1 (j + 1) j' a → DerB ts i (l ++ [a]) j'
theorem DerB.ne {ts : List (By × Nat)} {i j : Nat} {l : List Pt} (h : DerB ts i l j) : l ≠ [] := by
 cases h <;> simp
theorem DerB.inv1 {ts : List (By × Nat)} {i j : Nat} {l : List Pt} (h : DerB ts i l j) (hl : l.length = 1) : ∃ a, l = [a] ∧ tAt ts i = [40] ∧ Der ts 1 (i + 1) j a := by
 cases h with
 | one _ a h1 h2 => exact ⟨a, rfl, h1, h2⟩
 | snoc l j a _ h1 h2 h3 =>
  have := h1.ne
  cases l with
  | nil => exact absurd rfl this
  | cons x l => simp at hl
theorem DerB.inv2 {ts : List (By × Nat)} {i j : Nat} {l : List Pt} (h : DerB ts i l j) (n : Nat) (hl : l.length = n + 2) : ∃ l' a j', l = l' ++ [a] ∧ l'.length = n + 1 ∧ DerB ts i l' j' ∧ tAt ts j' = [44] ∧ Der ts 1 (j' + 1) j a := by
 cases h with
 | one _ a h1 h2 => simp at hl
 | snoc l j' _ a h1 h2 h3 => exact ⟨l, a, j', rfl, by simp at hl; omega, h1, h2, h3⟩
theorem DerB.inv3 {ts : List (By × Nat)} {i j : Nat} {l : List Pt} (h : DerB ts i l j) (hl : l.length = 3) : ∃ a b c j1 j2, l = [a, b, c] ∧ tAt ts i = [40] ∧ Der ts 1 (i + 1) j1 a ∧ tAt ts j1 = [44] ∧ Der ts 1 (j1 + 1) j2 b ∧ tAt ts j2 = [44] ∧ Der ts 1 (j2 + 1) j c := by
 obtain ⟨l2, c, j2, rfl, hl2, h2, hc2, hd2⟩ := h.inv2 1 hl
 obtain ⟨l1, b, j1, rfl, hl1, h1, hc1, hd1⟩ := h2.inv2 0 hl2
 obtain ⟨a, rfl, ho, hd⟩ := h1.inv1 hl1
 exact ⟨a, b, c, j1, j2, rfl, ho, hd, hc1, hd1, hc2, hd2⟩
abbrev KR := Pt × Option Addr × Nat × Nat
def krc (ks : List KR) : List Value := ks.flatMap fun x => [.int .i64 (x.1.k : Int), .string ⟨x.1.nm.toArray⟩, .int .i64 (x.1.n : Int), .slice x.2.1 x.2.2.1 x.2.2.2]
theorem krc_snoc (ks : List KR) (x : KR) : krc (ks ++ [x]) = krc ks ++ [.int .i64 (x.1.k : Int), .string ⟨x.1.nm.toArray⟩, .int .i64 (x.1.n : Int), .slice x.2.1 x.2.2.1 x.2.2.2] := by simp [krc]
theorem krc_get (ks : List KR) (j : Nat) (h : j < ks.length) : (krc ks)[j * 4]? = some (.int .i64 (ks[j].1.k : Int)) ∧ (krc ks)[j * 4 + 1]? = some (.string ⟨ks[j].1.nm.toArray⟩) ∧ (krc ks)[j * 4 + 2]? = some (.int .i64 (ks[j].1.n : Int)) ∧ (krc ks)[j * 4 + 3]? = some (.slice ks[j].2.1 ks[j].2.2.1 ks[j].2.2.2) := by
 induction ks generalizing j with
 | nil => simp at h
 | cons t ks ih =>
  have hc : krc (t :: ks) = .int .i64 (t.1.k : Int) :: .string ⟨t.1.nm.toArray⟩ :: .int .i64 (t.1.n : Int) :: .slice t.2.1 t.2.2.1 t.2.2.2 :: krc ks := by simp [krc]
  rw [hc]
  cases j with
  | zero => simp
  | succ j =>
   have := ih j (by simpa using h)
   rw [show (j + 1) * 4 = j * 4 + 1 + 1 + 1 + 1 by omega]
   simpa using this
theorem infoPart : (Tryz.prog.info? 87).map (fun i => (i.zero, i.size, i.bytes)) = some (some (.agg #[.int .i64 0, .string ⟨#[]⟩, .int .i64 0, .slice none 0 0]), 4, 56) := by kernel_rfl
theorem PIs.row {w : World} {S : Nat → Prop} {ks : List KR} {g cap B : Nat} (hown : w.ownsRow B 87 4 (.slice (some ⟨g, 0, none⟩) ks.length cap) ks.length (krc ks)) (hk : ∀ x, x ∈ ks → PIs w S x.1 x.2.1 x.2.2.1 x.2.2.2) (hg : S g) (p : Pt) (hp : p.kids = ks.map (·.1)) (hne : ks ≠ []) : PIs w S p (some ⟨g, 0, none⟩) ks.length cap := by
 have hlen : p.kids.length = ks.length := by rw [hp, List.length_map]
 have hget : ∀ j (h : j < p.kids.length), p.kids[j] = (ks[j]'(by omega)).1 := fun j h => by
  simp only [hp, List.getElem_map]
 have := PIs.node (w := w) (S := S) p g cap (fun j => ((ks[j]?).map (·.2.1)).getD none) (fun j => ((ks[j]?).map (·.2.2.1)).getD 0) (fun j => ((ks[j]?).map (·.2.2.2)).getD 0) hg (by rw [hp]; simpa using hne) (fun j hj => ?_) (fun j hj => ?_)
 ·rw [hlen] at this; exact this
 ·have hj' : j < ks.length := by omega
  have h4 := krc_get ks j hj'
  rw [hget j hj]
  simp only [hj', List.getElem?_eq_getElem, Option.map_some, Option.getD_some]
  refine ⟨?_, ?_, ?_, ?_⟩
  ·rw [hown.cellAt (j * 4) (by omega)]; exact h4.1
  ·rw [hown.cellAt (j * 4 + 1) (by omega)]; exact h4.2.1
  ·rw [hown.cellAt (j * 4 + 2) (by omega)]; exact h4.2.2.1
  ·rw [hown.cellAt (j * 4 + 3) (by omega)]; exact h4.2.2.2
 ·have hj' : j < ks.length := by omega
  rw [hget j hj]
  simp only [hj', List.getElem?_eq_getElem, Option.map_some, Option.getD_some]
  exact hk _ (List.getElem_mem hj')
section
variable {len : Nat} {ts : List (By × Nat)} {b bl cp : Nat}
theorem br_nope (kd R i : Nat) (d e : Int) (w : World) (h : Rdr w b bl cp (ptoks len ts) i d e) (hk : ((ptoks len ts)[i]'h.lt).1 ≠ 9) :
  Calls Tryz.prog 159 #[.pointer (some ⟨b, 0, none⟩), .int .i64 (kd : Int), .int .i64 (R : Int)] w fun r w' => r = .returned (.tuple #[.agg #[.int .i64 0, .string ⟨#[]⟩, .int .i64 0, .slice none 0 0], .bool false]) ∧ Rdr w' b bl cp (ptoks len ts) i d 3 ∧ Kp b w w' := by
 have H := tZ (fun w1 (g : Rdr w1 b bl cp (ptoks len ts) i d e) => is_no w1 b bl cp _ i d e 9 g hk)
 have hs := h.size
 have HR := tZ h
 clear hk h
 go_enter Tryz.func159, Tryz.ntmps159
 go_wp2_with (first | (go_at_call 94; refine (H.out _ (HR.out.next (bZ _))).mono ?_; rintro e w' ⟨rfl, hr, hbb⟩; refine Hid.out ?_))
 obtain ⟨⟨k0, k1, k2, k3⟩, ⟨f0, f1, f2, f3⟩, hsz⟩ := row4 (hbb.blk (q := w.heap.size) (heap_alloc_new w _) (by omega))
 have HB := tZ hbb
 have HR2 := tZ hr
 clear hr hbb
 refine tZ ?_
 go_wp2
 refine bodyPost_ret (v := .tuple #[.agg #[.int .i64 0, .string ⟨#[]⟩, .int .i64 0, .slice none 0 0], .bool false]) (by simp [results, Tryz.results159, go_sem, k0, k1, k2, k3]) rfl ?_
 have hk0 : Kp b w w' := (Kp.of (bZ _) hs).trans HB.out
 exact ⟨rfl, HR2.out.store4 w.heap.size _ _ _ _ hs, hk0.there4 w.heap.size _ _ _ _ (Nat.le_refl _) hs⟩
theorem br_deep (kd R i : Nat) (e : Int) (w : World) (h : Rdr w b bl cp (ptoks len ts) i 6 e) (hk : ((ptoks len ts)[i]'h.lt).1 = 9) :
  Calls Tryz.prog 159 #[.pointer (some ⟨b, 0, none⟩), .int .i64 (kd : Int), .int .i64 (R : Int)] w fun r w' => r = .returned (.tuple #[.agg #[.int .i64 0, .string ⟨#[]⟩, .int .i64 0, .slice none 0 0], .bool false]) ∧ Rdr w' b bl cp (ptoks len ts) i 6 4 ∧ Kp b w w' := by
 have H := tZ (fun w1 (g : Rdr w1 b bl cp (ptoks len ts) i 6 e) => is_yes w1 b bl cp _ i 6 e 9 g hk)
 have H2 := tZ (fun w1 (g : Rdr w1 b bl cp (ptoks len ts) i 6 e) => enter_no w1 b bl cp _ i e g)
 have hs := h.size
 have HR := tZ h
 clear hk h
 go_enter Tryz.func159, Tryz.ntmps159
 go_wp2_with (first | (go_at_call 94; refine (H.out _ (HR.out.next (bZ _))).mono ?_; rintro e w' ⟨rfl, rfl⟩) | (go_at_call 158; refine (H2.out _ (HR.out.next (bZ _))).mono ?_; rintro e w' ⟨rfl, hr, hbb⟩; refine Hid.out ?_))
 obtain ⟨⟨k0, k1, k2, k3⟩, ⟨f0, f1, f2, f3⟩, hsz⟩ := row4 (hbb.blk (q := w.heap.size) (heap_alloc_new w _) (by omega))
 have HB := tZ hbb
 have HR2 := tZ hr
 clear hr hbb
 refine tZ ?_
 go_wp2
 refine bodyPost_ret (v := .tuple #[.agg #[.int .i64 0, .string ⟨#[]⟩, .int .i64 0, .slice none 0 0], .bool false]) (by simp [results, Tryz.results159, go_sem, k0, k1, k2, k3, hsz]) rfl ?_
 have hk0 : Kp b w w' := (Kp.of (bZ _) hs).trans HB.out
 have hk1 := hk0.there4 w.heap.size (.int .i64 0) (.string ⟨#[]⟩) (.int .i64 0) (.slice none 0 0) (Nat.le_refl _) hs
 exact ⟨rfl, (HR2.out.store4 w.heap.size _ _ _ _ hs).next (bZ _), hk1.next (bZ _) (by have := hk1.size; omega)⟩
end
end
section
structure BrI (len : Nat) (ts : List (By × Nat)) (b bl cp : Nat) (w : World) (gW kd d : Nat) (e : Int) (wr : World) (i' : Nat) (ks : List KR) (ao : Option Addr) (n cap : Nat) : Prop where
 st : St len ts wr b bl cp i' (d + 1) e
 kp : Kp b w wr
 res : wr.heap[w.heap.size]? = some (.cells #[.int .i64 0, .string ⟨#[]⟩, .int .i64 0, .slice none 0 0] 87 (0, 0))
 whl : wr.heap[gW]? = some (.cells #[.int .i64 (kd : Int), .string ⟨#[]⟩, .int .i64 0, .slice ao n cap] 87 (0, 0))
 own : wr.ownsRow (gW + 1) 87 4 (.slice ao n cap) n (krc ks)
 len : n = ks.length
 kid : ∀ x, x ∈ ks → PIs wr (fun q => gW < q ∧ q < wr.heap.size ∧ (Value.slice ao n cap).ownBlock ≠ some q) x.1 x.2.1 x.2.2.1 x.2.2.2
 gw : w.heap.size < gW
 env : Env w
 bw : b < w.heap.size
section
variable {len : Nat} {ts : List (By × Nat)} {b bl cp : Nat} {w : World} {gW kd d : Nat} {e : Int} {wr : World} {i' : Nat} {ks : List KR} {ao : Option Addr} {n cap : Nat}
theorem St.down' {i2 d2 : Nat} {w0 w2 w3 : World} (h : St len ts w2 b bl cp i2 d2 e) (hb : w3.heap[b]? = w2.heap[b]?) (hl : w3.heap[bl]? = w2.heap[bl]?) (hE : Env w0) (hb0 : Below b w0 w3) : St len ts w3 b bl cp i2 d2 e :=
 ⟨h.rd.apart hb hl, hE.below hb0 (by have := h.low; have := h.rd.blk; omega), h.low⟩
theorem BrI.keep (h : BrI len ts b bl cp w gW kd d e wr i' ks ao n cap) {w2 : World} (hk : Kp b wr w2) : w2.ownsRow (gW + 1) 87 4 (.slice ao n cap) n (krc ks) ∧ ∀ x, x ∈ ks → PIs w2 (fun q => gW < q ∧ q < w2.heap.size ∧ (Value.slice ao n cap).ownBlock ≠ some q) x.1 x.2.1 x.2.2.1 x.2.2.2 := by
 have hg := h.gw
 have hb := h.bw
 have hsz := hk.size
 refine ⟨?_, fun x hx => ?_⟩
 ·refine h.own.kept (row := some b) ⟨hk.bel.os, hk.bel.tape, hk.bel.output, hk.size, fun k hk1 hk2 => hk.heap (fun e => hk2 (by rw [e])) hk1⟩ (Or.inr fun e => ?_)
  have := (h.own.lt b e).1
  omega
 ·exact ((h.kid x hx).next fun q hq => hk.heap (by omega) hq.2.1).wide fun q hq => ⟨hq.1, by omega, hq.2.2⟩
theorem BrI.call (h : BrI len ts b bl cp w gW kd d e wr i' ks ao n cap) {w2 : World} {i2 : Nat} (hk : Kp b wr w2) (hS : St len ts w2 b bl cp i2 (d + 1) e) : BrI len ts b bl cp w gW kd d e w2 i2 ks ao n cap := by
 have hg := h.gw
 have hb := h.bw
 exact ⟨hS, h.kp.trans hk, hk.blk h.res (by omega), hk.blk h.whl (by omega), (h.keep hk).1, h.len, (h.keep hk).2, h.gw, h.env, h.bw⟩
theorem BrI.app (h : BrI len ts b bl cp w gW kd d e wr i' ks ao n cap) {w2 : World} {i2 : Nat} (hk : Kp b wr w2) (hS : St len ts w2 b bl cp i2 (d + 1) e) (x : KR) (hx : PIs w2 (fun q => wr.heap.size ≤ q ∧ q < w2.heap.size) x.1 x.2.1 x.2.2.1 x.2.2.2)
  {W w3 : World} (hW : Below w2.heap.size w2 W) (hgrow : W.grownBy w3 (Value.slice ao n cap).ownBlock) {g cap' : Nat} (hat : (Value.slice ao n cap).ownBlock = some g ∨ g = W.heap.size)
  (hown : w3.ownsRow (gW + 1) 87 4 (.slice (some ⟨g, 0, none⟩) (n + 1) cap') (n + 1) (krc ks ++ [.int .i64 (x.1.k : Int), .string ⟨x.1.nm.toArray⟩, .int .i64 (x.1.n : Int), .slice x.2.1 x.2.2.1 x.2.2.2])) :
  BrI len ts b bl cp w gW kd d e (w3.setCell ⟨gW, 3, none⟩ (.slice (some ⟨g, 0, none⟩) (n + 1) cap')) i2 (ks ++ [x]) (some ⟨g, 0, none⟩) (n + 1) cap' := by
 have h2 := h.call hk hS
 have hg := h.gw
 have hb := h.bw
 have hsz := hk.size
 have hszW := hW.size
 have hszg := hgrow.size
 have hgwr : gW < wr.heap.size := (Array.getElem?_eq_some_iff.1 h.whl).1
 have hold : ∀ q, (Value.slice ao n cap).ownBlock = some q → gW + 1 ≤ q ∧ q < wr.heap.size := h.own.lt
 have key : ∀ q, q < w2.heap.size → (Value.slice ao n cap).ownBlock ≠ some q → q ≠ gW → (w3.setCell ⟨gW, 3, none⟩ (.slice (some ⟨g, 0, none⟩) (n + 1) cap')).heap[q]? = w2.heap[q]? := fun q hq hne hgq => by
  rw [Below.heap_setCell _ _ _ _ (by exact hgq), hgrow.block q (by omega) (fun e => hne e.symm), hW.block q hq]
 have hnb : ∀ q, q ≤ gW → (Value.slice ao n cap).ownBlock ≠ some q := fun q hq e => by have := hold q e; omega
 have hblt := h.st.rd.blk
 have hsw := h2.kp.size
 have hbel : Below b w (w3.setCell ⟨gW, 3, none⟩ (.slice (some ⟨g, 0, none⟩) (n + 1) cap')) :=
  h2.kp.bel.trans (((hW.mono (by omega)).grown hgrow (by omega) (fun k hk => by have := hold k hk; omega)).setCell (p := ⟨gW, 3, none⟩) (by show b ≤ gW; omega) _)
 have hkp : Kp b w (w3.setCell ⟨gW, 3, none⟩ (.slice (some ⟨g, 0, none⟩) (n + 1) cap')) :=
  ⟨hbel, fun q hq hqs => (key q (by omega) (hnb q (by omega)) (by omega)).trans (h2.kp.up q hq hqs)⟩
 have hbs := h2.st.rd.size
 have hgw3 : w3.heap[gW]? = w2.heap[gW]? := by rw [hgrow.block gW (by omega) (fun e => hnb gW (Nat.le_refl _) e.symm), hW.block gW (by omega)]
 have hsz4 : (w3.setCell ⟨gW, 3, none⟩ (.slice (some ⟨g, 0, none⟩) (n + 1) cap')).heap.size = w3.heap.size := by simp
 have hgq : ∀ q, q < w2.heap.size → (Value.slice ao n cap).ownBlock ≠ some q → (Value.slice (some ⟨g, 0, none⟩) (n + 1) cap').ownBlock ≠ some q := fun q hq hne e => by
  have e1 : g = q := by simpa [Value.ownBlock] using e
  rcases hat with h1 | h1
  ·exact hne (by rw [h1, e1])
  ·omega
 refine ⟨?_, hkp, ?_, ?_, ?_, ?_, fun y hy => ?_, h.gw, h.env, h.bw⟩
 ·refine h2.st.down' ?_ ?_ h.env hbel
  ·exact key b (by omega) (hnb b (by omega)) (by omega)
  ·exact key bl (by omega) (hnb bl (by omega)) (by omega)
 ·exact (key w.heap.size (by omega) (hnb _ (by omega)) (by omega)).trans h2.res
 ·rw [setCell_block (hgw3.trans h2.whl)]
  rfl
 ·rw [krc_snoc]
  exact ownsRow_setCell_below hown (by show gW < gW + 1; omega) _
 ·rw [List.length_append, h.len]
  rfl
 ·rw [List.mem_append, List.mem_singleton] at hy
  rcases hy with hy | rfl
  ·exact ((h2.kid y hy).next fun q hq => key q hq.2.1 hq.2.2 (by omega)).wide fun q hq => ⟨hq.1, by rw [hsz4]; omega, hgq q hq.2.1 hq.2.2⟩
  ·have hne : ∀ q, wr.heap.size ≤ q → (Value.slice ao n cap).ownBlock ≠ some q := fun q hq e => by have := hold q e; omega
   exact (hx.next fun q hq => key q hq.2 (hne q hq.1) (by omega)).wide fun q hq => ⟨by omega, by rw [hsz4]; omega, hgq q hq.2 (hne q hq.1)⟩
theorem BrI.fin (h : BrI len ts b bl cp w gW kd d e wr i' ks ao n cap) {wp : World} (hk : Kp b wr wp) (hn : 1 ≤ n) (v0 v1 v2 v3 : Value) (p : Pt) (hp : p.kids = ks.map (·.1)) :
  PIs ((((wp.setCell ⟨w.heap.size, 0, none⟩ v0).setCell ⟨w.heap.size, 1, none⟩ v1).setCell ⟨w.heap.size, 2, none⟩ v2).setCell ⟨w.heap.size, 3, none⟩ v3) (fun q => w.heap.size ≤ q ∧ q < ((((wp.setCell ⟨w.heap.size, 0, none⟩ v0).setCell ⟨w.heap.size, 1, none⟩ v1).setCell ⟨w.heap.size, 2, none⟩ v2).setCell ⟨w.heap.size, 3, none⟩ v3).heap.size) p ao n cap := by
 obtain ⟨hown, hkid⟩ := h.keep hk
 have hg := h.gw
 have hb := h.bw
 obtain ⟨g, cap', hv, hge, hgl⟩ := hown.form (by omega)
 simp only [Value.slice.injEq, true_and] at hv
 obtain ⟨rfl, rfl⟩ := hv
 have hlen := h.len
 subst hlen
 refine PIs.row (B := gW + 1) (ownsRow_setCell_below (ownsRow_setCell_below (ownsRow_setCell_below (ownsRow_setCell_below hown (by show w.heap.size < gW + 1; omega) _) (by show w.heap.size < gW + 1; omega) _) (by show w.heap.size < gW + 1; omega) _) (by show w.heap.size < gW + 1; omega) _) (fun x hx => ?_) ?_ p hp (fun e => by subst e; simp at hn)
 ·exact ((hkid x hx).next fun q hq => heap4 wp w.heap.size v0 v1 v2 v3 (by omega)).wide fun q hq => ⟨by omega, by rw [size4]; exact hq.2.1⟩
 ·exact ⟨by omega, by rw [size4]; exact hgl⟩
end
end
end Go.Proofs.YtihgojcfpnhelaaGreatDoor
