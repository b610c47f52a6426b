import Derived.Test.YtihgojcfpnhelaaGreatDoorL
import Derived.Test.YtihgojcfpnhelaaGreatDoorU
set_option linter.unusedVariables false
set_option linter.unusedSimpArgs false
namespace Go.Proofs.YtihgojcfpnhelaaGreatDoor

def tAt (ts : List (By × Nat)) (i : Nat) : By := match ts[i]? with | some x => x.1 | none => []
def pAt (len : Nat) (ts : List (By × Nat)) (i : Nat) : Nat := match ts[i]? with | some x => x.2 | none => len

theorem tAt_lt (ts : List (By × Nat)) (i : Nat) (h : i < ts.length) : tAt ts i = ts[i].1 := by simp [tAt, h]
theorem tAt_ge (ts : List (By × Nat)) (i : Nat) (h : ts.length ≤ i) : tAt ts i = [] := by simp [tAt, h]

theorem head_at (len : Nat) (ts : List (By × Nat)) (i : Nat) : (ts.drop i = [] ∧ tAt ts i = [] ∧ pAt len ts i = len) ∨ ∃ r, ts.drop i = (tAt ts i, pAt len ts i) :: r := by
  by_cases h : i < ts.length
  · right
    refine ⟨ts.drop (i + 1), ?_⟩
    have h2 : pAt len ts i = ts[i].2 := by simp [pAt, h]
    rw [tAt_lt ts i h, h2]
    exact List.drop_eq_getElem_cons h
  · left
    have h' : ts.length ≤ i := by omega
    exact ⟨List.drop_of_length_le h', by simp [tAt, h'], by simp [pAt, h']⟩

/-- A text that may stand among the symbols as a token. -/
def Tk (x : By) : Prop := ∃ c r, x = c :: r ∧ c ≠ 63 ∧ c :: r ≠ wName

section
variable (len : Nat) (ts : List (By × Nat))

theorem step_sym (k : UInt8) (o i q : Nat) (K : List By) (ho : o ≤ 7) : runB len (q + 1) (symB k o :: K) (ts.drop i) = runB len q (becB k o (tAt ts i) ++ K) (ts.drop i) := by
  rw [runB_step len q _ K _ (tAt ts i) (pAt len ts i) (head_at len ts i), if_neg (by simp [symB, wDeep]), becomesB_sym k o _ ho]

theorem step_tok (x : By) (i q : Nat) (K : List By) (hx : Tk x) (h : tAt ts i = x) : runB len (q + 1) (x :: K) (ts.drop i) = runB len q K (ts.drop (i + 1)) := by
  obtain ⟨c, r, rfl, hc, hn⟩ := hx
  rw [runB_step len q _ K _ (tAt ts i) (pAt len ts i) (head_at len ts i), if_neg (by simp [wDeep]; intro h; exact absurd h hc), becomesB_tok c r _ hc]
  simp only [if_neg hn, h]
  simp [List.tail_drop]

theorem step_no (x : By) (i q : Nat) (K : List By) (hx : Tk x) (h : tAt ts i ≠ x) : runB len (q + 1) (x :: K) (ts.drop i) = some (3, pAt len ts i) := by
  obtain ⟨c, r, rfl, hc, hn⟩ := hx
  rw [runB_step len q _ K _ (tAt ts i) (pAt len ts i) (head_at len ts i), if_neg (by simp [wDeep]; intro h; exact absurd h hc), becomesB_tok c r _ hc]
  simp only [if_neg hn]
  rw [if_neg (by simp; intro _ h2; exact h h2.symm)]

theorem step_deep (i q : Nat) (K : List By) : runB len (q + 1) (wDeep :: K) (ts.drop i) = some (4, pAt len ts i) := by
  rw [runB_step len q _ K _ (tAt ts i) (pAt len ts i) (head_at len ts i), if_pos rfl]

/-- The machine comes from a place to another over these symbols. -/
def Go1 (S : List By) (i j m : Nat) : Prop := ∀ K q, runB len (m + q) (S ++ K) (ts.drop i) = runB len q K (ts.drop j)
/-- The machine ends in an error. -/
def No1 (S : List By) (i : Nat) (er : Int) (p m : Nat) : Prop := ∀ K q, runB len (m + q) (S ++ K) (ts.drop i) = some (er, p)
end

section
variable {len : Nat} {ts : List (By × Nat)}

theorem Go1.nil (i : Nat) : Go1 len ts [] i i 0 := fun K q => by rw [Nat.zero_add]; rfl

theorem Go1.trans {S T : List By} {i j k m n : Nat} (h : Go1 len ts S i j m) (g : Go1 len ts T j k n) : Go1 len ts (S ++ T) i k (m + n) := fun K q => by
  rw [List.append_assoc, Nat.add_assoc, h (T ++ K) (n + q), g K q]

theorem Go1.no {S T : List By} {i j m n p : Nat} {er : Int} (h : Go1 len ts S i j m) (g : No1 len ts T j er p n) : No1 len ts (S ++ T) i er p (m + n) := fun K q => by
  rw [List.append_assoc, Nat.add_assoc, h (T ++ K) (n + q), g K q]

theorem No1.left {S : List By} {i m p : Nat} {er : Int} (h : No1 len ts S i er p m) (T : List By) : No1 len ts (S ++ T) i er p m := fun K q => by
  rw [List.append_assoc, h (T ++ K) q]

theorem Go1.sym {S : List By} {k : UInt8} {o i j m : Nat} (ho : o ≤ 7) (h : Go1 len ts (becB k o (tAt ts i) ++ S) i j m) : Go1 len ts (symB k o :: S) i j (m + 1) := fun K q => by
  rw [show m + 1 + q = m + q + 1 by omega, List.cons_append, step_sym len ts k o i (m + q) (S ++ K) ho, ← List.append_assoc, h K q]

theorem No1.sym {S : List By} {k : UInt8} {o i m p : Nat} {er : Int} (ho : o ≤ 7) (h : No1 len ts (becB k o (tAt ts i) ++ S) i er p m) : No1 len ts (symB k o :: S) i er p (m + 1) := fun K q => by
  rw [show m + 1 + q = m + q + 1 by omega, List.cons_append, step_sym len ts k o i (m + q) (S ++ K) ho, ← List.append_assoc, h K q]

theorem Go1.tok {S : List By} {x : By} {i j m : Nat} (hx : Tk x) (ht : tAt ts i = x) (h : Go1 len ts S (i + 1) j m) : Go1 len ts (x :: S) i j (m + 1) := fun K q => by
  rw [show m + 1 + q = m + q + 1 by omega, List.cons_append, step_tok len ts x i (m + q) (S ++ K) hx ht, h K q]

theorem No1.tok {S : List By} {x : By} {i m p : Nat} {er : Int} (hx : Tk x) (ht : tAt ts i = x) (h : No1 len ts S (i + 1) er p m) : No1 len ts (x :: S) i er p (m + 1) := fun K q => by
  rw [show m + 1 + q = m + q + 1 by omega, List.cons_append, step_tok len ts x i (m + q) (S ++ K) hx ht, h K q]

theorem No1.bad {S : List By} {x : By} {i : Nat} (hx : Tk x) (ht : tAt ts i ≠ x) : No1 len ts (x :: S) i 3 (pAt len ts i) 1 := fun K q => by
  rw [Nat.add_comm 1 q, List.cons_append, step_no len ts x i q (S ++ K) hx ht]

theorem No1.deep {S : List By} {i : Nat} : No1 len ts (wDeep :: S) i 4 (pAt len ts i) 1 := fun K q => by
  rw [Nat.add_comm 1 q, List.cons_append, step_deep len ts i q (S ++ K)]

theorem No1.opens {S : List By} {i : Nat} (ht : tAt ts i = [40]) : No1 len ts (wOpen :: S) i 4 (pAt len ts i) 2 := fun K q => by
  rw [show 2 + q = q + 1 + 1 by omega, List.cons_append, runB_step len (q + 1) _ _ _ (tAt ts i) (pAt len ts i) (head_at len ts i), if_neg (by decide), ht]
  show runB len (q + 1) (wDeep :: (S ++ K)) (ts.drop i) = _
  exact step_deep len ts i q (S ++ K)

theorem tkNone : Tk wNone := ⟨78, _, rfl, by decide, by decide⟩

theorem No1.opens_no {S : List By} {i : Nat} (ht : tAt ts i ≠ [40]) (hn : tAt ts i ≠ wNone) : No1 len ts (wOpen :: S) i 3 (pAt len ts i) 2 := fun K q => by
  rw [show 2 + q = q + 1 + 1 by omega, List.cons_append, runB_step len (q + 1) _ _ _ (tAt ts i) (pAt len ts i) (head_at len ts i), if_neg (by decide)]
  rw [show becomesB wOpen (tAt ts i) = some (if tAt ts i = [40] then [wDeep] else [wNone]) from rfl, if_neg ht]
  exact step_no len ts wNone i q (S ++ K) tkNone hn
end

/-- The words with a meaning, by numbers. -/
def meanN : List (By × Nat) :=
  [([105, 102], 3), ([97, 110, 100], 4), ([111, 114], 5), ([110, 111, 116], 6), ([116, 114, 117, 101], 7), ([102, 97, 108, 115, 101], 8),
   ([40], 9), ([41], 10), ([44], 11), ([43], 12), ([45], 13), ([42], 15), ([47], 16), ([37], 17), ([61], 18), ([60], 19)]

/-- What a token may be, and its kind. -/
def Cls (t : By) (k : Nat) : Prop := (headD t = true ∧ k = 1) ∨ (headD t = false ∧ nameB t = true ∧ k = 2) ∨ (t = [] ∧ k = 0) ∨ (t, k) ∈ meanN

theorem toks_ok (f : Nat) (l : By) (k : Nat) (t : By) (p : Nat) (h : (t, p) ∈ (toks f l k).1) : tokOK t = true := by
  induction f generalizing l k with
  | zero => simp [toks] at h
  | succ f ih =>
    match l with
    | [] => simp [toks] at h
    | c :: r =>
      unfold toks at h
      split at h
      · exact ih _ _ h
      · split at h
        · rename_i hok
          simp only [List.mem_cons, Prod.mk.injEq] at h
          rcases h with ⟨rfl, rfl⟩ | h
          · exact hok
          · exact ih _ _ h
        · simp at h

theorem meanIn_mem (l : List (By × Int)) (t : By) (k : Int) (h : meanIn l t = some k) : (t, k) ∈ l := by
  induction l with
  | nil => simp [meanIn] at h
  | cons x l ih =>
    obtain ⟨y, z⟩ := x
    unfold meanIn at h
    split at h
    · rename_i hy
      simp at h
      subst hy h
      simp
    · exact List.mem_cons_of_mem _ (ih h)

theorem cls_tok (t : By) (h : tokOK t = true) (hne : t ≠ []) : ∃ k : Nat, Cls t k ∧ kindB t = (k : Int) := by
  by_cases hD : headD t = true
  · exact ⟨1, Or.inl ⟨hD, rfl⟩, by simp [kindB, hD]⟩
  · have hD' : headD t = false := by simpa using hD
    cases hm : meanB t with
    | some k =>
      have hmem := meanIn_mem meanW t k hm
      have hk : kindB t = k := by simp [kindB, hD', hm]
      simp only [meanW, List.mem_cons, List.not_mem_nil, or_false, Prod.mk.injEq] at hmem
      rcases hmem with ⟨rfl, rfl⟩ | ⟨rfl, rfl⟩ | ⟨rfl, rfl⟩ | ⟨rfl, rfl⟩ | ⟨rfl, rfl⟩ | ⟨rfl, rfl⟩ | ⟨rfl, rfl⟩ | ⟨rfl, rfl⟩ | ⟨rfl, rfl⟩ | ⟨rfl, rfl⟩ | ⟨rfl, rfl⟩ | ⟨rfl, rfl⟩ | ⟨rfl, rfl⟩ | ⟨rfl, rfl⟩ | ⟨rfl, rfl⟩ | ⟨rfl, rfl⟩
      · exact ⟨3, Or.inr (Or.inr (Or.inr (by decide))), hk⟩
      · exact ⟨4, Or.inr (Or.inr (Or.inr (by decide))), hk⟩
      · exact ⟨5, Or.inr (Or.inr (Or.inr (by decide))), hk⟩
      · exact ⟨6, Or.inr (Or.inr (Or.inr (by decide))), hk⟩
      · exact ⟨7, Or.inr (Or.inr (Or.inr (by decide))), hk⟩
      · exact ⟨8, Or.inr (Or.inr (Or.inr (by decide))), hk⟩
      · exact ⟨9, Or.inr (Or.inr (Or.inr (by decide))), hk⟩
      · exact ⟨10, Or.inr (Or.inr (Or.inr (by decide))), hk⟩
      · exact ⟨11, Or.inr (Or.inr (Or.inr (by decide))), hk⟩
      · exact ⟨12, Or.inr (Or.inr (Or.inr (by decide))), hk⟩
      · exact ⟨13, Or.inr (Or.inr (Or.inr (by decide))), hk⟩
      · exact ⟨15, Or.inr (Or.inr (Or.inr (by decide))), hk⟩
      · exact ⟨16, Or.inr (Or.inr (Or.inr (by decide))), hk⟩
      · exact ⟨17, Or.inr (Or.inr (Or.inr (by decide))), hk⟩
      · exact ⟨18, Or.inr (Or.inr (Or.inr (by decide))), hk⟩
      · exact ⟨19, Or.inr (Or.inr (Or.inr (by decide))), hk⟩
    | none =>
      refine ⟨2, Or.inr (Or.inl ⟨hD', ?_, rfl⟩), by simp [kindB, hD', hm]⟩
      match t, hne, hD', hm, h with
      | c :: r, _, hD', hm, h =>
        have hL : isL c = true := by
          cases hL : isL c with
          | true => rfl
          | false =>
            have := sign_mean c r hL
            rw [hm] at this
            unfold tokOK at h
            rw [hD', show headL (c :: r) = isL c from rfl, hL, ← this] at h
            simp at h
        unfold nameB
        rw [show headL (c :: r) = isL c from rfl, hL]
        simp only [Bool.true_and, Bool.not_eq_true']
        rw [Bool.eq_false_iff]
        intro hin
        simp only [inB, sixW, List.contains_iff_mem, List.mem_cons, List.not_mem_nil, or_false] at hin
        rcases hin with h | h | h | h | h | h <;> rw [h] at hm <;> simp [meanB, meanIn, meanW] at hm

def sgn (n : Nat) : List By := match n with | 1 => [[111, 114]] | 2 => [[97, 110, 100]] | 3 => [[61], [60]] | 4 => [[43], [45]] | 5 => [[42], [47], [37]] | _ => []
def lv (n : Nat) : UInt8 := match n with | 1 => 82 | 2 => 80 | 3 => 84 | 4 => 83 | 5 => 77 | _ => 65
def tl (n : Nat) : UInt8 := match n with | 1 => 114 | 2 => 112 | 3 => 99 | 4 => 115 | _ => 109

theorem headD_not (t x : By) (hD : headD t = true) (hx : headD x = false) : t ≠ x := by
  rintro rfl
  rw [hD] at hx
  cases hx
theorem name_not (t x : By) (hN : nameB t = true) (hx : nameB x = false) : t ≠ x := by
  rintro rfl
  rw [hN] at hx
  cases hx

/-- Numbers and names are none of the words; so it is asked of the words alone. -/
theorem cls_ask (P : By → Nat → Prop) (t : By) (k : Nat) (h : Cls t k) (h1 : ∀ t, headD t = true → P t 1) (h2 : ∀ t, headD t = false → nameB t = true → P t 2) (h0 : P [] 0) (hm : ∀ x, x ∈ meanN → P x.1 x.2) : P t k := by
  rcases h with ⟨hD, rfl⟩ | ⟨hD, hN, rfl⟩ | ⟨rfl, rfl⟩ | h
  · exact h1 t hD
  · exact h2 t hD hN
  · exact h0
  · exact hm (t, k) h

theorem inB_false (t : By) (l : List By) (h : ∀ x, x ∈ l → t ≠ x) : inB t l = false := by
  rw [Bool.eq_false_iff]
  intro hin
  simp only [inB, List.contains_iff_mem] at hin
  exact h t hin rfl

theorem betw_sgn (t : By) (k : Nat) (h : Cls t k) (n : Nat) (h1 : 1 ≤ n) (h5 : n ≤ 5) : (betwW.getD k 0 = (n : Int)) ↔ inB t (sgn n) = true := by
  have hn : n = 1 ∨ n = 2 ∨ n = 3 ∨ n = 4 ∨ n = 5 := by omega
  refine cls_ask (fun t k => (betwW.getD k 0 = (n : Int)) ↔ inB t (sgn n) = true) t k h (fun t hD => ?_) (fun t _ hN => ?_) ?_ ?_
  · rw [inB_false t (sgn n) (fun x hx => headD_not t x hD (by rcases hn with rfl | rfl | rfl | rfl | rfl <;> revert x <;> decide))]
    rcases hn with rfl | rfl | rfl | rfl | rfl <;> decide
  · rw [inB_false t (sgn n) (fun x hx => name_not t x hN (by rcases hn with rfl | rfl | rfl | rfl | rfl <;> revert x <;> decide))]
    rcases hn with rfl | rfl | rfl | rfl | rfl <;> decide
  · rcases hn with rfl | rfl | rfl | rfl | rfl <;> decide
  · rcases hn with rfl | rfl | rfl | rfl | rfl <;> decide

theorem ahead_iff (t : By) (k : Nat) (h : Cls t k) (n : Nat) (h1 : 1 ≤ n) (h6 : n ≤ 6) : (aheadW.getD k 0 = (n : Int)) ↔ ((n = 3 ∧ t = [110, 111, 116]) ∨ (n = 6 ∧ t = [45])) := by
  have hn : n = 1 ∨ n = 2 ∨ n = 3 ∨ n = 4 ∨ n = 5 ∨ n = 6 := by omega
  refine cls_ask (fun t k => (aheadW.getD k 0 = (n : Int)) ↔ ((n = 3 ∧ t = [110, 111, 116]) ∨ (n = 6 ∧ t = [45]))) t k h (fun t hD => ?_) (fun t _ hN => ?_) ?_ ?_
  · have e1 := headD_not t [110, 111, 116] hD (by decide)
    have e2 := headD_not t [45] hD (by decide)
    simp only [e1, e2]
    rcases hn with rfl | rfl | rfl | rfl | rfl | rfl <;> decide
  · have e1 := name_not t [110, 111, 116] hN (by decide)
    have e2 := name_not t [45] hN (by decide)
    simp only [e1, e2]
    rcases hn with rfl | rfl | rfl | rfl | rfl | rfl <;> decide
  · rcases hn with rfl | rfl | rfl | rfl | rfl | rfl <;> decide
  · rcases hn with rfl | rfl | rfl | rfl | rfl | rfl <;> decide

theorem bec_lv (n : Nat) (h1 : 1 ≤ n) (h5 : n ≤ 5) (o : Nat) (t : By) (h : n = 3 → t ≠ [110, 111, 116]) : becB (lv n) o t = [symB (lv (n + 1)) o, symB (tl n) o] := by
  have hn : n = 1 ∨ n = 2 ∨ n = 3 ∨ n = 4 ∨ n = 5 := by omega
  rcases hn with rfl | rfl | rfl | rfl | rfl
  · rfl
  · rfl
  · show (if t = [110, 111, 116] then deepB t 84 o else [symB 83 o, symB 99 o]) = _
    rw [if_neg (h rfl)]
    rfl
  · rfl
  · rfl

theorem bec_tl_stop (n : Nat) (h1 : 1 ≤ n) (h5 : n ≤ 5) (o : Nat) (t : By) (h : inB t (sgn n) = false) : becB (tl n) o t = [] := by
  have hn : n = 1 ∨ n = 2 ∨ n = 3 ∨ n = 4 ∨ n = 5 := by omega
  have key : ∀ p g, moreB t (sgn n) p g o = [] := fun p g => by unfold moreB; rw [h]; rfl
  rcases hn with rfl | rfl | rfl | rfl | rfl
  · exact key 80 (some 114)
  · exact key 84 (some 112)
  · exact key 83 none
  · exact key 77 (some 115)
  · exact key 65 (some 109)

theorem bec_tl_go (n : Nat) (h1 : 1 ≤ n) (h5 : n ≤ 5) (o : Nat) (t : By) (h : inB t (sgn n) = true) : becB (tl n) o t = t :: symB (lv (n + 1)) o :: (if n = 3 then [] else [symB (tl n) o]) := by
  have hn : n = 1 ∨ n = 2 ∨ n = 3 ∨ n = 4 ∨ n = 5 := by omega
  have key : ∀ p g, moreB t (sgn n) p g o = (match g with | none => [t, symB p o] | some g => [t, symB p o, symB g o]) := fun p g => by unfold moreB; rw [h]; rfl
  rcases hn with rfl | rfl | rfl | rfl | rfl
  · exact key 80 (some 114)
  · exact key 84 (some 112)
  · exact key 83 none
  · exact key 77 (some 115)
  · exact key 65 (some 109)

def spellOf (k : Int) : By := spellW.getD k.toNat []

theorem textB_D (t : By) (h : headD t = true) : textB t = shortB t := by simp [textB, h]

theorem piece_other (q : Option By) (t : By) (k : Nat) (h : Cls t k) (hk : k ≠ 0) (hb : inB t betW = false) : pieceB q t = spellOf (k : Int) ++ textB t := by
  have e : pieceB q t = if t = [44] || t = [110, 111, 116] then t ++ [32] else shortB t := by
    unfold pieceB
    rw [hb]
    rfl
  rw [e]
  refine cls_ask (fun t k => k ≠ 0 → inB t betW = false → (if t = [44] || t = [110, 111, 116] then t ++ [32] else shortB t) = spellOf (k : Int) ++ textB t) t k h (fun t hD _ _ => ?_) (fun t hD hN _ _ => ?_) (fun h => absurd rfl h) (by decide) hk hb
  · rw [if_neg (by simp [headD_not t [44] hD (by decide), headD_not t [110, 111, 116] hD (by decide)]), textB_D t hD]
    rfl
  · rw [if_neg (by simp [name_not t [44] hN (by decide), name_not t [110, 111, 116] hN (by decide)])]
    have hm : meanB t = none := meanIn_none meanW t fun j hj he => by
      have := name_not t (meanW[j]).1 hN ((show ∀ x, x ∈ meanW → nameB x.1 = false by decide) _ (List.getElem_mem hj))
      exact this he.symm
    have ht : textB t = t := by simp [textB, hD, hm]
    rw [ht]
    match t, hN with
    | [], hN => simp [nameB, headL] at hN
    | [c], _ => rfl
    | c :: d :: r, hN =>
      have hc : c ≠ 48 := by
        rintro rfl
        have : headL (48 :: d :: r) = false := by show isL 48 = false; decide
        simp [nameB, this] at hN
      simp [shortB, hc, spellOf, spellW]

theorem piece_op (q : Option By) (t : By) (k : Nat) (h : Cls t k) (hb : inB t betW = true) (hq : behO q = true) : pieceB q t = spellOf (k : Int) ++ textB t := by
  have e : pieceB q t = [32] ++ t ++ [32] := by
    unfold pieceB
    rw [hb, hq]
    rfl
  rw [e]
  refine cls_ask (fun t k => inB t betW = true → [32] ++ t ++ [32] = spellOf (k : Int) ++ textB t) t k h (fun t hD hb => ?_) (fun t _ hN hb => ?_) (by decide) (by decide) hb
  · rw [inB_false t betW (fun x hx => headD_not t x hD (by revert x; decide))] at hb
    cases hb
  · rw [inB_false t betW (fun x hx => name_not t x hN (by revert x; decide))] at hb
    cases hb

theorem piece_neg (q : Option By) (hq : behO q = false) : pieceB q [45] = spellOf 14 := by
  unfold pieceB
  rw [hq]
  decide
end Go.Proofs.YtihgojcfpnhelaaGreatDoor
namespace Go.Proofs.YtihgojcfpnhelaaGreatDoor
open Go.RowKit

/-- A rule, read: its kind, name, number; what is in it. -/
inductive Pt where
  | atom (k : Nat) (nm : By) (n : Nat)
  | un (k : Nat) (a : Pt)
  | bin (k : Nat) (a b : Pt)
  | ifs (a b c : Pt)

def Pt.k : Pt → Nat | .atom k _ _ => k | .un k _ => k | .bin k _ _ => k | .ifs _ _ _ => 3
def Pt.nm : Pt → By | .atom _ x _ => x | _ => []
def Pt.n : Pt → Nat | .atom _ _ n => n | _ => 0
def Pt.kids : Pt → List Pt | .atom _ _ _ => [] | .un _ a => [a] | .bin _ a b => [a, b] | .ifs a b c => [a, b, c]

def jn (bt : By) : List By → By | [] => [] | x :: l => x ++ l.flatMap fun y => bt ++ y

def numT (k n : Nat) : By := if k = 1 then Lib.decDigits n else []

/-- The plain form. -/
def txt : Pt → By
  | .atom k x n => ahd k ++ x ++ numT k n ++ jn (btw k) [] ++ bhd k
  | .un k a => ahd k ++ [] ++ numT k 0 ++ jn (btw k) [txt a] ++ bhd k
  | .bin k a b => ahd k ++ [] ++ numT k 0 ++ jn (btw k) [txt a, txt b] ++ bhd k
  | .ifs a b c => ahd 3 ++ [] ++ numT 3 0 ++ jn (btw 3) [txt a, txt b, txt c] ++ bhd 3

theorem txt_eq (p : Pt) : txt p = ahd p.k ++ p.nm ++ numT p.k p.n ++ jn (btw p.k) (p.kids.map txt) ++ bhd p.k := by
  cases p <;> rfl

theorem jn_snoc (bt : By) (l : List By) (x : By) : jn bt (l ++ [x]) = jn bt l ++ (if l = [] then [] else bt) ++ x := by
  cases l with
  | nil => simp [jn]
  | cons y l => simp [jn]

/-- The part p lies in memory: its list of parts is the slice (a, l, c), within the blocks of S. -/
inductive PIs (w : World) (S : Nat → Prop) : Pt → Option Addr → Nat → Nat → Prop
  | leaf (p : Pt) : p.kids = [] → PIs w S p none 0 0
  | node (p : Pt) (g cap : Nat) (A : Nat → Option Addr) (L C : Nat → Nat) : S g → p.kids ≠ [] →
      (∀ j (h : j < p.kids.length), w.cell? ⟨g, j * 4, none⟩ = some (.int .i64 ((p.kids[j]).k : Int)) ∧ w.cell? ⟨g, j * 4 + 1, none⟩ = some (.string ⟨((p.kids[j]).nm).toArray⟩) ∧ w.cell? ⟨g, j * 4 + 2, none⟩ = some (.int .i64 ((p.kids[j]).n : Int)) ∧ w.cell? ⟨g, j * 4 + 3, none⟩ = some (.slice (A j) (L j) (C j))) →
      (∀ j (h : j < p.kids.length), PIs w S p.kids[j] (A j) (L j) (C j)) →
      PIs w S p (some ⟨g, 0, none⟩) p.kids.length cap

theorem cell_congr {w w' : World} {g : Nat} (h : w'.heap[g]? = w.heap[g]?) (o : Nat) : w'.cell? ⟨g, o, none⟩ = w.cell? ⟨g, o, none⟩ := by
  simp only [World.cell?, h]

theorem PIs.next {w w' : World} {S : Nat → Prop} {p : Pt} {a : Option Addr} {l c : Nat} (h : PIs w S p a l c) (hh : ∀ q, S q → w'.heap[q]? = w.heap[q]?) : PIs w' S p a l c := by
  induction h with
  | leaf p hp => exact .leaf p hp
  | node p g cap A L C hg hk hc _ ih =>
    refine .node p g cap A L C hg hk (fun j hj => ?_) ih
    rw [cell_congr (hh g hg), cell_congr (hh g hg), cell_congr (hh g hg), cell_congr (hh g hg)]
    exact hc j hj

theorem PIs.wide {w : World} {S S' : Nat → Prop} {p : Pt} {a : Option Addr} {l c : Nat} (h : PIs w S p a l c) (hh : ∀ q, S q → S' q) : PIs w S' p a l c := by
  induction h with
  | leaf p hp => exact .leaf p hp
  | node p g cap A L C hg hk hc _ ih => exact .node p g cap A L C (hh g hg) hk hc ih

/-- How tokens are read: a part of a level, from a place to a place, as a tree. -/
inductive Der (ts : List (By × Nat)) : Nat → Nat → Nat → Pt → Prop
  | atom (i k : Nat) : i < ts.length → Cls (tAt ts i) k → (k = 1 ∨ k = 2 ∨ k = 7 ∨ k = 8) → Der ts 6 i (i + 1) (.atom k (nmB (tAt ts i)) (nuB (tAt ts i)))
  | nots (i j : Nat) (a : Pt) : tAt ts i = [110, 111, 116] → Der ts 3 (i + 1) j a → Der ts 3 i j (.un 6 a)
  | neg (i j : Nat) (a : Pt) : tAt ts i = [45] → Der ts 6 (i + 1) j a → Der ts 6 i j (.un 14 a)
  | br (i j : Nat) (a : Pt) : tAt ts i = [40] → Der ts 1 (i + 1) j a → tAt ts j = [41] → Der ts 6 i (j + 1) (.un 9 a)
  | ifs (i j1 j2 j3 : Nat) (a b c : Pt) : tAt ts i = [105, 102] → tAt ts (i + 1) = [40] → Der ts 1 (i + 1 + 1) j1 a → tAt ts j1 = [44] → Der ts 1 (j1 + 1) j2 b → tAt ts j2 = [44] → Der ts 1 (j2 + 1) j3 c → tAt ts j3 = [41] → Der ts 6 i (j3 + 1) (.ifs a b c)
  | up (n i j : Nat) (a : Pt) : 1 ≤ n → n ≤ 5 → Der ts (n + 1) i j a → Der ts n i j a
  | more (n i j j' k : Nat) (a b : Pt) : 1 ≤ n → n ≤ 5 → Der ts (if n = 3 then 4 else n) i j a → inB (tAt ts j) (sgn n) = true → Cls (tAt ts j) k → Der ts (n + 1) (j + 1) j' b → Der ts n i j' (.bin k a b)

theorem Der.lt {ts : List (By × Nat)} {n i j : Nat} {p : Pt} (h : Der ts n i j p) : i < j := by
  induction h with
  | atom => omega
  | nots => omega
  | neg => omega
  | br => omega
  | ifs => omega
  | up => omega
  | more => omega
end Go.Proofs.YtihgojcfpnhelaaGreatDoor
namespace Go.Proofs.YtihgojcfpnhelaaGreatDoor
open Go.RowKit

/-- All tokens are right. -/
def OkT (ts : List (By × Nat)) : Prop := ∀ t p, (t, p) ∈ ts → (tokOK t = true ∧ ∃ c r, t = c :: r ∧ c ≠ 63 ∧ c ≠ 78) ∧ (headD t = true → AllD t)

theorem toks_allD (f : Nat) (l : By) (k : Nat) (t : By) (p : Nat) (h : (t, p) ∈ (toks f l k).1) : headD t = true → AllD t := by
  induction f generalizing l k with
  | zero => simp [toks] at h
  | succ f ih =>
    match l with
    | [] => simp [toks] at h
    | c :: r =>
      unfold toks at h
      split at h
      · exact ih _ _ h
      · split at h
        · simp only [List.mem_cons, Prod.mk.injEq] at h
          rcases h with ⟨rfl, rfl⟩ | h
          · rw [row_cons]
            intro hD
            exact row_allD c r hD
          · exact ih _ _ h
        · simp at h

theorem cls_word (x : By) (n : Nat) (hm : (x, n) ∈ meanN) (t : By) (k : Nat) (h : Cls t k) : k = n ↔ t = x := by
  have hx : ∀ y, y ∈ meanN → headD y.1 = false ∧ nameB y.1 = false ∧ y.1 ≠ [] ∧ y.2 ≠ 1 ∧ y.2 ≠ 2 ∧ y.2 ≠ 0 := by decide
  obtain ⟨a1, a2, a3, a4, a5, a6⟩ := hx _ hm
  simp only at a1 a2 a3 a4 a5 a6
  have huniq : ∀ y, y ∈ meanN → ∀ z, z ∈ meanN → (y.2 = z.2 ↔ y.1 = z.1) := by decide
  rcases h with ⟨h, rfl⟩ | ⟨_, h, rfl⟩ | ⟨rfl, rfl⟩ | h
  · exact ⟨fun e => absurd e.symm a4, fun e => by rw [e, a1] at h; cases h⟩
  · exact ⟨fun e => absurd e.symm a5, fun e => by rw [e, a2] at h; cases h⟩
  · exact ⟨fun e => absurd e.symm a6, fun e => absurd e.symm a3⟩
  · exact huniq _ h _ hm

theorem bet_plain (t : By) (k : Nat) (h : Cls t k) (hk : k = 1 ∨ k = 2 ∨ k = 7 ∨ k = 8) : inB t betW = false ∧ behB t = true := by
  rcases h with ⟨hD, _⟩ | ⟨_, hN, _⟩ | ⟨_, h⟩ | h
  · exact ⟨inB_false t betW (fun x hx => headD_not t x hD (by revert x; decide)), by simp [behB, hD]⟩
  · exact ⟨inB_false t betW (fun x hx => name_not t x hN (by revert x; decide)), by simp [behB, hN]⟩
  · omega
  · simp only [meanN, List.mem_cons, List.not_mem_nil, or_false, Prod.mk.injEq] at h
    rcases h with ⟨rfl, rfl⟩ | ⟨rfl, rfl⟩ | ⟨rfl, rfl⟩ | ⟨rfl, rfl⟩ | ⟨rfl, rfl⟩ | ⟨rfl, rfl⟩ | ⟨rfl, rfl⟩ | ⟨rfl, rfl⟩ | ⟨rfl, rfl⟩ | ⟨rfl, rfl⟩ | ⟨rfl, rfl⟩ | ⟨rfl, rfl⟩ | ⟨rfl, rfl⟩ | ⟨rfl, rfl⟩ | ⟨rfl, rfl⟩ | ⟨rfl, rfl⟩ <;> first | decide | omega

theorem sgn_bet (n : Nat) (h1 : 1 ≤ n) (h5 : n ≤ 5) (t : By) (h : inB t (sgn n) = true) : inB t betW = true ∧ behB t = false ∧ t ≠ [] := by
  have hn : n = 1 ∨ n = 2 ∨ n = 3 ∨ n = 4 ∨ n = 5 := by omega
  simp only [inB, List.contains_iff_mem] at h
  rcases hn with rfl | rfl | rfl | rfl | rfl <;> simp only [sgn, List.mem_cons, List.not_mem_nil, or_false] at h
  · subst h; decide
  · subst h; decide
  · rcases h with rfl | rfl <;> decide
  · rcases h with rfl | rfl <;> decide
  · rcases h with rfl | rfl | rfl <;> decide

/-- A sign between two: how it is told. -/
theorem sgn_told (n : Nat) (h1 : 1 ≤ n) (h5 : n ≤ 5) (t : By) (k : Nat) (h : inB t (sgn n) = true) (hc : Cls t k) : spellOf (k : Int) ++ textB t = btw k ∧ ahd k = [] ∧ bhd k = [] ∧ k ≠ 1 := by
  have hn : n = 1 ∨ n = 2 ∨ n = 3 ∨ n = 4 ∨ n = 5 := by omega
  have key : ∀ x m, (x, m) ∈ meanN → t = x → (spellOf (m : Int) ++ textB x = btw m ∧ ahd m = [] ∧ bhd m = [] ∧ m ≠ 1) → spellOf (k : Int) ++ textB t = btw k ∧ ahd k = [] ∧ bhd k = [] ∧ k ≠ 1 := by
    intro x m hm ht h
    have hk := (cls_word x m hm t k hc).2 ht
    subst hk ht
    exact h
  simp only [inB, List.contains_iff_mem] at h
  rcases hn with rfl | rfl | rfl | rfl | rfl <;> simp only [sgn, List.mem_cons, List.not_mem_nil, or_false] at h
  · exact key _ 5 (by decide) h (by decide)
  · exact key _ 4 (by decide) h (by decide)
  · rcases h with h | h
    · exact key _ 18 (by decide) h (by decide)
    · exact key _ 19 (by decide) h (by decide)
  · rcases h with h | h
    · exact key _ 12 (by decide) h (by decide)
    · exact key _ 13 (by decide) h (by decide)
  · rcases h with h | h | h
    · exact key _ 15 (by decide) h (by decide)
    · exact key _ 16 (by decide) h (by decide)
    · exact key _ 17 (by decide) h (by decide)

section
variable {ts : List (By × Nat)}

theorem OkT.get (hk : OkT ts) {i : Nat} (hi : i < ts.length) : tokOK (tAt ts i) = true ∧ ∃ c r, tAt ts i = c :: r ∧ c ≠ 63 ∧ c ≠ 78 := by
  rw [tAt_lt ts i hi]
  exact (hk ts[i].1 ts[i].2 (List.getElem_mem hi)).1

theorem OkT.dig (hk : OkT ts) {i : Nat} (hi : i < ts.length) : headD (tAt ts i) = true → AllD (tAt ts i) := by
  rw [tAt_lt ts i hi]
  exact (hk ts[i].1 ts[i].2 (List.getElem_mem hi)).2

theorem at_lt {i : Nat} {x : By} (hx : x ≠ []) (h : tAt ts i = x) : i < ts.length := by
  rcases Nat.lt_or_ge i ts.length with h1 | h1
  · exact h1
  · rw [tAt_ge ts i h1] at h; exact absurd h.symm hx

theorem prev_succ {i : Nat} (hi : i < ts.length) : prevB ts (i + 1) = some (tAt ts i) := by
  rw [prevB_succ ts i (by omega), tAt_lt ts i hi]

theorem told_succ {i : Nat} (hi : i < ts.length) : toldTo ts (i + 1) = toldTo ts i ++ pieceB (prevB ts i) (tAt ts i) := by
  rw [toldTo_succ ts i hi, tAt_lt ts i hi]

/-- A word that is told plainly. -/
theorem told_word {i : Nat} (x : By) (k : Nat) (hm : (x, k) ∈ meanN) (hb : inB x betW = false) (hx : x ≠ []) (hk : k ≠ 0) (h : tAt ts i = x) : toldTo ts (i + 1) = toldTo ts i ++ (spellOf (k : Int) ++ textB x) ∧ prevB ts (i + 1) = some x ∧ i < ts.length := by
  have hi := at_lt hx h
  refine ⟨?_, by rw [prev_succ hi, h], hi⟩
  rw [told_succ hi, h, piece_other _ x k (Or.inr (Or.inr (Or.inr hm))) hk hb]

theorem atom_txt (t : By) (k : Nat) (hc : Cls t k) (hk : k = 1 ∨ k = 2 ∨ k = 7 ∨ k = 8) (hD : headD t = true → AllD t) (hne : t ≠ []) : spellOf (k : Int) ++ textB t = txt (.atom k (nmB t) (nuB t)) := by
  show _ = ahd k ++ nmB t ++ numT k (nuB t) ++ [] ++ bhd k
  rcases hc with ⟨h, rfl⟩ | ⟨h, hN, rfl⟩ | ⟨_, h⟩ | h
  · rw [textB_D t h]
    unfold nmB nuB numT
    rw [h]
    simp only [if_true]
    rw [dec_short t hne (hD h)]
    simp [spellOf, spellW, ahd, ahdW, bhd, bhdW]
  · unfold nmB numT
    rw [h]
    simp [spellOf, spellW, ahd, ahdW, bhd, bhdW]
  · omega
  · simp only [meanN, List.mem_cons, List.not_mem_nil, or_false, Prod.mk.injEq] at h
    rcases h with ⟨rfl, rfl⟩ | ⟨rfl, rfl⟩ | ⟨rfl, rfl⟩ | ⟨rfl, rfl⟩ | ⟨rfl, rfl⟩ | ⟨rfl, rfl⟩ | ⟨rfl, rfl⟩ | ⟨rfl, rfl⟩ | ⟨rfl, rfl⟩ | ⟨rfl, rfl⟩ | ⟨rfl, rfl⟩ | ⟨rfl, rfl⟩ | ⟨rfl, rfl⟩ | ⟨rfl, rfl⟩ | ⟨rfl, rfl⟩ | ⟨rfl, rfl⟩ <;> first | rfl | omega

/-- What is read is told as its tree is. -/
theorem Der.told (hok : OkT ts) {n i j : Nat} {p : Pt} (h : Der ts n i j p) : behO (prevB ts i) = false → j ≤ ts.length ∧ behO (prevB ts j) = true ∧ toldTo ts j = toldTo ts i ++ txt p := by
  induction h with
  | atom i k hi hc hk =>
    intro _
    obtain ⟨hnb, hbe⟩ := bet_plain _ k hc hk
    obtain ⟨_, c, r, hcr, _⟩ := hok.get hi
    refine ⟨by omega, by rw [prev_succ hi]; exact hbe, ?_⟩
    rw [told_succ hi, piece_other _ _ k hc (by omega) hnb, atom_txt _ k hc hk (hok.dig hi) (by rw [hcr]; simp)]
  | nots i j a ht _ ih =>
    intro _
    obtain ⟨e1, e2, _⟩ := told_word (ts := ts) [110, 111, 116] 6 (by decide) (by decide) (by decide) (by decide) ht
    obtain ⟨h1, h2, h3⟩ := ih (by rw [e2]; decide)
    refine ⟨h1, h2, ?_⟩
    rw [h3, e1]
    simp [txt, jn, spellOf, spellW, textB, headD, isD, digB, meanB, meanIn, meanW, ahd, ahdW, bhd, bhdW, numT]
  | neg i j a ht _ ih =>
    intro hq
    have hi := at_lt (by decide) ht
    obtain ⟨h1, h2, h3⟩ := ih (by rw [prev_succ hi, ht]; decide)
    refine ⟨h1, h2, ?_⟩
    rw [h3, told_succ hi, ht, piece_neg _ hq]
    simp [txt, jn, spellOf, spellW, ahd, ahdW, bhd, bhdW, numT]
  | br i j a ht _ hu ih =>
    intro _
    obtain ⟨e1, e2, _⟩ := told_word (ts := ts) [40] 9 (by decide) (by decide) (by decide) (by decide) ht
    obtain ⟨f1, f2, f3⟩ := told_word (ts := ts) [41] 10 (by decide) (by decide) (by decide) (by decide) hu
    obtain ⟨h1, h2, h3⟩ := ih (by rw [e2]; decide)
    refine ⟨by omega, by rw [f2]; decide, ?_⟩
    rw [f1, h3, e1]
    simp [txt, jn, spellOf, spellW, textB, headD, isD, digB, meanB, meanIn, meanW, ahd, ahdW, bhd, bhdW, numT]
  | ifs i j1 j2 j3 a b c ht hu _ h1 _ h2 _ h3 iha ihb ihc =>
    intro _
    obtain ⟨e1, e2, _⟩ := told_word (ts := ts) [105, 102] 3 (by decide) (by decide) (by decide) (by decide) ht
    obtain ⟨f1, f2, _⟩ := told_word (ts := ts) [40] 9 (by decide) (by decide) (by decide) (by decide) hu
    obtain ⟨g1, g2, _⟩ := told_word (ts := ts) [44] 11 (by decide) (by decide) (by decide) (by decide) h1
    obtain ⟨k1, k2, _⟩ := told_word (ts := ts) [44] 11 (by decide) (by decide) (by decide) (by decide) h2
    obtain ⟨l1, l2, l3⟩ := told_word (ts := ts) [41] 10 (by decide) (by decide) (by decide) (by decide) h3
    obtain ⟨_, _, a3⟩ := iha (by rw [f2]; decide)
    obtain ⟨_, _, b3⟩ := ihb (by rw [g2]; decide)
    obtain ⟨_, _, c3⟩ := ihc (by rw [k2]; decide)
    refine ⟨by omega, by rw [l2]; decide, ?_⟩
    rw [l1, c3, k1, b3, g1, a3, f1, e1]
    simp [txt, jn, spellOf, spellW, textB, headD, isD, digB, meanB, meanIn, meanW, ahd, ahdW, bhd, bhdW, numT, btw, btwW]
  | up n i j a _ _ _ ih => exact ih
  | more n i j j' k a b h1 h5 _ hs hc _ iha ihb =>
    intro hq
    obtain ⟨hbw, hbn, hne⟩ := sgn_bet n h1 h5 _ hs
    obtain ⟨e1, e2, e3, e4⟩ := sgn_told n h1 h5 _ k hs hc
    have hj : j < ts.length := by
      rcases Nat.lt_or_ge j ts.length with h | h
      · exact h
      · exact absurd (tAt_ge ts j h) hne
    obtain ⟨_, a2, a3⟩ := iha hq
    obtain ⟨b1, b2, b3⟩ := ihb (by rw [prev_succ hj]; exact hbn)
    refine ⟨b1, b2, ?_⟩
    rw [b3, told_succ hj, piece_op _ _ k hc hbw a2, e1, a3]
    simp [txt, jn, e2, e3, e4, numT]
end
end Go.Proofs.YtihgojcfpnhelaaGreatDoor
