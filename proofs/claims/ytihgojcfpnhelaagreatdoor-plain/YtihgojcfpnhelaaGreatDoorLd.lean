import Derived.Test.YtihgojcfpnhelaaGreatDoorMw
import Derived.Test.YtihgojcfpnhelaaGreatDoorMb
set_option linter.unusedVariables false
set_option linter.unusedSimpArgs false
namespace Go.Proofs.YtihgojcfpnhelaaGreatDoor
open Go.RowKit

/-- A text that goes on with no letter and no digit. -/
def noLD (s : By) : Prop := s = [] ∨ ∃ c r, s = c :: r ∧ isLD c = false

def hLD (x : By) : Bool := headL x || headD x

/-- A token by itself. -/
def TI (x : By) : Prop := ∃ c r, x = c :: r ∧ c ≠ 32 ∧ tokOK x = true ∧ (isL c = true → ∀ y, y ∈ r → isLD y = true) ∧ (isL c = false → isD c = true → ∀ y, y ∈ r → isD y = true) ∧ (isL c = false → isD c = false → r = [])

/-- Tokens and blanks that stay apart. -/
def OkI : List By → By → Prop
  | [], _ => True
  | x :: l, rest => (x = [32] ∨ (TI x ∧ (hLD x = true → noLD (l.flatten ++ rest)))) ∧ OkI l rest

def tokI : List By → Nat → List (By × Nat)
  | [], _ => []
  | x :: l, k => if x = [32] then tokI l (k + 1) else (x, k) :: tokI l (k + x.length)

def tks (l : List By) : List By := l.filter fun x => x ≠ [32]

theorem tokI_fst (l : List By) : ∀ k, (tokI l k).map Prod.fst = tks l := by
  induction l with
  | nil => intro k; rfl
  | cons x l ih =>
    intro k
    by_cases h : x = [32]
    · simp only [tokI, h, if_true, ih, tks]
      simp
    · simp only [tokI, h, if_false, List.map_cons, ih, tks]
      simp [h]

theorem tw_app {p : UInt8 → Bool} : ∀ (r rest : By), (∀ y, y ∈ r → p y = true) → (rest = [] ∨ ∃ c t, rest = c :: t ∧ p c = false) → (r ++ rest).takeWhile p = r
  | [], rest, _, h => by
    rcases h with rfl | ⟨c, t, rfl, h⟩
    · rfl
    · simp [h]
  | y :: r, rest, hr, h => by
    rw [List.cons_append, List.takeWhile_cons, hr y (by simp)]
    simp only [if_true]
    rw [tw_app r rest (fun z hz => hr z (by simp [hz])) h]

theorem isLD_L {c : UInt8} (h : isL c = true) : isLD c = true := by
  simp only [isL] at h
  simp [isLD, ldB, h]
theorem isLD_D {c : UInt8} (h : isD c = true) : isLD c = true := by
  simp only [isD] at h
  simp [isLD, ldB, h]

theorem rowLen_app (x rest : By) (h : TI x) (hr : hLD x = true → noLD rest) : rowLen (x ++ rest) = x.length := by
  obtain ⟨c, r, rfl, _, _, h1, h2, h3⟩ := h
  simp only [List.cons_append, rowLen]
  by_cases hL : isL c = true
  · rw [if_pos hL, tw_app r rest (h1 hL)]
    · simp; omega
    · exact hr (by simp [hLD, headL, hL])
  · have hL' : isL c = false := by simpa using hL
    rw [if_neg hL]
    by_cases hD : isD c = true
    · rw [if_pos hD, tw_app r rest (h2 hL' hD)]
      · simp; omega
      · rcases hr (by simp [hLD, headD, hD]) with rfl | ⟨c', t, rfl, hc⟩
        · exact Or.inl rfl
        · refine Or.inr ⟨c', t, rfl, ?_⟩
          cases hh : isD c' with
          | false => rfl
          | true => rw [isLD_D hh] at hc; cases hc
    · rw [if_neg hD, h3 hL' (by simpa using hD)]
      rfl

theorem toks_items : ∀ (l : List By) (f k : Nat), OkI l [] → l.flatten.length ≤ f → toks f l.flatten k = (tokI l k, none)
  | [], f, k, _, _ => by simp [tokI, toks_nil]
  | x :: l, f, k, ⟨h, hl⟩, hf => by
    simp only [List.flatten_cons, List.length_append] at hf ⊢
    by_cases hx : x = [32]
    · subst hx
      obtain ⟨f, rfl⟩ : ∃ g, f = g + 1 := ⟨f - 1, by simp at hf; omega⟩
      rw [show [32] ++ l.flatten = 32 :: l.flatten from rfl, toks_sp, toks_items l f (k + 1) hl (by simp only [List.length_singleton] at hf; omega)]
      simp [tokI]
    · rcases h with h | ⟨hT, hn⟩
      · exact absurd h hx
      · have hrl := rowLen_app x l.flatten hT (by simpa using hn)
        obtain ⟨c, r, rfl, hc, hok, _⟩ := hT
        obtain ⟨f, rfl⟩ : ∃ g, f = g + 1 := ⟨f - 1, by simp at hf; omega⟩
        rw [toks_to f c r l.flatten k hc hrl hok, toks_items l f _ hl (by simp only [List.length_cons] at hf; omega)]
        simp [tokI, hx]

theorem OkI.app : ∀ {l1 l2 : List By} {rest : By}, OkI l1 (l2.flatten ++ rest) → OkI l2 rest → OkI (l1 ++ l2) rest
  | [], _, _, _, h => h
  | x :: l1, l2, rest, ⟨h, h1⟩, h2 => by
    refine ⟨h.imp id fun ⟨a, b⟩ => ⟨a, fun c => ?_⟩, OkI.app h1 h2⟩
    have := b c
    simpa using this

/-- A token, or a digit with two noughts ahead of it. -/
def TE (t t' : By) : Prop := t' = t ∨ ∃ d, isD d = true ∧ t = [d] ∧ t' = [48, 48, d]

theorem TE.word {t t' x : By} (h : TE t t') (hx : headD x = false) (e : t = x) : t' = x := by
  rcases h with h | ⟨d, hd, h1, _⟩
  · rw [h, e]
  · rw [← e, h1] at hx
    simp [headD, hd] at hx

theorem TE.atom {t t' : By} (h : TE t t') : (∀ k, Cls t k → Cls t' k) ∧ nmB t' = nmB t ∧ nuB t' = nuB t := by
  rcases h with rfl | ⟨d, hd, rfl, rfl⟩
  · exact ⟨fun k h => h, rfl, rfl⟩
  · have h0 : headD [d] = true := by simp [headD, hd]
    have h1 : headD [48, 48, d] = true := by simp [headD]; decide
    refine ⟨fun k h => ?_, ?_, ?_⟩
    · rcases h with ⟨_, h⟩ | ⟨h, _⟩ | ⟨h, _⟩ | h
      · exact Or.inl ⟨h1, h⟩
      · rw [h0] at h; cases h
      · cases h
      · exfalso
        simp only [meanN, List.mem_cons, List.not_mem_nil, or_false, Prod.mk.injEq] at h
        have : isD d = false := by
          rcases h with ⟨h, _⟩ | ⟨h, _⟩ | ⟨h, _⟩ | ⟨h, _⟩ | ⟨h, _⟩ | ⟨h, _⟩ | ⟨h, _⟩ | ⟨h, _⟩ | ⟨h, _⟩ | ⟨h, _⟩ | ⟨h, _⟩ | ⟨h, _⟩ | ⟨h, _⟩ | ⟨h, _⟩ | ⟨h, _⟩ | ⟨h, _⟩ <;> simp at h <;> subst h <;> decide
        rw [hd] at this
        cases this
    · simp [nmB, h0, h1]
    · simp [nuB, h0, h1, valD]

theorem sgn_noD (n : Nat) (t : By) (h : inB t (sgn n) = true) : headD t = false := by
  unfold sgn at h
  split at h <;> simp only [inB, List.contains_iff_mem, List.mem_cons, List.not_mem_nil, or_false] at h
  · rw [h]; decide
  · rw [h]; decide
  · rcases h with h | h <;> rw [h] <;> decide
  · rcases h with h | h <;> rw [h] <;> decide
  · rcases h with h | h | h <;> rw [h] <;> decide

/-- What is read is read of like tokens too. -/
theorem Der.like {ts ts' : List (By × Nat)} {n i j : Nat} {p : Pt} (h : Der ts n i j p) : ∀ s, (∀ k, i ≤ k → k < j → TE (tAt ts k) (tAt ts' (k + s))) → j + s ≤ ts'.length → Der ts' n (i + s) (j + s) p := by
  induction h with
  | atom i k hi hc hk =>
    intro s hs hl
    obtain ⟨a1, a2, a3⟩ := (hs i (Nat.le_refl _) (by omega)).atom
    have := Der.atom (ts := ts') (i + s) k (by omega) (a1 k hc) hk
    rw [a2, a3] at this
    rw [show i + 1 + s = i + s + 1 by omega]
    exact this
  | nots i j a ht hD ih =>
    intro s hs hl
    have hlt := hD.lt
    refine .nots _ _ _ ((hs i (Nat.le_refl _) (by omega)).word (by decide) ht) ?_
    have := ih s (fun k h1 h2 => hs k (by omega) h2) hl
    rw [show i + s + 1 = i + 1 + s by omega]
    exact this
  | neg i j a ht hD ih =>
    intro s hs hl
    have hlt := hD.lt
    refine .neg _ _ _ ((hs i (Nat.le_refl _) (by omega)).word (by decide) ht) ?_
    have := ih s (fun k h1 h2 => hs k (by omega) h2) hl
    rw [show i + s + 1 = i + 1 + s by omega]
    exact this
  | br i j a ht hD ht' ih =>
    intro s hs hl
    have hlt := hD.lt
    rw [show j + 1 + s = j + s + 1 by omega]
    refine .br _ _ _ ((hs i (Nat.le_refl _) (by omega)).word (by decide) ht) ?_ ((hs j (by omega) (by omega)).word (by decide) ht')
    have := ih s (fun k h1 h2 => hs k (by omega) (by omega)) (by omega)
    rw [show i + s + 1 = i + 1 + s by omega]
    exact this
  | ifs i j1 j2 j3 a b c t1 t2 h1 t3 h2 t4 h3 t5 ih1 ih2 ih3 =>
    intro s hs hl
    have l1 := h1.lt
    have l2 := h2.lt
    have l3 := h3.lt
    have g1 := ih1 s (fun k h1 h2 => hs k (by omega) (by omega)) (by omega)
    have g2 := ih2 s (fun k h1 h2 => hs k (by omega) (by omega)) (by omega)
    have g3 := ih3 s (fun k h1 h2 => hs k (by omega) (by omega)) (by omega)
    rw [show i + 1 + 1 + s = i + s + 1 + 1 by omega] at g1
    rw [show j1 + 1 + s = j1 + s + 1 by omega] at g2
    rw [show j2 + 1 + s = j2 + s + 1 by omega] at g3
    rw [show j3 + 1 + s = j3 + s + 1 by omega]
    refine .ifs _ (j1 + s) (j2 + s) _ _ _ _ ((hs i (Nat.le_refl _) (by omega)).word (by decide) t1) ?_ g1 ((hs j1 (by omega) (by omega)).word (by decide) t3) g2 ((hs j2 (by omega) (by omega)).word (by decide) t4) g3 ((hs j3 (by omega) (by omega)).word (by decide) t5)
    rw [show i + s + 1 = i + 1 + s by omega]
    exact (hs (i + 1) (by omega) (by omega)).word (by decide) t2
  | up n i j a h1 h5 _ ih =>
    intro s hs hl
    exact .up _ _ _ _ h1 h5 (ih s hs hl)
  | more n i j j' k a b h1 h5 ha hg hc hb iha ihb =>
    intro s hs hl
    have la := ha.lt
    have lb := hb.lt
    have e := (hs j (by omega) (by omega)).word (sgn_noD n _ hg) rfl
    refine .more n (i + s) (j + s) (j' + s) k a b h1 h5 (iha s (fun k h1 h2 => hs k h1 (by omega)) (by omega)) (by rw [e]; exact hg) (by rw [e]; exact hc) ?_
    have := ihb s (fun k h1 h2 => hs k (by omega) h2) hl
    rw [show j + s + 1 = j + 1 + s by omega]
    exact this

def z0 (T : List By) : List (By × Nat) := T.map fun t => (t, 0)

theorem tAt_fst (ts : List (By × Nat)) (i : Nat) : tAt ts i = (ts.map Prod.fst).getD i [] := by
  unfold tAt
  rw [List.getD_eq_getElem?_getD, List.getElem?_map]
  cases ts[i]? <;> rfl

theorem tAt_z0 (T : List By) (i : Nat) : tAt (z0 T) i = T.getD i [] := by
  rw [tAt_fst]
  congr 1
  rw [z0, List.map_map]
  exact List.map_id' T

theorem z0_len (T : List By) : (z0 T).length = T.length := by simp [z0]

theorem gd_right (a b : List By) (k : Nat) (h : a.length ≤ k) : (a ++ b).getD k [] = b.getD (k - a.length) [] := by
  rw [List.getD_eq_getElem?_getD, List.getD_eq_getElem?_getD, List.getElem?_append_right h]
theorem gd_left (a b : List By) (k : Nat) (h : k < a.length) : (a ++ b).getD k [] = a.getD k [] := by
  rw [List.getD_eq_getElem?_getD, List.getD_eq_getElem?_getD, List.getElem?_append_left h]

/-- A part within more. -/
theorem Der.sub {T : List By} {n : Nat} {p : Pt} (h : Der (z0 T) n 0 T.length p) (pre post : List By) : Der (z0 (pre ++ T ++ post)) n pre.length (pre.length + T.length) p := by
  have := h.like (ts' := z0 (pre ++ T ++ post)) pre.length (fun k _ hk => Or.inl ?_) (by rw [z0_len]; simp; omega)
  · rw [Nat.zero_add, Nat.add_comm T.length] at this
    exact this
  · rw [tAt_z0, tAt_z0, List.append_assoc, gd_right _ _ _ (by omega), gd_left _ _ _ (by omega), Nat.add_sub_cancel]
end Go.Proofs.YtihgojcfpnhelaaGreatDoor
namespace Go.Proofs.YtihgojcfpnhelaaGreatDoor
open Go.RowKit

def nextB (r : By) (n : Nat) : Nat × By := match r with | [] => (0, []) | c :: t => (c.toNat % n, t)

theorem nextB_lt (r : By) (n : Nat) (h : 0 < n) : (nextB r n).1 < n := by
  cases r with
  | nil => exact h
  | cons c t => exact Nat.mod_lt _ h

def numB (n : Nat) : By := Lib.decDigits n
def fewB (r : By) : By × By := (102 :: numB (nextB r 8).1, (nextB r 8).2)

theorem numB_len (n : Nat) (h : n < 100) : (numB n).length ≤ 2 := by
  have : ∀ n : Fin 100, (numB n.1).length ≤ 2 := by decide +kernel
  exact this ⟨n, h⟩
theorem fewB_len (r : By) : (fewB r).1.length ≤ 3 := by
  have h1 := numB_len (nextB r 8).1 (by have := nextB_lt r 8 (by decide); omega)
  simp [fewB]
  omega

def pickB (l : List By) (k : Nat) : By := l.getD k []

/-- A rule out of raw bytes. -/
def ruleB : Nat → By → By × By
  | 0, r =>
    if (nextB r 5).1 = 0 then (numB (nextB (nextB r 5).2 10).1, (nextB (nextB r 5).2 10).2)
    else if (nextB r 5).1 = 1 then (pickB [[116, 114, 117, 101], [102, 97, 108, 115, 101]] (nextB (nextB r 5).2 2).1, (nextB (nextB r 5).2 2).2)
    else fewB (nextB r 5).2
  | d + 1, r =>
    let a := (ruleB d r).1
    let k := (nextB (ruleB d r).2 8).1
    let q := (nextB (ruleB d r).2 8).2
    if k = 0 then ([105, 102, 40] ++ a ++ [44, 32] ++ (fewB q).1 ++ [44, 32] ++ (ruleB d (fewB q).2).1 ++ [41], (ruleB d (fewB q).2).2)
    else if k = 1 then ([110, 111, 116, 32, 40] ++ a ++ [41], q)
    else if k = 2 then ([45] ++ (fewB q).1, (fewB q).2)
    else if k = 3 then ([40] ++ a ++ [41, 32] ++ pickB [[97, 110, 100], [111, 114]] (nextB q 2).1 ++ [32, 40] ++ (ruleB d (nextB q 2).2).1 ++ [41], (ruleB d (nextB q 2).2).2)
    else if k = 4 then ([40] ++ a ++ [41, 32] ++ pickB [[61], [60]] (nextB q 2).1 ++ [32] ++ (fewB (nextB q 2).2).1, (fewB (nextB q 2).2).2)
    else ([40] ++ a ++ [41, 32] ++ pickB [[43], [45], [42], [47], [37]] (nextB q 5).1 ++ [32] ++ (fewB (nextB q 5).2).1, (fewB (nextB q 5).2).2)

theorem ruleB_len (d : Nat) : ∀ r, (ruleB d r).1.length + 11 ≤ 16 * 2 ^ d := by
  induction d with
  | zero =>
    intro r
    unfold ruleB
    split
    · have := numB_len (nextB (nextB r 5).2 10).1 (by have := nextB_lt (nextB r 5).2 10 (by decide); omega)
      simp; omega
    · split
      · have := nextB_lt (nextB r 5).2 2 (by decide)
        rcases (show (nextB (nextB r 5).2 2).1 = 0 ∨ (nextB (nextB r 5).2 2).1 = 1 by omega) with h | h <;> rw [h] <;> simp [pickB]
      · have := fewB_len (nextB r 5).2
        simp; omega
  | succ d ih =>
    intro r
    have e : 16 * 2 ^ (d + 1) = 2 * (16 * 2 ^ d) := by rw [Nat.pow_succ]; omega
    rw [e]
    unfold ruleB
    have i0 := ih r
    generalize 16 * 2 ^ d = M at *
    simp only
    generalize (nextB (ruleB d r).2 8).1 = k
    generalize (nextB (ruleB d r).2 8).2 = q
    have f1 := fewB_len q
    have i1 := ih (fewB q).2
    have i2 := ih (nextB q 2).2
    have f2 := fewB_len (nextB q 2).2
    have f5 := fewB_len (nextB q 5).2
    have p1 : (pickB [[97, 110, 100], [111, 114]] (nextB q 2).1).length ≤ 3 := by
      have := nextB_lt q 2 (by decide)
      rcases (show (nextB q 2).1 = 0 ∨ (nextB q 2).1 = 1 by omega) with h | h <;> rw [h] <;> decide
    have p2 : (pickB [[61], [60]] (nextB q 2).1).length ≤ 3 := by
      have := nextB_lt q 2 (by decide)
      rcases (show (nextB q 2).1 = 0 ∨ (nextB q 2).1 = 1 by omega) with h | h <;> rw [h] <;> decide
    have p5 : (pickB [[43], [45], [42], [47], [37]] (nextB q 5).1).length ≤ 3 := by
      have := nextB_lt q 5 (by decide)
      rcases (show (nextB q 5).1 = 0 ∨ (nextB q 5).1 = 1 ∨ (nextB q 5).1 = 2 ∨ (nextB q 5).1 = 3 ∨ (nextB q 5).1 = 4 by omega) with h | h | h | h | h <;> rw [h] <;> decide
    split
    · simp; omega
    · split
      · simp; omega
      · split
        · simp; omega
        · split
          · simp; omega
          · split
            · simp; omega
            · simp; omega
end Go.Proofs.YtihgojcfpnhelaaGreatDoor
namespace Go.Proofs.YtihgojcfpnhelaaGreatDoor
open Go.RowKit

theorem L_notD {c : UInt8} (h : isL c = true) : isD c = false := by
  simp only [isL, letB, decide_eq_true_eq] at h
  simp only [isD, digB, decide_eq_false_iff_not]
  omega

/-- A piece of a rule of known making. -/
def GI (x : By) : Prop := x = [32] ∨ inB x signW = true ∨ (∃ d, x = [d] ∧ isD d = true) ∨ (x ≠ [] ∧ (∀ y, y ∈ x → isL y = true) ∧ x.length ≤ 6) ∨ (∃ d, x = [102, d] ∧ isD d = true)

theorem GI.ti {x : By} (h : GI x) (hx : x ≠ [32]) : TI x := by
  rcases h with h | h | ⟨d, rfl, hd⟩ | ⟨h0, h1, h2⟩ | ⟨d, rfl, hd⟩
  · exact absurd h hx
  · simp only [inB, signW, List.contains_iff_mem, List.mem_cons, List.not_mem_nil, or_false] at h
    rcases h with rfl | rfl | rfl | rfl | rfl | rfl | rfl | rfl | rfl | rfl <;> exact ⟨_, [], rfl, by decide, by decide, fun _ y hy => by simp at hy, fun _ _ y hy => by simp at hy, fun _ _ => rfl⟩
  · refine ⟨d, [], rfl, ?_, ?_, fun _ y hy => by simp at hy, fun _ _ y hy => by simp at hy, fun _ _ => rfl⟩
    · rintro rfl
      revert hd; decide
    · have := d.toNat_lt
      simp [tokOK, headD, hd, valD, top63]
      omega
  · obtain ⟨c, r, rfl⟩ : ∃ c r, x = c :: r := by
      cases x with
      | nil => exact absurd rfl h0
      | cons c r => exact ⟨c, r, rfl⟩
    have hc := h1 c (by simp)
    refine ⟨c, r, rfl, ?_, ?_, fun _ y hy => isLD_L (h1 y (by simp [hy])), fun h => ?_, fun h => ?_⟩
    · rintro rfl
      revert hc; decide
    · simp only [List.length_cons] at h2
      simp [tokOK, headD, headL, hc, L_notD hc]
      omega
    · rw [hc] at h; cases h
    · rw [hc] at h; cases h
  · refine ⟨102, [d], rfl, by decide, ?_, fun _ y hy => ?_, fun h => ?_, fun h => ?_⟩
    · simp [tokOK, headD, headL, show isL 102 = true from by decide, show isD 102 = false from by decide]
    · simp at hy
      rw [hy]
      exact isLD_D hd
    · exact absurd h (by decide)
    · exact absurd h (by decide)

/-- Names of known making alone are mentioned. -/
def MF (p : Pt) : Prop := ∀ x, mentP x p = true → ∃ d, isD d = true ∧ x = [102, d]

/-- A text that is read at a level, by its making. -/
def RI (n : Nat) (s : By) (m : Nat) : Prop := ∃ (its : List By) (p : Pt), its.flatten = s ∧ (∀ x, x ∈ its → GI x) ∧ (∀ rest, noLD rest → OkI its rest) ∧ Der (z0 (tks its)) n 0 (tks its).length p ∧ txt p = s ∧ opn p ≤ m ∧ MF p

theorem tks_app (a b : List By) : tks (a ++ b) = tks a ++ tks b := by simp [tks]

theorem noLD_c (c : UInt8) (r : By) (h : isLD c = false) : noLD (c :: r) := Or.inr ⟨c, r, rfl, h⟩

theorem noLD_app {a b : By} (h : noLD b) (ha : a = [] ∨ noLD a) : noLD (a ++ b) := by
  rcases ha with rfl | rfl | ⟨c, r, rfl, hc⟩
  · exact h
  · exact h
  · exact noLD_c c _ hc

theorem RI.up {n m : Nat} {s : By} (h : RI n s m) (k : Nat) (h1 : 1 ≤ k) (h2 : k ≤ n) (h6 : n ≤ 6) : RI k s m := by
  obtain ⟨its, p, a, b, c, d, e⟩ := h
  refine ⟨its, p, a, b, c, ?_, e⟩
  have e : k + (n - k) = n := by omega
  exact Der.ups (n - k) k (by rw [e]; exact d) h1 (by omega)

theorem RI.le {n m m' : Nat} {s : By} (h : RI n s m) (hm : m ≤ m') : RI n s m' := by
  obtain ⟨its, p, a, b, c, d, e, f, g⟩ := h
  exact ⟨its, p, a, b, c, d, e, by omega, g⟩

/-- One token alone. -/
theorem RI.one (x : By) (k : Nat) (hx : GI x) (h32 : x ≠ [32]) (hc : Cls x k) (hk : k = 1 ∨ k = 2 ∨ k = 7 ∨ k = 8) (ht : txt (.atom k (nmB x) (nuB x)) = x) (hm : MF (.atom k (nmB x) (nuB x))) : RI 6 x 0 := by
  have e : tks [x] = [x] := by simp [tks, h32]
  refine ⟨[x], .atom k (nmB x) (nuB x), by simp, fun y hy => by rw [List.mem_singleton.1 hy]; exact hx, fun rest hr => ⟨Or.inr ⟨hx.ti h32, fun _ => by simpa using hr⟩, trivial⟩, ?_, ht, Nat.le_refl _, hm⟩
  rw [e]
  exact .atom (ts := z0 [x]) 0 k (by simp [z0]) hc hk

theorem g40 : GI [40] := Or.inr (Or.inl (by decide))
theorem g41 : GI [41] := Or.inr (Or.inl (by decide))
theorem g44 : GI [44] := Or.inr (Or.inl (by decide))
theorem g45 : GI [45] := Or.inr (Or.inl (by decide))
theorem g32 : GI [32] := Or.inl rfl
theorem gif : GI [105, 102] := Or.inr (Or.inr (Or.inr (Or.inl ⟨by simp, by decide, by simp⟩)))
theorem gnot : GI [110, 111, 116] := Or.inr (Or.inr (Or.inr (Or.inl ⟨by simp, by decide, by simp⟩)))

/-- A sign, whatever comes. -/
theorem OkI.sign {x : By} {l : List By} {rest : By} (hx : GI x) (h : hLD x = false) (hl : OkI l rest) : OkI (x :: l) rest := by
  refine ⟨?_, hl⟩
  by_cases e : x = [32]
  · exact Or.inl e
  · exact Or.inr ⟨hx.ti e, fun h' => by rw [h] at h'; cases h'⟩

theorem OkI.wordy {x : By} {l : List By} {rest : By} (hx : GI x) (h : noLD (l.flatten ++ rest)) (hl : OkI l rest) : OkI (x :: l) rest := by
  refine ⟨?_, hl⟩
  by_cases e : x = [32]
  · exact Or.inl e
  · exact Or.inr ⟨hx.ti e, fun _ => h⟩

/-- Brackets. -/
theorem RI.br {s : By} {m : Nat} (h : RI 1 s m) : RI 6 ([40] ++ s ++ [41]) (m + 1) := by
  obtain ⟨its, p, rfl, hg, ho, hD, ht, hop, hm⟩ := h
  refine ⟨[40] :: (its ++ [[41]]), .un 9 p, by simp, ?_, ?_, ?_, ?_, by simp only [opn]; omega, ?_⟩
  · intro x hx
    simp at hx
    rcases hx with rfl | hx | rfl
    · exact g40
    · exact hg x hx
    · exact g41
  · intro rest hr
    refine .sign g40 (by decide) (.app (ho _ ?_) (.sign g41 (by decide) trivial))
    exact noLD_c 41 _ (by decide)
  · have e : tks ([40] :: (its ++ [[41]])) = ([[40]] : List By) ++ tks its ++ [[41]] := by simp [tks]
    rw [e]
    have := Der.br (ts := z0 (([[40]] : List By) ++ tks its ++ [[41]])) 0 (1 + (tks its).length) p ?_ (hD.sub [[40]] [[41]]) ?_
    · rw [show (([[40]] : List By) ++ tks its ++ [[41]] : List By).length = 1 + (tks its).length + 1 by simp; omega]
      exact this
    · rw [tAt_z0]; rfl
    · rw [tAt_z0, gd_right _ _ _ (by simp; omega)]
      rw [show 1 + (tks its).length - (([[40]] : List By) ++ tks its).length = 0 by simp; omega]
      rfl
  · simp [txt, ahd, bhd, btw, ahdW, bhdW, btwW, numT, jn, ht]
  · intro x hx
    simp [mentP] at hx
    exact hm x hx

theorem RI.nots {s : By} {m : Nat} (h : RI 3 s m) : RI 3 ([110, 111, 116, 32] ++ s) (m + 1) := by
  obtain ⟨its, p, rfl, hg, ho, hD, ht, hop, hm⟩ := h
  refine ⟨[110, 111, 116] :: [32] :: its, .un 6 p, by simp, ?_, ?_, ?_, ?_, by simp only [opn]; omega, ?_⟩
  · intro x hx
    simp at hx
    rcases hx with rfl | rfl | hx
    · exact gnot
    · exact g32
    · exact hg x hx
  · intro rest hr
    exact .wordy gnot (noLD_c 32 _ (by decide)) (.sign g32 (by decide) (ho rest hr))
  · have e : tks ([110, 111, 116] :: [32] :: its) = ([[110, 111, 116]] : List By) ++ tks its ++ [] := by simp [tks]
    rw [e]
    have := Der.nots (ts := z0 (([[110, 111, 116]] : List By) ++ tks its ++ [])) 0 (1 + (tks its).length) p ?_ (hD.sub [[110, 111, 116]] [])
    · rw [show (([[110, 111, 116]] : List By) ++ tks its ++ [] : List By).length = 1 + (tks its).length by simp; omega]
      exact this
    · rw [tAt_z0]; rfl
  · simp [txt, ahd, bhd, btw, ahdW, bhdW, btwW, numT, jn, ht]
  · intro x hx
    simp [mentP] at hx
    exact hm x hx

theorem RI.neg {s : By} {m : Nat} (h : RI 6 s m) : RI 6 ([45] ++ s) (m + 1) := by
  obtain ⟨its, p, rfl, hg, ho, hD, ht, hop, hm⟩ := h
  refine ⟨[45] :: its, .un 14 p, by simp, ?_, ?_, ?_, ?_, by simp only [opn]; omega, ?_⟩
  · intro x hx
    simp at hx
    rcases hx with rfl | hx
    · exact g45
    · exact hg x hx
  · intro rest hr
    exact .sign g45 (by decide) (ho rest hr)
  · have e : tks ([45] :: its) = ([[45]] : List By) ++ tks its ++ [] := by simp [tks]
    rw [e]
    have := Der.neg (ts := z0 (([[45]] : List By) ++ tks its ++ [])) 0 (1 + (tks its).length) p ?_ (hD.sub [[45]] [])
    · rw [show (([[45]] : List By) ++ tks its ++ [] : List By).length = 1 + (tks its).length by simp; omega]
      exact this
    · rw [tAt_z0]; rfl
  · simp [txt, ahd, bhd, btw, ahdW, bhdW, btwW, numT, jn, ht]
  · intro x hx
    simp [mentP] at hx
    exact hm x hx

/-- A sign between two. -/
theorem RI.two {n k : Nat} {a b op : By} {ma mb : Nat} (h1 : 1 ≤ n) (h5 : n ≤ 5) (ha : RI (if n = 3 then 4 else n) a ma) (hb : RI (n + 1) b mb) (hg : GI op) (h32 : op ≠ [32]) (hs : inB op (sgn n) = true) (hc : Cls op k) (hk : k ≠ 2) (hbt : btw k = 32 :: op ++ [32] ∧ ahd k = [] ∧ bhd k = [] ∧ k ≠ 1) : RI n (a ++ [32] ++ op ++ [32] ++ b) (max ma mb) := by
  obtain ⟨ia, pa, rfl, ga, oa, Da, ta, ha', fa⟩ := ha
  obtain ⟨ib, pb, rfl, gb, ob, Db, tb, hb', fb⟩ := hb
  refine ⟨ia ++ ([32] :: op :: [32] :: ib), .bin k pa pb, by simp, ?_, ?_, ?_, ?_, by simp only [opn]; omega, ?_⟩
  · intro x hx
    simp at hx
    rcases hx with hx | rfl | rfl | rfl | hx
    · exact ga x hx
    · exact g32
    · exact hg
    · exact g32
    · exact gb x hx
  · intro rest hr
    exact .app (oa _ (noLD_c 32 _ (by decide))) (.sign g32 (by decide) (.wordy hg (noLD_c 32 _ (by decide)) (.sign g32 (by decide) (ob rest hr))))
  · have e : tks (ia ++ ([32] :: op :: [32] :: ib)) = tks ia ++ [op] ++ tks ib := by simp [tks, h32]
    rw [e]
    have d1 : Der (z0 (tks ia ++ [op] ++ tks ib)) (if n = 3 then 4 else n) 0 (tks ia).length pa := by
      have := Da.sub [] ([op] ++ tks ib)
      simpa [z0] using this
    have d2 : Der (z0 (tks ia ++ [op] ++ tks ib)) (n + 1) ((tks ia).length + 1) ((tks ia).length + 1 + (tks ib).length) pb := by
      have := Db.sub (tks ia ++ [op]) []
      simpa [z0] using this
    have hop : tAt (z0 (tks ia ++ [op] ++ tks ib)) (tks ia).length = op := by
      rw [tAt_z0, List.append_assoc, gd_right _ _ _ (Nat.le_refl _), Nat.sub_self]
      rfl
    rw [show (tks ia ++ [op] ++ tks ib).length = (tks ia).length + 1 + (tks ib).length by simp; omega]
    exact .more n 0 (tks ia).length _ k pa pb h1 h5 d1 (by rw [hop]; exact hs) (by rw [hop]; exact hc) d2
  · simp [txt, hbt, numT, jn, ta, tb]
  · intro x hx
    simp [mentP, hk] at hx
    rcases hx with hx | hx
    · exact fa x hx
    · exact fb x hx

theorem RI.ifs {a b c : By} {ma mb mc : Nat} (ha : RI 1 a ma) (hb : RI 1 b mb) (hc : RI 1 c mc) : RI 6 ([105, 102, 40] ++ a ++ [44, 32] ++ b ++ [44, 32] ++ c ++ [41]) (max ma (max mb mc) + 1) := by
  obtain ⟨ia, pa, rfl, ga, oa, Da, ta, ha', fa⟩ := ha
  obtain ⟨ib, pb, rfl, gb, ob, Db, tb, hb', fb⟩ := hb
  obtain ⟨ic, pc, rfl, gc, oc, Dc, tc, hc', fc⟩ := hc
  refine ⟨[105, 102] :: [40] :: (ia ++ ([44] :: [32] :: (ib ++ ([44] :: [32] :: (ic ++ [[41]]))))), .ifs pa pb pc, by simp, ?_, ?_, ?_, ?_, by simp only [opn]; omega, ?_⟩
  · intro x hx
    simp at hx
    rcases hx with rfl | rfl | hx | rfl | rfl | hx | rfl | rfl | hx | rfl
    · exact gif
    · exact g40
    · exact ga x hx
    · exact g44
    · exact g32
    · exact gb x hx
    · exact g44
    · exact g32
    · exact gc x hx
    · exact g41
  · intro rest hr
    exact .wordy gif (noLD_c 40 _ (by decide)) (.sign g40 (by decide) (.app (oa _ (noLD_c 44 _ (by decide))) (.sign g44 (by decide) (.sign g32 (by decide) (.app (ob _ (noLD_c 44 _ (by decide))) (.sign g44 (by decide) (.sign g32 (by decide) (.app (oc _ (noLD_c 41 _ (by decide))) (.sign g41 (by decide) trivial)))))))))
  · have e : tks ([105, 102] :: [40] :: (ia ++ ([44] :: [32] :: (ib ++ ([44] :: [32] :: (ic ++ [[41]])))))) = ([[105, 102], [40]] : List By) ++ tks ia ++ [[44]] ++ tks ib ++ [[44]] ++ tks ic ++ [[41]] := by simp [tks]
    rw [e]
    have d1 := Da.sub [[105, 102], [40]] ([[44]] ++ tks ib ++ [[44]] ++ tks ic ++ [[41]])
    have d2 := Db.sub (([[105, 102], [40]] : List By) ++ tks ia ++ [[44]]) ([[44]] ++ tks ic ++ [[41]])
    have d3 := Dc.sub (([[105, 102], [40]] : List By) ++ tks ia ++ [[44]] ++ tks ib ++ [[44]]) [[41]]
    rw [show ([[105, 102], [40]] : List By) ++ tks ia ++ ([[44]] ++ tks ib ++ [[44]] ++ tks ic ++ [[41]]) = ([[105, 102], [40]] : List By) ++ tks ia ++ [[44]] ++ tks ib ++ [[44]] ++ tks ic ++ [[41]] by simp] at d1
    rw [show ([[105, 102], [40]] : List By) ++ tks ia ++ [[44]] ++ tks ib ++ ([[44]] ++ tks ic ++ [[41]]) = ([[105, 102], [40]] : List By) ++ tks ia ++ [[44]] ++ tks ib ++ [[44]] ++ tks ic ++ [[41]] by simp] at d2
    have q1 : tAt (z0 (([[105, 102], [40]] : List By) ++ tks ia ++ [[44]] ++ tks ib ++ [[44]] ++ tks ic ++ [[41]])) (2 + (tks ia).length) = [44] := by
      rw [tAt_z0, show ([[105, 102], [40]] : List By) ++ tks ia ++ [[44]] ++ tks ib ++ [[44]] ++ tks ic ++ [[41]] = (([[105, 102], [40]] : List By) ++ tks ia) ++ ([44] :: (tks ib ++ [[44]] ++ tks ic ++ [[41]])) by simp, gd_right _ _ _ (by simp; omega)]
      rw [show 2 + (tks ia).length - (([[105, 102], [40]] : List By) ++ tks ia : List By).length = 0 by simp; omega]
      rfl
    have q2 : tAt (z0 (([[105, 102], [40]] : List By) ++ tks ia ++ [[44]] ++ tks ib ++ [[44]] ++ tks ic ++ [[41]])) (2 + (tks ia).length + 1 + (tks ib).length) = [44] := by
      rw [tAt_z0, show ([[105, 102], [40]] : List By) ++ tks ia ++ [[44]] ++ tks ib ++ [[44]] ++ tks ic ++ [[41]] = (([[105, 102], [40]] : List By) ++ tks ia ++ [[44]] ++ tks ib) ++ ([44] :: (tks ic ++ [[41]])) by simp, gd_right _ _ _ (by simp; omega)]
      rw [show 2 + (tks ia).length + 1 + (tks ib).length - (([[105, 102], [40]] : List By) ++ tks ia ++ [[44]] ++ tks ib : List By).length = 0 by simp; omega]
      rfl
    have q3 : tAt (z0 (([[105, 102], [40]] : List By) ++ tks ia ++ [[44]] ++ tks ib ++ [[44]] ++ tks ic ++ [[41]])) (2 + (tks ia).length + 1 + (tks ib).length + 1 + (tks ic).length) = [41] := by
      rw [tAt_z0, gd_right _ _ _ (by simp; omega)]
      rw [show 2 + (tks ia).length + 1 + (tks ib).length + 1 + (tks ic).length - (([[105, 102], [40]] : List By) ++ tks ia ++ [[44]] ++ tks ib ++ [[44]] ++ tks ic : List By).length = 0 by simp; omega]
      rfl
    rw [show ([[105, 102], [40]] : List By).length = 2 from rfl] at d1
    rw [show (([[105, 102], [40]] : List By) ++ tks ia ++ [[44]] : List By).length = 2 + (tks ia).length + 1 by simp; omega] at d2
    rw [show (([[105, 102], [40]] : List By) ++ tks ia ++ [[44]] ++ tks ib ++ [[44]] : List By).length = 2 + (tks ia).length + 1 + (tks ib).length + 1 by simp; omega] at d3
    rw [show (([[105, 102], [40]] : List By) ++ tks ia ++ [[44]] ++ tks ib ++ [[44]] ++ tks ic ++ [[41]] : List By).length = 2 + (tks ia).length + 1 + (tks ib).length + 1 + (tks ic).length + 1 by simp; omega]
    exact .ifs 0 _ _ _ pa pb pc (by rw [tAt_z0]; rfl) (by rw [tAt_z0]; rfl) d1 q1 d2 q2 d3 q3
  · simp [txt, ahd, bhd, btw, ahdW, bhdW, btwW, numT, jn, ta, tb, tc]
  · intro x hx
    simp [mentP] at hx
    rcases hx with hx | hx | hx
    · exact fa x hx
    · exact fb x hx
    · exact fc x hx
end Go.Proofs.YtihgojcfpnhelaaGreatDoor
namespace Go.Proofs.YtihgojcfpnhelaaGreatDoor
open Go.RowKit

theorem few_facts : ∀ n : Fin 8, numB n.1 = [UInt8.ofNat (48 + n.1)] ∧ isD (UInt8.ofNat (48 + n.1)) = true ∧ headD (102 :: numB n.1) = false ∧ nameB (102 :: numB n.1) = true ∧ nmB (102 :: numB n.1) = 102 :: numB n.1 ∧ nuB (102 :: numB n.1) = 0 := by decide +kernel
theorem num_facts : ∀ n : Fin 10, numB n.1 = [UInt8.ofNat (48 + n.1)] ∧ isD (UInt8.ofNat (48 + n.1)) = true ∧ headD (numB n.1) = true ∧ nmB (numB n.1) = [] ∧ nuB (numB n.1) = n.1 := by decide +kernel

theorem RI.few (r : By) : RI 6 (fewB r).1 0 := by
  have hl := nextB_lt r 8 (by decide)
  obtain ⟨a1, a2, a3, a4, a5, a6⟩ := few_facts ⟨(nextB r 8).1, hl⟩
  simp only [fewB]
  simp only at a1 a2 a3 a4 a5 a6
  refine RI.one _ 2 (Or.inr (Or.inr (Or.inr (Or.inr ⟨_, by rw [a1], a2⟩)))) (by rw [a1]; simp) (Or.inr (Or.inl ⟨a3, a4, rfl⟩)) (by omega) ?_ ?_
  · rw [a5, a6]
    simp [txt, ahd, bhd, btw, ahdW, bhdW, btwW, numT, jn]
  · intro x hx
    rw [a5] at hx
    simp [mentP] at hx
    exact ⟨_, a2, by rw [← hx, a1]⟩

theorem RI.num (n : Nat) (hn : n < 10) : RI 6 (numB n) 0 := by
  obtain ⟨a1, a2, a3, a4, a5⟩ := num_facts ⟨n, hn⟩
  simp only at a1 a2 a3 a4 a5
  refine RI.one _ 1 (Or.inr (Or.inr (Or.inl ⟨_, a1, a2⟩))) ?_ (Or.inl ⟨a3, rfl⟩) (by omega) ?_ ?_
  · intro e
    rw [e] at a3
    revert a3; decide
  · rw [a4, a5]
    simp [txt, ahd, bhd, btw, ahdW, bhdW, btwW, numT, jn, numB]
  · intro x hx
    simp [mentP] at hx

theorem RI.bool (k : Nat) (hk : k < 2) : RI 6 (pickB [[116, 114, 117, 101], [102, 97, 108, 115, 101]] k) 0 := by
  rcases (show k = 0 ∨ k = 1 by omega) with rfl | rfl
  · refine RI.one [116, 114, 117, 101] 7 (Or.inr (Or.inr (Or.inr (Or.inl ⟨by simp, by decide, by simp⟩)))) (by decide) (Or.inr (Or.inr (Or.inr (by decide)))) (by omega) (by decide) ?_
    intro x hx
    simp [mentP] at hx
  · refine RI.one [102, 97, 108, 115, 101] 8 (Or.inr (Or.inr (Or.inr (Or.inl ⟨by simp, by decide, by simp⟩)))) (by decide) (Or.inr (Or.inr (Or.inr (by decide)))) (by omega) (by decide) ?_
    intro x hx
    simp [mentP] at hx

theorem gword {x : By} (h : x ≠ [] ∧ (∀ y, y ∈ x → isL y = true) ∧ x.length ≤ 6) : GI x := Or.inr (Or.inr (Or.inr (Or.inl h)))
theorem gsign {x : By} (h : inB x signW = true) : GI x := Or.inr (Or.inl h)
theorem cmean {x : By} {k : Nat} (h : (x, k) ∈ meanN) : Cls x k := Or.inr (Or.inr (Or.inr h))

/-- A rule of known making is read, and its plain form is its own. -/
theorem ruleI : ∀ (d : Nat) (r : By), RI 1 (ruleB d r).1 (2 * d)
  | 0, r => by
    unfold ruleB
    split
    · exact (RI.num _ (nextB_lt _ _ (by decide))).up 1 (by decide) (by decide) (by decide)
    · split
      · exact (RI.bool _ (nextB_lt _ _ (by decide))).up 1 (by decide) (by decide) (by decide)
      · exact (RI.few _).up 1 (by decide) (by decide) (by decide)
  | d + 1, r => by
    unfold ruleB
    have ia := ruleI d r
    simp only
    generalize (nextB (ruleB d r).2 8).1 = k
    generalize (nextB (ruleB d r).2 8).2 = q
    have fq := fun q => RI.few q
    have iq := fun q => ruleI d q
    split
    · exact ((RI.ifs ia ((fq q).up 1 (by decide) (by decide) (by decide)) (iq _)).up 1 (by decide) (by decide) (by decide)).le (by omega)
    · split
      · have := ((ia.br.up 3 (by decide) (by decide) (by decide)).nots).up 1 (by decide) (by decide) (by decide)
        simp only [List.append_assoc, List.cons_append, List.nil_append] at this ⊢
        exact this.le (by omega)
      · split
        · exact ((fq q).neg.up 1 (by decide) (by decide) (by decide)).le (by omega)
        · split
          · have hl := nextB_lt q 2 (by decide)
            rcases (show (nextB q 2).1 = 0 ∨ (nextB q 2).1 = 1 by omega) with h | h <;> rw [h]
            · have := (RI.two (n := 2) (k := 4) (op := [97, 110, 100]) (by decide) (by decide) (ia.br.up 2 (by decide) (by decide) (by decide)) ((iq (nextB q 2).2).br.up 3 (by decide) (by decide) (by decide)) (gword ⟨by simp, by decide, by simp⟩) (by decide) (by decide) (cmean (by decide)) (by decide) (by decide)).up 1 (by decide) (by decide) (by decide)
              simp only [List.append_assoc, List.cons_append, List.nil_append, pickB, List.getD_cons_zero] at this ⊢
              exact this.le (by omega)
            · have := (RI.two (n := 1) (k := 5) (op := [111, 114]) (by decide) (by decide) (ia.br.up 1 (by decide) (by decide) (by decide)) ((iq (nextB q 2).2).br.up 2 (by decide) (by decide) (by decide)) (gword ⟨by simp, by decide, by simp⟩) (by decide) (by decide) (cmean (by decide)) (by decide) (by decide))
              simp only [List.append_assoc, List.cons_append, List.nil_append, pickB, List.getD_cons_zero, List.getD_cons_succ] at this ⊢
              exact this.le (by omega)
          · split
            · have hl := nextB_lt q 2 (by decide)
              rcases (show (nextB q 2).1 = 0 ∨ (nextB q 2).1 = 1 by omega) with h | h <;> rw [h]
              · have := (RI.two (n := 3) (k := 18) (op := [61]) (by decide) (by decide) (ia.br.up 4 (by decide) (by decide) (by decide)) ((fq (nextB q 2).2).up 4 (by decide) (by decide) (by decide)) (gsign (by decide)) (by decide) (by decide) (cmean (by decide)) (by decide) (by decide)).up 1 (by decide) (by decide) (by decide)
                simp only [List.append_assoc, List.cons_append, List.nil_append, pickB, List.getD_cons_zero] at this ⊢
                exact this.le (by omega)
              · have := (RI.two (n := 3) (k := 19) (op := [60]) (by decide) (by decide) (ia.br.up 4 (by decide) (by decide) (by decide)) ((fq (nextB q 2).2).up 4 (by decide) (by decide) (by decide)) (gsign (by decide)) (by decide) (by decide) (cmean (by decide)) (by decide) (by decide)).up 1 (by decide) (by decide) (by decide)
                simp only [List.append_assoc, List.cons_append, List.nil_append, pickB, List.getD_cons_zero, List.getD_cons_succ] at this ⊢
                exact this.le (by omega)
            · have hl := nextB_lt q 5 (by decide)
              have tw : ∀ (n k : Nat) (op : By), 4 ≤ n → n ≤ 5 → GI op → op ≠ [32] → inB op (sgn n) = true → Cls op k → k ≠ 2 → (btw k = 32 :: op ++ [32] ∧ ahd k = [] ∧ bhd k = [] ∧ k ≠ 1) → RI 1 ([40] ++ (ruleB d r).1 ++ [41, 32] ++ op ++ [32] ++ (fewB (nextB q 5).2).1) (2 * (d + 1)) := by
                intro n k op h4 h5 hg h32 hs hc hk hbt
                have := (RI.two (n := n) (k := k) (op := op) (by omega) h5 (by rw [if_neg (by omega)]; exact ia.br.up n (by omega) (by omega) (by decide)) ((fq (nextB q 5).2).up (n + 1) (by omega) (by omega) (by decide)) hg h32 hs hc hk hbt).up 1 (by decide) (by omega) (by omega)
                simp only [List.append_assoc, List.cons_append, List.nil_append] at this ⊢
                exact this.le (by omega)
              rcases (show (nextB q 5).1 = 0 ∨ (nextB q 5).1 = 1 ∨ (nextB q 5).1 = 2 ∨ (nextB q 5).1 = 3 ∨ (nextB q 5).1 = 4 by omega) with h | h | h | h | h <;> rw [h]
              · exact tw 4 12 [43] (by decide) (by decide) (gsign (by decide)) (by decide) (by decide) (cmean (by decide)) (by decide) (by decide)
              · exact tw 4 13 [45] (by decide) (by decide) (gsign (by decide)) (by decide) (by decide) (cmean (by decide)) (by decide) (by decide)
              · exact tw 5 15 [42] (by decide) (by decide) (gsign (by decide)) (by decide) (by decide) (cmean (by decide)) (by decide) (by decide)
              · exact tw 5 16 [47] (by decide) (by decide) (gsign (by decide)) (by decide) (by decide) (cmean (by decide)) (by decide) (by decide)
              · exact tw 5 17 [37] (by decide) (by decide) (gsign (by decide)) (by decide) (by decide) (cmean (by decide)) (by decide) (by decide)
end Go.Proofs.YtihgojcfpnhelaaGreatDoor
namespace Go.Proofs.YtihgojcfpnhelaaGreatDoor
open Go.RowKit

def signO (p : Option UInt8) (c : UInt8) (n : Option UInt8) : Bool := match p, n with | some p, some n => c == 32 && (p == 41 || p == 44 || n == 40) | _, _ => false
def skipO (p n : Option UInt8) : Bool := p != some 116 && p != some 100 && p != some 114 && (n == some 40 || p != some 41)
def digO (p : Option UInt8) (c : UInt8) : Bool := decide (49 ≤ c.toNat) && decide (c.toNat ≤ 57) && p != some 102
def behO1 (c : UInt8) : By := if c = 32 ∨ c = 40 then [32] else []

/-- The rule with blanks and noughts more or less. -/
def oddB : Option UInt8 → By → By → By × By
  | _, [], r => ([], r)
  | p, c :: t, r =>
    if signO p c t.head? && decide ((nextB r 2).1 = 1) && skipO p t.head? then oddB (some c) t (nextB r 2).2
    else
      let r1 := if signO p c t.head? then (nextB r 2).2 else r
      let r2 := if digO p c then (nextB r1 2).2 else r1
      let q := oddB (some c) t r2
      ((if digO p c && decide ((nextB r1 2).1 = 1) then [48, 48] else []) ++ c :: (behO1 c ++ q.1), q.2)

/-- Pieces, with blanks and noughts more or less; the flag: a letter or digit stands ahead. -/
inductive Od : Bool → List By → List By → Prop
  | nil (b : Bool) : Od b [] []
  | keep (b : Bool) (x : By) (l l' : List By) : Od (hLD x) l l' → Od b (x :: l) (x :: l')
  | blank (b : Bool) (l l' : List By) : Od false l l' → Od b ([32] :: l) ([32] :: [32] :: l')
  | brack (b : Bool) (l l' : List By) : Od false l l' → Od b ([40] :: l) ([40] :: [32] :: l')
  | drop (b : Bool) (l l' : List By) : (b = false ∨ noLD l.flatten) → Od b l l' → Od b ([32] :: l) l'
  | num (b : Bool) (d : UInt8) (l l' : List By) : isD d = true → Od true l l' → Od b ([d] :: l) ([48, 48, d] :: l')

inductive Pw : List By → List By → Prop
  | nil : Pw [] []
  | cons (t t' : By) (l l' : List By) : TE t t' → Pw l l' → Pw (t :: l) (t' :: l')

theorem Pw.len {a b : List By} (h : Pw a b) : a.length = b.length := by
  induction h with
  | nil => rfl
  | cons t t' l l' _ _ ih => simp [ih]

theorem Pw.get {a b : List By} (h : Pw a b) : ∀ i, TE (a.getD i []) (b.getD i []) := by
  induction h with
  | nil => intro i; exact Or.inl rfl
  | cons t t' l l' ht _ ih =>
    intro i
    cases i with
    | zero => exact ht
    | succ i => exact ih i

theorem ti_noughts (d : UInt8) (hd : isD d = true) : TI [48, 48, d] := by
  refine ⟨48, [48, d], rfl, by decide, ?_, fun h => ?_, fun _ _ y hy => ?_, fun _ h => ?_⟩
  · have := d.toNat_lt
    simp [tokOK, headD, show isD 48 = true from by decide, valD, top63]
    omega
  · exact absurd h (by decide)
  · simp at hy
    rcases hy with rfl | rfl
    · decide
    · exact hd
  · exact absurd h (by decide)

theorem Od.ok {b : Bool} {l l' : List By} (h : Od b l l') : (∀ x, x ∈ l → GI x) → OkI l [] → OkI l' [] ∧ (b = true → noLD l.flatten → noLD l'.flatten) ∧ Pw (tks l) (tks l') := by
  induction h with
  | nil b => intro _ _; exact ⟨trivial, fun _ h => h, .nil⟩
  | keep b x l l' h ih =>
    intro hg ho
    obtain ⟨i1, i2, i3⟩ := ih (fun y hy => hg y (by simp [hy])) ho.2
    have hh : x = [32] ∨ (TI x ∧ (hLD x = true → noLD (l'.flatten ++ []))) := by
      rcases ho.1 with h0 | ⟨a, c⟩
      · exact Or.inl h0
      · refine Or.inr ⟨a, fun e => ?_⟩
        have := i2 e (by simpa using c e)
        simpa using this
    refine ⟨⟨hh, i1⟩, fun _ hn => ?_, ?_⟩
    · rcases ho.1 with rfl | ⟨⟨c, r, rfl, _⟩, _⟩
      · exact noLD_c 32 _ (by decide)
      · simp only [List.flatten_cons, List.cons_append] at hn ⊢
        rcases hn with hn | ⟨c', r', hn, hc⟩
        · cases hn
        · cases hn
          exact noLD_c _ _ hc
    · by_cases hx : x = [32]
      · simp only [tks, hx] at i3 ⊢
        simpa using i3
      · have : tks (x :: l) = x :: tks l ∧ tks (x :: l') = x :: tks l' := by simp [tks, hx]
        rw [this.1, this.2]
        exact .cons _ _ _ _ (Or.inl rfl) i3
  | blank b l l' h ih =>
    intro hg ho
    obtain ⟨i1, i2, i3⟩ := ih (fun y hy => hg y (by simp [hy])) ho.2
    refine ⟨⟨Or.inl rfl, Or.inl rfl, i1⟩, fun _ _ => noLD_c 32 _ (by decide), ?_⟩
    simpa [tks] using i3
  | brack b l l' h ih =>
    intro hg ho
    obtain ⟨i1, i2, i3⟩ := ih (fun y hy => hg y (by simp [hy])) ho.2
    refine ⟨.sign g40 (by decide) (.sign g32 (by decide) i1), fun _ _ => noLD_c 40 _ (by decide), ?_⟩
    have : tks ([40] :: l) = [40] :: tks l ∧ tks ([40] :: [32] :: l') = [40] :: tks l' := by simp [tks]
    rw [this.1, this.2]
    exact .cons _ _ _ _ (Or.inl rfl) i3
  | drop b l l' hb h ih =>
    intro hg ho
    obtain ⟨i1, i2, i3⟩ := ih (fun y hy => hg y (by simp [hy])) ho.2
    refine ⟨i1, fun e _ => ?_, ?_⟩
    · rcases hb with hb | hb
      · rw [hb] at e; cases e
      · exact i2 e hb
    · simpa [tks] using i3
  | num b d l l' hd h ih =>
    intro hg ho
    obtain ⟨i1, i2, i3⟩ := ih (fun y hy => hg y (by simp [hy])) ho.2
    have hne : ([d] : By) ≠ [32] := by
      intro e
      simp at e
      rw [e] at hd
      revert hd; decide
    refine ⟨⟨Or.inr ⟨ti_noughts d hd, fun _ => ?_⟩, i1⟩, fun _ hn => ?_, ?_⟩
    · rcases ho.1 with h0 | ⟨_, h0⟩
      · exact absurd h0 hne
      · have := i2 rfl (by simpa using h0 (by simp [hLD, headD, hd]))
        simpa using this
    · rcases hn with hn | ⟨c', r', hn, hc⟩
      · simp at hn
      · simp at hn
        rw [← hn.1, isLD_D hd] at hc
        cases hc
    · have : tks ([d] :: l) = [d] :: tks l ∧ tks ([48, 48, d] :: l') = [48, 48, d] :: tks l' := by simp [tks, hne]
      rw [this.1, this.2]
      exact .cons _ _ _ _ (Or.inr ⟨d, hd, rfl, rfl⟩) i3

theorem odd_plain (p : Option UInt8) (c : UInt8) (t r : By) (h1 : c ≠ 32) (h2 : digO p c = false) (h3 : c ≠ 40) : oddB p (c :: t) r = (c :: (oddB (some c) t r).1, (oddB (some c) t r).2) := by
  have hs : signO p c t.head? = false := by
    unfold signO
    split
    · simp [h1]
    · rfl
  conv => lhs; unfold oddB
  simp [hs, h2, behO1, h1, h3]

theorem letter_facts {c : UInt8} (h : isL c = true) : c ≠ 32 ∧ c ≠ 40 ∧ c ≠ 44 ∧ ∀ p, digO p c = false := by
  simp only [isL, letB, decide_eq_true_eq] at h
  refine ⟨?_, ?_, ?_, fun p => ?_⟩
  · rintro rfl; revert h; decide
  · rintro rfl; revert h; decide
  · rintro rfl; revert h; decide
  · have : ¬ c.toNat ≤ 57 := by omega
    simp [digO, this]

theorem odd_letters : ∀ (x t r : By) (p : Option UInt8), (∀ y, y ∈ x → isL y = true) → x ≠ [] → ∃ c, isL c = true ∧ oddB p (x ++ t) r = (x ++ (oddB (some c) t r).1, (oddB (some c) t r).2)
  | [], _, _, _, _, h => absurd rfl h
  | [c], t, r, p, hx, _ => by
    have hc := hx c (by simp)
    obtain ⟨f1, f2, _, f3⟩ := letter_facts hc
    exact ⟨c, hc, odd_plain p c t r f1 (f3 p) f2⟩
  | c :: d :: x, t, r, p, hx, _ => by
    have hc := hx c (by simp)
    obtain ⟨f1, f2, _, f3⟩ := letter_facts hc
    obtain ⟨c', h1, h2⟩ := odd_letters (d :: x) t r (some c) (fun y hy => hx y (by simp [hy])) (by simp)
    refine ⟨c', h1, ?_⟩
    rw [List.cons_append, odd_plain p c _ r f1 (f3 p) f2, h2]
    rfl

theorem odd_items : ∀ (l : List By), (∀ x, x ∈ l → GI x) → ∀ (p : Option UInt8) (b : Bool) (r : By), (p = some 44 → b = false) → ∃ l', (oddB p l.flatten r).1 = l'.flatten ∧ Od b l l'
  | [], _, p, b, r, _ => ⟨[], by simp [oddB], .nil b⟩
  | x :: l, hg, p, b, r, hp => by
    have ih := fun p b r h => odd_items l (fun y hy => hg y (by simp [hy])) p b r h
    rcases hg x (by simp) with rfl | hx | ⟨d, rfl, hd⟩ | ⟨h0, h1, _⟩ | ⟨d, rfl, hd⟩
    · simp only [List.flatten_cons, List.cons_append, List.nil_append]
      conv => enter [1, l', 1]; unfold oddB
      split
      · rename_i hc
        simp only [Bool.and_eq_true, decide_eq_true_eq] at hc
        obtain ⟨⟨hs, _⟩, hk⟩ := hc
        obtain ⟨l', e1, e2⟩ := ih (some 32) b (nextB r 2).2 (fun h => by cases h)
        refine ⟨l', e1, .drop b l l' ?_ e2⟩
        unfold signO at hs
        split at hs
        · rename_i q n hn
          by_cases h44 : q = 44
          · exact Or.inl (hp (by rw [h44]))
          · right
            have h40 : n = 40 := by
              simp [h44] at hs
              rcases hs with rfl | rfl
              · unfold skipO at hk
                simp at hk
                rw [hn] at hk
                simpa using hk
              · rfl
            cases hf : l.flatten with
            | nil => rw [hf] at hn; cases hn
            | cons c t =>
              rw [hf] at hn
              simp at hn
              rw [hn, h40]
              exact noLD_c 40 _ (by decide)
        · cases hs
      · have hd0 : digO p 32 = false := by simp [digO]
        simp only [hd0, Bool.false_and, if_false, behO1, true_or, if_true, Bool.false_eq_true]
        obtain ⟨l', e1, e2⟩ := ih (some 32) false (if signO p 32 l.flatten.head? = true then (nextB r 2).2 else r) (fun _ => rfl)
        exact ⟨[32] :: [32] :: l', by simp [e1], .blank b l l' e2⟩
    · have hc : ∃ c, x = [c] ∧ c ≠ 32 ∧ hLD [c] = false ∧ ∀ p, digO p c = false := by
        simp only [inB, signW, List.contains_iff_mem, List.mem_cons, List.not_mem_nil, or_false] at hx
        rcases hx with rfl | rfl | rfl | rfl | rfl | rfl | rfl | rfl | rfl | rfl <;> exact ⟨_, rfl, by decide, by decide, fun p => by simp [digO]⟩
      obtain ⟨c, rfl, h32, hl, hdg⟩ := hc
      simp only [List.flatten_cons, List.cons_append, List.nil_append]
      by_cases h40 : c = 40
      · subst h40
        have hs : signO p 40 l.flatten.head? = false := by
          unfold signO
          split
          · simp
          · rfl
        conv => enter [1, l', 1]; unfold oddB
        simp only [hs, Bool.false_and, if_false, Bool.false_eq_true, hdg p, behO1, or_true, if_true]
        obtain ⟨l', e1, e2⟩ := ih (some 40) false r (fun _ => rfl)
        exact ⟨[40] :: [32] :: l', by simp [e1], .brack b l l' e2⟩
      · rw [odd_plain p c _ r h32 (hdg p) h40]
        obtain ⟨l', e1, e2⟩ := ih (some c) (hLD [c]) r (fun _ => hl)
        exact ⟨[c] :: l', by simp [e1], .keep b [c] l l' e2⟩
    · have h32 : d ≠ 32 := by rintro rfl; revert hd; decide
      have h40 : d ≠ 40 := by rintro rfl; revert hd; decide
      have h44 : d ≠ 44 := by rintro rfl; revert hd; decide
      simp only [List.flatten_cons, List.cons_append, List.nil_append]
      have hs : signO p d l.flatten.head? = false := by
        unfold signO
        split
        · simp [h32]
        · rfl
      conv => enter [1, l', 1]; unfold oddB
      simp only [hs, Bool.false_and, if_false, Bool.false_eq_true, behO1, h32, h40, or_false, List.nil_append]
      obtain ⟨l', e1, e2⟩ := ih (some d) true (if digO p d = true then (nextB r 2).2 else r) (fun h => by simp at h; exact absurd h h44)
      split
      · exact ⟨[48, 48, d] :: l', by simp [e1], .num b d l l' hd e2⟩
      · refine ⟨[d] :: l', by simp [e1], .keep b [d] l l' ?_⟩
        rw [show hLD [d] = true by simp [hLD, headD, hd]]
        exact e2
    · obtain ⟨c, hc, he⟩ := odd_letters x l.flatten r p h1 h0
      simp only [List.flatten_cons]
      rw [he]
      obtain ⟨l', e1, e2⟩ := ih (some c) (hLD x) r (fun h => by simp at h; exact absurd h (letter_facts hc).2.2.1)
      exact ⟨x :: l', by simp [e1], .keep b x l l' e2⟩
    · have h44 : d ≠ 44 := by rintro rfl; revert hd; decide
      have h32 : d ≠ 32 := by rintro rfl; revert hd; decide
      have h40 : d ≠ 40 := by rintro rfl; revert hd; decide
      simp only [List.flatten_cons, List.cons_append, List.nil_append]
      rw [odd_plain p 102 _ r (by decide) ((letter_facts (c := 102) (by decide)).2.2.2 p) (by decide), odd_plain (some 102) d _ r h32 (by simp [digO]) h40]
      obtain ⟨l', e1, e2⟩ := ih (some d) (hLD [102, d]) r (fun h => by simp at h; exact absurd h h44)
      exact ⟨[102, d] :: l', by simp [e1], .keep b [102, d] l l' e2⟩

/-- What a text of known making, and one with blanks and noughts more or less, is read as. -/
theorem odd_reads {s : By} {m : Nat} (h : RI 1 s m) (r : By) : ∃ p, txt p = s ∧ opn p ≤ m ∧ MF p ∧
    (∀ f k, s.length ≤ f → ∃ ts, toks f s k = (ts, none) ∧ Der ts 1 0 ts.length p) ∧
    (∀ f k, (oddB none s r).1.length + 1 ≤ f → ∃ ts, toks f (32 :: (oddB none s r).1) k = (ts, none) ∧ Der ts 1 0 ts.length p) := by
  obtain ⟨its, p, rfl, hg, ho, hD, ht, hop, hm⟩ := h
  have hok := ho [] (Or.inl rfl)
  have like : ∀ (l' : List By) (k : Nat), Pw (tks its) (tks l') → Der (tokI l' k) 1 0 (tokI l' k).length p := by
    intro l' k hw
    have hlen : (tokI l' k).length = (tks its).length := by
      rw [hw.len, ← tokI_fst l' k, List.length_map]
    rw [hlen]
    have := hD.like (ts' := tokI l' k) 0 (fun i _ _ => ?_) (by omega)
    · exact this
    · rw [tAt_z0, tAt_fst, tokI_fst]
      exact hw.get i
  refine ⟨p, ht, hop, hm, fun f k hf => ⟨_, toks_items its f k hok hf, like its k ?_⟩, fun f k hf => ?_⟩
  · generalize tks its = T
    induction T with
    | nil => exact .nil
    | cons t T ih => exact .cons _ _ _ _ (Or.inl rfl) ih
  · obtain ⟨l', e1, e2⟩ := odd_items its hg none false r (fun h => by cases h)
    obtain ⟨o1, _, o3⟩ := e2.ok hg hok
    rw [e1] at hf ⊢
    obtain ⟨f, rfl⟩ : ∃ g, f = g + 1 := ⟨f - 1, by omega⟩
    rw [toks_sp]
    exact ⟨_, toks_items l' f (k + 1) o1 (by omega), like l' (k + 1) o3⟩
end Go.Proofs.YtihgojcfpnhelaaGreatDoor
