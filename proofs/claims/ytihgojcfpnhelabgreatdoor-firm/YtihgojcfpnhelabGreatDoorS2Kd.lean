import Derived.Test.YtihgojcfpnhelabGreatDoorS2X
set_option maxRecDepth 100000
set_option maxHeartbeats 4000000
set_option linter.unusedVariables false
set_option linter.unusedSimpArgs false
namespace Go.Proofs.YtihgojcfpnhelabGreatDoor
open Go.RowKit
section
section
variable {ts : List (By × Nat)}
def Fo (ts : List (By × Nat)) (n j : Nat) : Prop := ∀ m, n ≤ m → m ≤ 5 → inB (tAt ts j) (sgn m) = false
theorem Fo.up {n j : Nat} (h : Fo ts n j) : Fo ts (n + 1) j := fun m h1 h5 => h m (by omega) h5
theorem sgn_apart (n m : Nat) (h1 : 1 ≤ n) (h2 : n < m) (h5 : m ≤ 5) (t : By) (h : inB t (sgn n) = true) : inB t (sgn m) = false := by
 have hn : n = 1 ∨ n = 2 ∨ n = 3 ∨ n = 4 := by omega
 have hm : m = 2 ∨ m = 3 ∨ m = 4 ∨ m = 5 := by omega
 simp only [inB, List.contains_iff_mem] at h
 rcases hn with rfl | rfl | rfl | rfl <;> simp only [sgn, List.mem_cons, List.not_mem_nil, or_false] at h <;> rcases hm with rfl | rfl | rfl | rfl <;> first | (exfalso; omega) | (subst h; decide) | (rcases h with rfl | rfl <;> decide)
theorem Fo.sgn {n j : Nat} (h : inB (tAt ts j) (sgn n) = true) (h1 : 1 ≤ n) : Fo ts (n + 1) j := fun m h2 h5 => sgn_apart n m h1 (by omega) h5 _ h
theorem fo_of {j : Nat} (x : By) (n : Nat) (hn : 1 ≤ n) (h : tAt ts j = x) (hx : inB x (Go.Proofs.YtihgojcfpnhelabGreatDoor.sgn 1) = false ∧ inB x (Go.Proofs.YtihgojcfpnhelabGreatDoor.sgn 2) = false ∧ inB x (Go.Proofs.YtihgojcfpnhelabGreatDoor.sgn 3) = false ∧ inB x (Go.Proofs.YtihgojcfpnhelabGreatDoor.sgn 4) = false ∧ inB x (Go.Proofs.YtihgojcfpnhelabGreatDoor.sgn 5) = false) : Fo ts n j := by
 intro m h1 h5
 rw [h]
 obtain ⟨a1, a2, a3, a4, a5⟩ := hx
 rcases (show m = 1 ∨ m = 2 ∨ m = 3 ∨ m = 4 ∨ m = 5 by omega) with rfl | rfl | rfl | rfl | rfl <;> assumption
theorem cls_uniq (t : By) (k k' : Nat) (h : Cls t k) (h' : Cls t k') : k = k' := by
 have hx : ∀ y, y ∈ meanN → headD y.1 = false ∧ nameB y.1 = false ∧ y.1 ≠ [] := by decide
 rcases h with ⟨h, rfl⟩ | ⟨h0, h, rfl⟩ | ⟨rfl, rfl⟩ | h
 ·rcases h' with ⟨_, rfl⟩ | ⟨g, _, rfl⟩ | ⟨rfl, rfl⟩ | g
  ·rfl
  ·rw [h] at g; cases g
  ·cases h
  ·have := (hx _ g).1; rw [h] at this; cases this
 ·rcases h' with ⟨g, rfl⟩ | ⟨_, _, rfl⟩ | ⟨rfl, rfl⟩ | g
  ·rw [h0] at g; cases g
  ·rfl
  ·cases h
  ·have := (hx _ g).2.1; rw [h] at this; cases this
 ·rcases h' with ⟨g, rfl⟩ | ⟨_, g, rfl⟩ | ⟨_, rfl⟩ | g
  ·cases g
  ·cases g
  ·rfl
  ·exact absurd rfl (hx _ g).2.2
 ·exact ((cls_word t k h t k' h').2 rfl).symm
inductive Ch (ts : List (By × Nat)) (n : Nat) : Nat → Pt → Nat → Pt → Prop
 | nil (j : Nat) (a : Pt) : Ch ts n j a j a
 | cons (j j1 j2 k : Nat) (a b p : Pt) : inB (tAt ts j) (sgn n) = true → Cls (tAt ts j) k → Der ts (n + 1) (j + 1) j1 b → Ch ts n j1 (.bin k a b) j2 p → Ch ts n j a j2 p
theorem Ch.snoc {n i j j' k : Nat} {a p b : Pt} (h : Ch ts n i a j p) (h1 : inB (tAt ts j) (Go.Proofs.YtihgojcfpnhelabGreatDoor.sgn n) = true) (h2 : Cls (tAt ts j) k) (h3 : Der ts (n + 1) (j + 1) j' b) : Ch ts n i a j' (.bin k p b) := by
 induction h with
 | nil j a => exact .cons _ _ _ _ _ _ _ h1 h2 h3 (.nil _ _)
 | cons j0 j1 j2 k0 a0 b0 p0 g1 g2 g3 _ ih => exact .cons _ _ _ _ _ _ _ g1 g2 g3 (ih h1 h2 h3)
theorem Ch.le {n i j : Nat} {a p : Pt} (h : Ch ts n i a j p) : i ≤ j := by
 induction h with
 | nil => exact Nat.le_refl _
 | cons j0 j1 j2 k0 a0 b0 p0 g1 g2 g3 _ ih => have := g3.lt; omega
theorem Der.level {n i j : Nat} {p : Pt} (h : Der ts n i j p) : 1 ≤ n ∧ n ≤ 6 := by
 cases h <;> omega
theorem Der.chain {n i j : Nat} {p : Pt} (h : Der ts n i j p) : n ≤ 5 → n ≠ 3 → ∃ j0 a0, Der ts (n + 1) i j0 a0 ∧ Ch ts n j0 a0 j p := by
 induction h with
 | atom => intro h; omega
 | nots => intro _ h; exact absurd rfl h
 | neg => intro h; omega
 | br => intro h; omega
 | ifs => intro h; omega
 | up n i j a h1 h5 h ih => intro _ _; exact ⟨j, a, h, .nil _ _⟩
 | more n i j j' k a b h1 h5 ha hs hc hb iha _ =>
  intro _ h3
  rw [if_neg h3] at iha
  obtain ⟨j0, a0, g1, g2⟩ := iha h5 h3
  exact ⟨j0, a0, g1, g2.snoc hs hc hb⟩
theorem Der.three {i j : Nat} {p : Pt} (h : Der ts 3 i j p) : (tAt ts i = [110, 111, 116] ∧ ∃ a, p = .un 6 a ∧ Der ts 3 (i + 1) j a) ∨ Der ts 4 i j p ∨ (∃ j0 k a b, p = .bin k a b ∧ Der ts 4 i j0 a ∧ inB (tAt ts j0) (Go.Proofs.YtihgojcfpnhelabGreatDoor.sgn 3) = true ∧ Cls (tAt ts j0) k ∧ Der ts 4 (j0 + 1) j b) := by
 cases h with
 | nots _ _ a h1 h2 => exact Or.inl ⟨h1, a, rfl, h2⟩
 | up _ _ _ _ _ _ h => exact Or.inr (Or.inl h)
 | more _ _ j0 _ k a b _ _ ha hs hc hb => exact Or.inr (Or.inr ⟨j0, k, a, b, rfl, ha, hs, hc, hb⟩)
theorem Der.sixC {i j : Nat} {p : Pt} (h : Der ts 6 i j p) : (∃ k, Cls (tAt ts i) k ∧ (k = 1 ∨ k = 2 ∨ k = 7 ∨ k = 8) ∧ j = i + 1 ∧ p = .atom k (nmB (tAt ts i)) (nuB (tAt ts i))) ∨ (tAt ts i = [45] ∧ ∃ a, p = .un 14 a ∧ Der ts 6 (i + 1) j a) ∨ (tAt ts i = [40] ∧ ∃ j0 a, j = j0 + 1 ∧ p = .un 9 a ∧ Der ts 1 (i + 1) j0 a ∧ tAt ts j0 = [41]) ∨
  (tAt ts i = [105, 102] ∧ ∃ j1 j2 j3 a b c, j = j3 + 1 ∧ p = .ifs a b c ∧ Der ts 1 (i + 1 + 1) j1 a ∧ tAt ts j1 = [44] ∧ Der ts 1 (j1 + 1) j2 b ∧ tAt ts j2 = [44] ∧ Der ts 1 (j2 + 1) j3 c ∧ tAt ts j3 = [41]) := by
 cases h with
 | atom _ k _ hc hk => exact Or.inl ⟨k, hc, hk, rfl, rfl⟩
 | neg _ _ a h1 h2 => exact Or.inr (Or.inl ⟨h1, a, rfl, h2⟩)
 | br _ j0 a h1 h2 h3 => exact Or.inr (Or.inr (Or.inl ⟨h1, j0, a, rfl, rfl, h2, h3⟩))
 | ifs _ j1 j2 j3 a b c h1 _ h3 h4 h5 h6 h7 h8 => exact Or.inr (Or.inr (Or.inr ⟨h1, j1, j2, j3, a, b, c, rfl, rfl, h3, h4, h5, h6, h7, h8⟩))
 | up _ _ _ _ _ h5 => omega
 | more _ _ _ _ _ _ _ _ h5 => omega
theorem Der.start {n i j : Nat} {p : Pt} (h : Der ts n i j p) : 4 ≤ n → tAt ts i ≠ [110, 111, 116] := by
 induction h with
 | atom i k _ hc hk => intro _ h; have := (cls_word _ 6 (by decide) _ k hc).2 h; omega
 | nots => intro h; omega
 | neg i j a h => intro _ g; rw [h] at g; cases g
 | br i j a h => intro _ g; rw [h] at g; cases g
 | ifs i j1 j2 j3 a b c h => intro _ g; rw [h] at g; cases g
 | up n i j a h1 h5 _ ih => intro h; exact ih (by omega)
 | more n i j j' k a b h1 h5 _ _ _ _ ih _ => intro h; rw [if_neg (by omega)] at ih; exact ih h
theorem Ch.uniq {n i J j : Nat} {a p : Pt} (hn : 1 ≤ n) (U : ∀ s e e' b b', i < s → e ≤ J → Der ts (n + 1) s e b → Der ts (n + 1) s e' b' → Fo ts (n + 1) e → Fo ts (n + 1) e' → e = e' ∧ b = b') {s : Nat} (h : Ch ts n s a j p) : i ≤ s → j ≤ J → ∀ {j' : Nat} {p' : Pt}, Ch ts n s a j' p' → Fo ts n j → Fo ts n j' → n ≤ 5 → j = j' ∧ p = p' := by
 induction h with
 | nil s a =>
  intro _ _ j' p' h' hf _ h5
  cases h' with
  | nil => exact ⟨rfl, rfl⟩
  | cons _ _ _ _ _ _ _ g1 => rw [hf n (Nat.le_refl _) h5] at g1; cases g1
 | cons s j1 j2 k a b p g1 g2 g3 g4 ih =>
  intro hi hJ j' p' h' hf hf' h5
  cases h' with
  | nil => rw [hf' n (Nat.le_refl _) h5] at g1; cases g1
  | cons _ j1' _ k' _ b' _ q1 q2 q3 q4 =>
   have f1 : Fo ts (n + 1) j1 := by
    cases g4 with
    | nil => exact hf.up
    | cons _ _ _ _ _ _ _ r1 => exact Fo.sgn r1 hn
   have f1' : Fo ts (n + 1) j1' := by
    cases q4 with
    | nil => exact hf'.up
    | cons _ _ _ _ _ _ _ r1 => exact Fo.sgn r1 hn
   have hle := g4.le
   have hlt := g3.lt
   obtain ⟨rfl, rfl⟩ := U _ _ _ _ _ (by omega) (by omega) g3 q3 f1 f1'
   obtain rfl := cls_uniq _ _ _ g2 q2
   exact ih (by omega) hJ q4 hf hf' h5
theorem Ch.head {n i j : Nat} {a p : Pt} (h : Ch ts n i a j p) (hn : 1 ≤ n) (hf : Fo ts n j) : Fo ts (n + 1) i := by
 cases h with
 | nil => exact hf.up
 | cons _ _ _ _ _ _ _ r1 => exact Fo.sgn r1 hn
theorem Der.uniqM : ∀ (M n i j : Nat) (p : Pt) (j' : Nat) (p' : Pt), (j - i) * 8 + (7 - n) ≤ M → Der ts n i j p → Der ts n i j' p' → Fo ts n j → Fo ts n j' → j = j' ∧ p = p'
 | 0, n, i, j, p, j', p', hM, h, _, _, _ => by have := h.level; have := h.lt; omega
 | M + 1, n, i, j, p, j', p', hM, h, h', hf, hf' => by
  have ih := Der.uniqM M
  have hlv := h.level
  have hlt := h.lt
  by_cases h6 : n = 6
  ·subst h6
   rcases h.sixC with ⟨k, hc, hk, rfl, rfl⟩ | ⟨ht, a, rfl, ha⟩ | ⟨ht, j0, a, rfl, rfl, ha, he⟩ | ⟨ht, j1, j2, j3, a, b, c, rfl, rfl, ha, e1, hb, e2, hc, e3⟩
   ·have n1 := cls_word [45] 13 (by decide) _ k hc
    have n2 := cls_word [40] 9 (by decide) _ k hc
    have n3 := cls_word [105, 102] 3 (by decide) _ k hc
    rcases h'.sixC with ⟨k', hc', hk', rfl, rfl⟩ | ⟨ht', _⟩ | ⟨ht', _⟩ | ⟨ht', _⟩
    ·obtain rfl := cls_uniq _ _ _ hc hc'
     exact ⟨rfl, rfl⟩
    ·have := n1.2 ht'; omega
    ·have := n2.2 ht'; omega
    ·have := n3.2 ht'; omega
   ·rcases h'.sixC with ⟨k', hc', hk', rfl, rfl⟩ | ⟨ht', a', rfl, ha'⟩ | ⟨ht', _⟩ | ⟨ht', _⟩
    ·have := (cls_word [45] 13 (by decide) _ k' hc').2 ht; omega
    ·have := ha.lt
     obtain ⟨rfl, rfl⟩ := ih 6 (i + 1) j a j' a' (by omega) ha ha' hf hf'
     exact ⟨rfl, rfl⟩
    ·rw [ht] at ht'; cases ht'
    ·rw [ht] at ht'; cases ht'
   ·rcases h'.sixC with ⟨k', hc', hk', rfl, rfl⟩ | ⟨ht', _⟩ | ⟨ht', j0', a', rfl, rfl, ha', he'⟩ | ⟨ht', _⟩
    ·have := (cls_word [40] 9 (by decide) _ k' hc').2 ht; omega
    ·rw [ht] at ht'; cases ht'
    ·have := ha.lt
     obtain ⟨rfl, rfl⟩ := ih 1 (i + 1) j0 a j0' a' (by omega) ha ha' (fo_of _ 1 (Nat.le_refl _) he (by decide)) (fo_of _ 1 (Nat.le_refl _) he' (by decide))
     exact ⟨rfl, rfl⟩
    ·rw [ht] at ht'; cases ht'
   ·rcases h'.sixC with ⟨k', hc', hk', rfl, rfl⟩ | ⟨ht', _⟩ | ⟨ht', _⟩ | ⟨ht', j1', j2', j3', a', b', c', rfl, rfl, ha', e1', hb', e2', hc', e3'⟩
    ·have := (cls_word [105, 102] 3 (by decide) _ k' hc').2 ht; omega
    ·rw [ht] at ht'; cases ht'
    ·rw [ht] at ht'; cases ht'
    ·have := ha.lt
     have := hb.lt
     have := hc.lt
     obtain ⟨rfl, rfl⟩ := ih 1 _ _ _ _ _ (by omega) ha ha' (fo_of _ 1 (Nat.le_refl _) e1 (by decide)) (fo_of _ 1 (Nat.le_refl _) e1' (by decide))
     obtain ⟨rfl, rfl⟩ := ih 1 _ _ _ _ _ (by omega) hb hb' (fo_of _ 1 (Nat.le_refl _) e2 (by decide)) (fo_of _ 1 (Nat.le_refl _) e2' (by decide))
     obtain ⟨rfl, rfl⟩ := ih 1 _ _ _ _ _ (by omega) hc hc' (fo_of _ 1 (Nat.le_refl _) e3 (by decide)) (fo_of _ 1 (Nat.le_refl _) e3' (by decide))
     exact ⟨rfl, rfl⟩
  ·by_cases h3 : n = 3
   ·subst h3
    rcases h.three with ⟨ht, a, rfl, ha⟩ | ha | ⟨j0, k, a, b, rfl, ha, hs, hc, hb⟩
    ·rcases h'.three with ⟨ht', a', rfl, ha'⟩ | ha' | ⟨j0', k', a', b', rfl, ha', _⟩
     ·have := ha.lt
      obtain ⟨rfl, rfl⟩ := ih 3 (i + 1) j a j' a' (by omega) ha ha' hf hf'
      exact ⟨rfl, rfl⟩
     ·exact absurd ht (ha'.start (by omega))
     ·exact absurd ht (ha'.start (by omega))
    ·rcases h'.three with ⟨ht', a', rfl, ha'⟩ | ha' | ⟨j0', k', a', b', rfl, ha', hs', hc', hb'⟩
     ·exact absurd ht' (ha.start (by omega))
     ·exact ih 4 i j p j' p' (by omega) ha ha' hf.up hf'.up
     ·obtain ⟨rfl, rfl⟩ := ih 4 i j p j0' a' (by omega) ha ha' hf.up (Fo.sgn hs' (by omega))
      rw [hf 3 (by omega) (by omega)] at hs'
      cases hs'
    ·have h1 := ha.lt
     have h2 := hb.lt
     rcases h'.three with ⟨ht', a', rfl, ha'⟩ | ha' | ⟨j0', k', a', b', rfl, ha', hs', hc', hb'⟩
     ·exact absurd ht' (ha.start (by omega))
     ·obtain ⟨rfl, rfl⟩ := ih 4 i j0 a j' p' (by omega) ha ha' (Fo.sgn hs (by omega)) hf'.up
      rw [hf' 3 (by omega) (by omega)] at hs
      cases hs
     ·obtain ⟨rfl, rfl⟩ := ih 4 i j0 a j0' a' (by omega) ha ha' (Fo.sgn hs (by omega)) (Fo.sgn hs' (by omega))
      obtain ⟨rfl, rfl⟩ := ih 4 (j0 + 1) j b j' b' (by omega) hb hb' hf.up hf'.up
      obtain rfl := cls_uniq _ _ _ hc hc'
      exact ⟨rfl, rfl⟩
   ·obtain ⟨j0, a0, g1, g2⟩ := h.chain (by omega) h3
    obtain ⟨j0', a0', g1', g2'⟩ := h'.chain (by omega) h3
    have h1 := g1.lt
    have h2 := g2.le
    obtain ⟨rfl, rfl⟩ := ih (n + 1) i j0 a0 j0' a0' (by omega) g1 g1' (g2.head hlv.1 hf) (g2'.head hlv.1 hf')
    exact g2.uniq (i := i) (J := j) hlv.1 (fun s e e' b b' hs he hb hb' f f' => ih (n + 1) s e b e' b' (by have := hb.lt; omega) hb hb' f f') (by omega) (Nat.le_refl _) g2' hf hf' (by omega)
theorem Der.uniq {p p' : Pt} (h : Der ts 1 0 ts.length p) (h' : Der ts 1 0 ts.length p') : p = p' := by
 have hf : Fo ts 1 ts.length := fo_of [] 1 (Nat.le_refl _) (tAt_ge ts _ (Nat.le_refl _)) (by decide)
 exact (Der.uniqM _ 1 0 _ p _ p' (Nat.le_refl _) h h' hf hf).2
end
end
section
def opn : Pt → Nat
 | .atom _ _ _ => 0
 | .un _ a => opn a + 1
 | .bin _ a b => max (opn a) (opn b)
 | .ifs a b c => max (opn a) (max (opn b) (opn c)) + 1
theorem runB_mono (len : Nat) : ∀ (n : Nat) (K : List By) (ts : List (By × Nat)) (x : Int × Nat), runB len n K ts = some x → ∀ k, runB len (n + k) K ts = some x
 | 0, K, ts, x, h, k => by simp [runB] at h
 | n + 1, [], ts, x, h, k => by
  rw [show n + 1 + k = (n + k) + 1 by omega]
  simp only [runB] at h ⊢
  exact h
 | n + 1, s :: K, ts, x, h, k => by
  rw [show n + 1 + k = (n + k) + 1 by omega]
  obtain ⟨t, p, htp⟩ : ∃ t p, (ts = [] ∧ t = [] ∧ p = len) ∨ ∃ r, ts = (t, p) :: r := by
   match ts with
   | [] => exact ⟨[], len, Or.inl ⟨rfl, rfl, rfl⟩⟩
   | (t, p) :: r => exact ⟨t, p, Or.inr ⟨r, rfl⟩⟩
  rw [runB_step len n s K ts t p htp] at h
  rw [runB_step len (n + k) s K ts t p htp]
  by_cases h1 : s = wDeep
  ·rw [if_pos h1] at h ⊢
   exact h
  ·rw [if_neg h1] at h ⊢
   cases hb : becomesB s t with
   | some m =>
    rw [hb] at h
    exact runB_mono len n _ _ x h k
   | none =>
    rw [hb] at h
    simp only at h ⊢
    generalize hq : (if s = wName then nameB t else decide (t ≠ []) && decide (s = t)) = q at h ⊢
    cases q with
    | true => exact runB_mono len n _ _ x h k
    | false => exact h
theorem runB_same {len n n' : Nat} {K : List By} {ts : List (By × Nat)} {x x' : Int × Nat} (h : runB len n K ts = some x) (h' : runB len n' K ts = some x') : x = x' := by
 have h1 := runB_mono len n K ts x h n'
 have h2 := runB_mono len n' K ts x' h' n
 rw [Nat.add_comm] at h2
 rw [h1] at h2
 exact Option.some.inj h2
section
variable {len : Nat} {ts : List (By × Nat)}
theorem bec_atom (t : By) (k o : Nat) (hc : Cls t k) (hk : k = 1 ∨ k = 2 ∨ k = 7 ∨ k = 8) : becB 65 o t = [t] := by
 have hne : t ≠ [] := by
  rintro rfl
  have := cls_uniq [] k 0 hc (Or.inr (Or.inr (Or.inl ⟨rfl, rfl⟩)))
  omega
 have hmn : ∀ y, y ∈ meanN → y.2 ≠ 1 ∧ y.2 ≠ 2 := by decide
 have h1 : (headD t || t = [116, 114, 117, 101] || t = [102, 97, 108, 115, 101] || nameB t) = true := by
  rcases hk with rfl | rfl | rfl | rfl
  ·rcases hc with ⟨h, _⟩ | ⟨_, _, h⟩ | ⟨_, h⟩ | h
   ·simp [h]
   ·omega
   ·omega
   ·exact absurd rfl (hmn _ h).1
  ·rcases hc with ⟨_, h⟩ | ⟨_, h, _⟩ | ⟨_, h⟩ | h
   ·omega
   ·simp [h]
   ·omega
   ·exact absurd rfl (hmn _ h).2
  ·simp [(cls_word [116, 114, 117, 101] 7 (by decide) t 7 hc).1 rfl]
  ·simp [(cls_word [102, 97, 108, 115, 101] 8 (by decide) t 8 hc).1 rfl]
 show atomB t o = [t]
 unfold atomB
 rw [if_neg hne, if_pos h1]
theorem Ch.opLe {n i j : Nat} {a p : Pt} (h : Ch ts n i a j p) : opn a ≤ opn p := by
 induction h with
 | nil => exact Nat.le_refl _
 | cons j j1 j2 k a b p _ _ _ _ ih => simp only [opn] at ih; omega
theorem Ch.go (hok : OkT ts) {n i J o : Nat} (h1 : 1 ≤ n) (h5 : n ≤ 5) (h3 : n ≠ 3) (ho : o ≤ 6) (U : ∀ s e b, i < s → e ≤ J → Der ts (n + 1) s e b → opn b + o ≤ 6 → Fo ts (n + 1) e → ∃ m, Go1 len ts [symB (lv (n + 1)) o] s e m) {s j : Nat} {a p : Pt} (h : Ch ts n s a j p) : i ≤ s → j ≤ J → opn p + o ≤ 6 → Fo ts n j → ∃ m, Go1 len ts [symB (tl n) o] s j m := by
 induction h with
 | nil s a =>
  intro _ _ _ hf
  refine ⟨_, Go1.sym (by omega) ?_ (m := 0)⟩
  rw [bec_tl_stop n h1 h5 o _ (hf n (Nat.le_refl _) h5)]
  exact Go1.nil _
 | cons s j1 j2 k a b p g1 g2 g3 g4 ih =>
  intro hi hJ ho2 hf
  have hle := g4.le
  have hlt := g3.lt
  have hop := g4.opLe
  simp only [opn] at hop
  obtain ⟨m2, hm2⟩ := ih (by omega) hJ ho2 hf
  obtain ⟨m1, hm1⟩ := U (s + 1) j1 b (by omega) (by omega) g3 (by omega) (g4.head h1 hf)
  have hst : s < ts.length := by
   rcases Nat.lt_or_ge s ts.length with h | h
   ·exact h
   ·rw [tAt_ge ts s h] at g1
    exact absurd g1 (by rw [show inB [] (Go.Proofs.YtihgojcfpnhelabGreatDoor.sgn n) = false by rcases (show n = 1 ∨ n = 2 ∨ n = 4 ∨ n = 5 by omega) with rfl | rfl | rfl | rfl <;> decide]; simp)
  refine ⟨_, Go1.sym (by omega) ?_ (m := m1 + m2 + 1)⟩
  rw [bec_tl_go n h1 h5 o _ g1, if_neg h3]
  exact Go1.tok (hok.tk hst) rfl (hm1.trans hm2)
theorem tk_of (x : By) (h : ∃ c r, x = c :: r ∧ c ≠ 63 ∧ c ≠ 78) : Tk x := by
 obtain ⟨c, r, rfl, h63, h78⟩ := h
 exact ⟨c, r, rfl, h63, fun he => h78 (by unfold wName at he; simp at he; exact he.1)⟩
theorem Der.goM (hok : OkT ts) : ∀ (M n i j : Nat) (p : Pt) (o : Nat), (j - i) * 8 + (7 - n) ≤ M → Der ts n i j p → opn p + o ≤ 6 → Fo ts n j → ∃ m, Go1 len ts [symB (lv n) o] i j m
 | 0, n, i, j, p, o, hM, h, _, _ => by have := h.level; have := h.lt; omega
 | M + 1, n, i, j, p, o, hM, h, ho, hf => by
  have ih := Der.goM hok M
  have hlv := h.level
  have hlt := h.lt
  by_cases h6 : n = 6
  ·subst h6
   rcases h.sixC with ⟨k, hc, hk, rfl, rfl⟩ | ⟨ht, a, rfl, ha⟩ | ⟨ht, j0, a, rfl, rfl, ha, he⟩ | ⟨ht, j1, j2, j3, a, b, c, rfl, rfl, ha, e1, hb, e2, hc, e3⟩
   ·refine ⟨_, Go1.sym (by omega) ?_ (m := 1)⟩
    rw [show lv 6 = 65 from rfl, bec_atom _ k o hc hk]
    have hi : i < ts.length := by
     rcases Nat.lt_or_ge i ts.length with h | h
     ·exact h
     ·rw [tAt_ge ts i h] at hc
      have := cls_uniq [] k 0 hc (Or.inr (Or.inr (Or.inl ⟨rfl, rfl⟩)))
      omega
    exact Go1.tok (hok.tk hi) rfl (Go1.nil _)
   ·simp only [opn] at ho
    have := ha.lt
    obtain ⟨m, hm⟩ := ih 6 (i + 1) j a (o + 1) (by omega) ha (by omega) hf
    refine ⟨_, Go1.sym (by omega) ?_ (m := m + 1)⟩
    rw [bec_ahead_go 6 _ o (Or.inr ⟨rfl, ht⟩) (by omega), ht]
    exact Go1.tok (tk_of _ ⟨45, [], rfl, by decide, by decide⟩) ht hm
   ·simp only [opn] at ho
    have := ha.lt
    obtain ⟨m, hm⟩ := ih 1 (i + 1) j0 a (o + 1) (by omega) ha (by omega) (fo_of _ 1 (Nat.le_refl _) he (by decide))
    refine ⟨_, Go1.sym (by omega) ?_ (m := m + 1 + 1)⟩
    have e0 : becB (lv 6) o (tAt ts i) = [40] :: ([symB 82 (o + 1)] ++ [[41]]) := by
     rw [ht]
     show atomB [40] o = _
     unfold atomB deepB
     rw [if_neg (by decide), if_neg (by decide), if_neg (by decide), if_pos rfl, if_neg (by omega)]
     rfl
    rw [e0]
    exact Go1.tok (tk_of _ ⟨40, [], rfl, by decide, by decide⟩) ht (hm.trans (Go1.tok (tk_of _ ⟨41, [], rfl, by decide, by decide⟩) he (Go1.nil _)))
   ·simp only [opn] at ho
    have := ha.lt
    have := hb.lt
    have := hc.lt
    have ht2 : tAt ts (i + 1) = [40] := by
     cases h with
     | ifs _ _ _ _ _ _ _ _ h2 => exact h2
     | up _ _ _ _ _ h5 => omega
    obtain ⟨ma, hma⟩ := ih 1 _ _ a (o + 1) (by omega) ha (by omega) (fo_of _ 1 (Nat.le_refl _) e1 (by decide))
    obtain ⟨mb, hmb⟩ := ih 1 _ _ b (o + 1) (by omega) hb (by omega) (fo_of _ 1 (Nat.le_refl _) e2 (by decide))
    obtain ⟨mc, hmc⟩ := ih 1 _ _ c (o + 1) (by omega) hc (by omega) (fo_of _ 1 (Nat.le_refl _) e3 (by decide))
    have e0 : becB (lv 6) o (tAt ts i) = [105, 102] :: [40] :: ([symB 82 (o + 1)] ++ ([44] :: ([symB 82 (o + 1)] ++ ([44] :: ([symB 82 (o + 1)] ++ [[41]]))))) := by
     rw [ht]
     show atomB [105, 102] o = _
     unfold atomB
     rw [if_neg (by decide), if_neg (by decide), if_neg (by decide), if_neg (by decide), if_neg (by simp; omega), if_pos rfl]
     rfl
    have tc := tk_of [44] ⟨44, [], rfl, by decide, by decide⟩
    refine ⟨_, Go1.sym (by omega) (by
     rw [e0]
     exact Go1.tok (tk_of _ ⟨105, [102], rfl, by decide, by decide⟩) ht (Go1.tok (tk_of _ ⟨40, [], rfl, by decide, by decide⟩) ht2 (hma.trans (Go1.tok tc e1 (hmb.trans (Go1.tok tc e2 (hmc.trans (Go1.tok (tk_of _ ⟨41, [], rfl, by decide, by decide⟩) e3 (Go1.nil _)))))))))⟩
  ·by_cases h3 : n = 3
   ·subst h3
    rcases h.three with ⟨ht, a, rfl, ha⟩ | ha | ⟨j0, k, a, b, rfl, ha, hs, hc, hb⟩
    ·simp only [opn] at ho
     have := ha.lt
     obtain ⟨m, hm⟩ := ih 3 (i + 1) j a (o + 1) (by omega) ha (by omega) hf
     refine ⟨_, Go1.sym (by omega) ?_ (m := m + 1)⟩
     rw [bec_ahead_go 3 _ o (Or.inl ⟨rfl, ht⟩) (by omega), ht]
     exact Go1.tok (tk_of _ ⟨110, [111, 116], rfl, by decide, by decide⟩) ht hm
    ·obtain ⟨m, hm⟩ := ih 4 i j p o (by omega) ha ho hf.up
     refine ⟨_, Go1.sym (by omega) ?_ (m := m + (0 + 1))⟩
     rw [bec_lv 3 (by omega) (by omega) o _ (fun _ => ha.start (by omega))]
     refine hm.trans (Go1.sym (by omega) ?_)
     rw [bec_tl_stop 3 (by omega) (by omega) o _ (hf 3 (Nat.le_refl _) (by omega))]
     exact Go1.nil _
    ·simp only [opn] at ho
     have := ha.lt
     have := hb.lt
     obtain ⟨m, hm⟩ := ih 4 i j0 a o (by omega) ha (by omega) (Fo.sgn hs (by omega))
     obtain ⟨m', hm'⟩ := ih 4 (j0 + 1) j b o (by omega) hb (by omega) hf.up
     have hst : j0 < ts.length := by
      rcases Nat.lt_or_ge j0 ts.length with h | h
      ·exact h
      ·rw [tAt_ge ts j0 h] at hs
       exact absurd hs (by decide)
     refine ⟨_, Go1.sym (by omega) ?_ (m := m + (m' + 1 + 1))⟩
     rw [bec_lv 3 (by omega) (by omega) o _ (fun _ => ha.start (by omega))]
     refine hm.trans (Go1.sym (by omega) ?_)
     rw [bec_tl_go 3 (by omega) (by omega) o _ hs, if_pos rfl]
     exact Go1.tok (hok.tk hst) rfl hm'
   ·obtain ⟨j0, a0, g1, g2⟩ := h.chain (by omega) h3
    have h1 := g1.lt
    have h2 := g2.le
    have hop := g2.opLe
    obtain ⟨m, hm⟩ := ih (n + 1) i j0 a0 o (by omega) g1 (by omega) (g2.head hlv.1 hf)
    obtain ⟨m', hm'⟩ := g2.go (len := len) (i := i) (J := j) hok hlv.1 (by omega) h3 (by omega) (fun s e b hs he hb hob hfo => ih (n + 1) s e b o (by have := hb.lt; omega) hb hob hfo) (by omega) (Nat.le_refl _) ho hf
    refine ⟨_, Go1.sym (by omega) ?_ (m := m + m')⟩
    rw [bec_lv n hlv.1 (by omega) o _ (fun h => absurd h h3)]
    exact hm.trans hm'
theorem Der.run (hok : OkT ts) {p : Pt} (h : Der ts 1 0 ts.length p) (hd : opn p ≤ 6) {n0 : Nat} {er : Int} {q : Nat} (hr : runB len n0 [symB 82 0] ts = some (er, q)) : er = 0 ∧ q = 0 := by
 have hf : Fo ts 1 ts.length := fo_of [] 1 (Nat.le_refl _) (tAt_ge ts _ (Nat.le_refl _)) (by decide)
 obtain ⟨m, hm⟩ := Der.goM (len := len) hok _ 1 0 _ p 0 (Nat.le_refl _) h (by omega) hf
 have h1 := hm [] 1
 rw [List.drop_zero, List.drop_length] at h1
 have h2 : runB len (m + 1) [symB 82 0] ts = some (0, 0) := h1
 have := runB_same hr h2
 simp only [Prod.mk.injEq] at this
 exact this
end
end
section
theorem toks_sp (f : Nat) (rest : By) (k : Nat) : toks (f + 1) (32 :: rest) k = toks f rest (k + 1) := by
 conv => lhs; unfold toks
 rw [if_pos rfl]
theorem toks_nil (f k : Nat) : toks f [] k = ([], none) := by cases f <;> rfl
theorem toks_to (f : Nat) (c : UInt8) (r rest : By) (k : Nat) (hc : c ≠ 32) (hlen : rowLen (c :: r ++ rest) = (c :: r).length) (hok : tokOK (c :: r) = true) :
  toks (f + 1) (c :: r ++ rest) k = ((c :: r, k) :: (toks f rest (k + (c :: r).length)).1, (toks f rest (k + (c :: r).length)).2) := by
 have e1 : (c :: r ++ rest).take (rowLen (c :: r ++ rest)) = c :: r := by rw [hlen, List.take_left']; rfl
 have e2 : (c :: r ++ rest).drop (rowLen (c :: r ++ rest)) = rest := by rw [hlen, List.drop_left']; rfl
 conv => lhs; unfold toks
 simp only [List.cons_append] at e1 e2 hlen ⊢
 rw [if_neg hc, e1, if_pos hok, e2, hlen]
theorem Der.ups {ts : List (By × Nat)} {i j : Nat} {p : Pt} (m n : Nat) (h : Der ts (n + m) i j p) (h1 : 1 ≤ n) (h6 : n + m ≤ 6) : Der ts n i j p := by
 induction m with
 | zero => exact h
 | succ m ih => exact ih (.up _ _ _ _ (by omega) (by omega) h) (by omega)
theorem Der.at6 {ts : List (By × Nat)} {i j : Nat} {p : Pt} (h : Der ts 6 i j p) (n : Nat) (h1 : 1 ≤ n) (h6 : n ≤ 6) : Der ts n i j p := by
 have : n + (6 - n) = 6 := by omega
 exact Der.ups (6 - n) n (by rw [this]; exact h) h1 (by omega)
end
section
def mentP (x : By) : Pt → Bool
 | .atom k nm _ => (k == 2 && nm == x) || [].any id
 | .un k a => (k == 2 && ([] : By) == x) || [mentP x a].any id
 | .bin k a b => (k == 2 && ([] : By) == x) || [mentP x a, mentP x b].any id
 | .ifs a b c => ((3 : Nat) == 2 && ([] : By) == x) || [mentP x a, mentP x b, mentP x c].any id
theorem mentP_eq (x : By) (p : Pt) : mentP x p = ((p.k == 2 && p.nm == x) || (p.kids.map (mentP x)).any id) := by
 cases p <;> rfl
def KidsAt (w : World) (a : Option Addr) (n : Nat) (q : Nat → Pt) (A : Nat → Option Addr) (L C : Nat → Nat) : Prop :=
 ∀ j, j < n → ∃ g, a = some ⟨g, 0, none⟩ ∧ g < w.heap.size ∧ w.cell? ⟨g, j * 4, none⟩ = some (.int .i64 ((q j).k : Int)) ∧ w.cell? ⟨g, j * 4 + 1, none⟩ = some (.string ⟨((q j).nm).toArray⟩) ∧ w.cell? ⟨g, j * 4 + 2, none⟩ = some (.int .i64 ((q j).n : Int)) ∧ w.cell? ⟨g, j * 4 + 3, none⟩ = some (.slice (A j) (L j) (C j))
theorem KidsAt.next {w w' : World} {a : Option Addr} {n : Nat} {q : Nat → Pt} {A : Nat → Option Addr} {L C : Nat → Nat} (h : KidsAt w a n q A L C) (hb : Below w.heap.size w w') : KidsAt w' a n q A L C := fun j hj => by
 obtain ⟨g, h1, h2, c0, c1, c2, c3⟩ := h j hj
 exact ⟨g, h1, Nat.lt_of_lt_of_le h2 hb.size, (hb.cell (p := ⟨g, j * 4, none⟩) h2).trans c0, (hb.cell (p := ⟨g, j * 4 + 1, none⟩) h2).trans c1, (hb.cell (p := ⟨g, j * 4 + 2, none⟩) h2).trans c2, (hb.cell (p := ⟨g, j * 4 + 3, none⟩) h2).trans c3⟩
end
section
def noLD (s : By) : Prop := s = [] ∨ ∃ c r, s = c :: r ∧ isLD c = false
def hLD (x : By) : Bool := headL x || headD x
def TI (x : By) : Prop := ∃ c r, x = c :: r ∧ c ≠ 32 ∧ tokOK x = true ∧ (isL c = true → ∀ y, y ∈ r → isLD y = true) ∧ (isL c = false → isD c = true → ∀ y, y ∈ r → isD y = true) ∧ (isL c = false → isD c = false → r = [])
def OkI : List By → By → Prop
 | [], _ => True
 | x :: l, rest => (x = [32] ∨ (TI x ∧ (hLD x = true → noLD (l.flatten ++ rest)))) ∧ OkI l rest
def tokI : List By → Nat → List (By × Nat)
 | [], _ => []
 | x :: l, k => if x = [32] then tokI l (k + 1) else (x, k) :: tokI l (k + x.length)
def tks (l : List By) : List By := l.filter fun x => x ≠ [32]
theorem tokI_fst (l : List By) : ∀ k, (tokI l k).map Prod.fst = tks l := by
 induction l with
 | nil => intro k; rfl
 | cons x l ih =>
  intro k
  by_cases h : x = [32]
  ·simp only [tokI, h, if_true, ih, tks]
   simp
  ·simp only [tokI, h, if_false, List.map_cons, ih, tks]
   simp [h]
theorem tw_app {p : UInt8 → Bool} : ∀ (r rest : By), (∀ y, y ∈ r → p y = true) → (rest = [] ∨ ∃ c t, rest = c :: t ∧ p c = false) → (r ++ rest).takeWhile p = r
 | [], rest, _, h => by
  rcases h with rfl | ⟨c, t, rfl, h⟩
  ·rfl
  ·simp [h]
 | y :: r, rest, hr, h => by
  rw [List.cons_append, List.takeWhile_cons, hr y (by simp)]
  simp only [if_true]
  rw [tw_app r rest (fun z hz => hr z (by simp [hz])) h]
theorem isLD_L {c : UInt8} (h : isL c = true) : isLD c = true := by
 simp only [isL] at h
 simp [isLD, ldB, h]
theorem isLD_D {c : UInt8} (h : isD c = true) : isLD c = true := by
 simp only [isD] at h
 simp [isLD, ldB, h]
theorem rowLen_app (x rest : By) (h : TI x) (hr : hLD x = true → noLD rest) : rowLen (x ++ rest) = x.length := by
 obtain ⟨c, r, rfl, _, _, h1, h2, h3⟩ := h
 simp only [List.cons_append, rowLen]
 by_cases hL : isL c = true
 ·rw [if_pos hL, tw_app r rest (h1 hL)]
  ·simp; omega
  ·exact hr (by simp [hLD, headL, hL])
 ·have hL' : isL c = false := by simpa using hL
  rw [if_neg hL]
  by_cases hD : isD c = true
  ·rw [if_pos hD, tw_app r rest (h2 hL' hD)]
   ·simp; omega
   ·rcases hr (by simp [hLD, headD, hD]) with rfl | ⟨c', t, rfl, hc⟩
    ·exact Or.inl rfl
    ·refine Or.inr ⟨c', t, rfl, ?_⟩
     cases hh : isD c' with
     | false => rfl
     | true => rw [isLD_D hh] at hc; cases hc
  ·rw [if_neg hD, h3 hL' (by simpa using hD)]
   rfl
theorem toks_items : ∀ (l : List By) (f k : Nat), OkI l [] → l.flatten.length ≤ f → toks f l.flatten k = (tokI l k, none)
 | [], f, k, _, _ => by simp [tokI, toks_nil]
 | x :: l, f, k, ⟨h, hl⟩, hf => by
  simp only [List.flatten_cons, List.length_append] at hf ⊢
  by_cases hx : x = [32]
  ·subst hx
   obtain ⟨f, rfl⟩ : ∃ g, f = g + 1 := ⟨f - 1, by simp at hf; omega⟩
   rw [show [32] ++ l.flatten = 32 :: l.flatten from rfl, toks_sp, toks_items l f (k + 1) hl (by simp only [List.length_singleton] at hf; omega)]
   simp [tokI]
  ·rcases h with h | ⟨hT, hn⟩
   ·exact absurd h hx
   ·have hrl := rowLen_app x l.flatten hT (by simpa using hn)
    obtain ⟨c, r, rfl, hc, hok, _⟩ := hT
    obtain ⟨f, rfl⟩ : ∃ g, f = g + 1 := ⟨f - 1, by simp at hf; omega⟩
    rw [toks_to f c r l.flatten k hc hrl hok, toks_items l f _ hl (by simp only [List.length_cons] at hf; omega)]
    simp [tokI, hx]
theorem OkI.app : ∀ {l1 l2 : List By} {rest : By}, OkI l1 (l2.flatten ++ rest) → OkI l2 rest → OkI (l1 ++ l2) rest
 | [], _, _, _, h => h
 | x :: l1, l2, rest, ⟨h, h1⟩, h2 => by
  refine ⟨h.imp id fun ⟨a, b⟩ => ⟨a, fun c => ?_⟩, OkI.app h1 h2⟩
  have := b c
  simpa using this
def TE (t t' : By) : Prop := t' = t ∨ ∃ d, isD d = true ∧ t = [d] ∧ t' = [48, 48, d]
theorem TE.word {t t' x : By} (h : TE t t') (hx : headD x = false) (e : t = x) : t' = x := by
 rcases h with h | ⟨d, hd, h1, _⟩
 ·rw [h, e]
 ·rw [← e, h1] at hx
  simp [headD, hd] at hx
theorem TE.atom {t t' : By} (h : TE t t') : (∀ k, Cls t k → Cls t' k) ∧ nmB t' = nmB t ∧ nuB t' = nuB t := by
 rcases h with rfl | ⟨d, hd, rfl, rfl⟩
 ·exact ⟨fun k h => h, rfl, rfl⟩
 ·have h0 : headD [d] = true := by simp [headD, hd]
  have h1 : headD [48, 48, d] = true := by simp [headD]; decide
  refine ⟨fun k h => ?_, ?_, ?_⟩
  ·rcases h with ⟨_, h⟩ | ⟨h, _⟩ | ⟨h, _⟩ | h
   ·exact Or.inl ⟨h1, h⟩
   ·rw [h0] at h; cases h
   ·cases h
   ·exfalso
    simp only [meanN, List.mem_cons, List.not_mem_nil, or_false, Prod.mk.injEq] at h
    have : isD d = false := by
     rcases h with ⟨h, _⟩ | ⟨h, _⟩ | ⟨h, _⟩ | ⟨h, _⟩ | ⟨h, _⟩ | ⟨h, _⟩ | ⟨h, _⟩ | ⟨h, _⟩ | ⟨h, _⟩ | ⟨h, _⟩ | ⟨h, _⟩ | ⟨h, _⟩ | ⟨h, _⟩ | ⟨h, _⟩ | ⟨h, _⟩ | ⟨h, _⟩ <;> simp at h <;> subst h <;> decide
    rw [hd] at this
    cases this
  ·simp [nmB, h0, h1]
  ·simp [nuB, h0, h1, valD]
theorem sgn_noD (n : Nat) (t : By) (h : inB t (sgn n) = true) : headD t = false := by
 unfold sgn at h
 split at h <;> simp only [inB, List.contains_iff_mem, List.mem_cons, List.not_mem_nil, or_false] at h
 ·rw [h]; decide
 ·rw [h]; decide
 ·rcases h with h | h <;> rw [h] <;> decide
 ·rcases h with h | h <;> rw [h] <;> decide
 ·rcases h with h | h | h <;> rw [h] <;> decide
theorem Der.like {ts ts' : List (By × Nat)} {n i j : Nat} {p : Pt} (h : Der ts n i j p) : ∀ s, (∀ k, i ≤ k → k < j → TE (tAt ts k) (tAt ts' (k + s))) → j + s ≤ ts'.length → Der ts' n (i + s) (j + s) p := by
 induction h with
 | atom i k hi hc hk =>
  intro s hs hl
  obtain ⟨a1, a2, a3⟩ := (hs i (Nat.le_refl _) (by omega)).atom
  have := Der.atom (ts := ts') (i + s) k (by omega) (a1 k hc) hk
  rw [a2, a3] at this
  rw [show i + 1 + s = i + s + 1 by omega]
  exact this
 | nots i j a ht hD ih =>
  intro s hs hl
  have hlt := hD.lt
  refine .nots _ _ _ ((hs i (Nat.le_refl _) (by omega)).word (by decide) ht) ?_
  have := ih s (fun k h1 h2 => hs k (by omega) h2) hl
  rw [show i + s + 1 = i + 1 + s by omega]
  exact this
 | neg i j a ht hD ih =>
  intro s hs hl
  have hlt := hD.lt
  refine .neg _ _ _ ((hs i (Nat.le_refl _) (by omega)).word (by decide) ht) ?_
  have := ih s (fun k h1 h2 => hs k (by omega) h2) hl
  rw [show i + s + 1 = i + 1 + s by omega]
  exact this
 | br i j a ht hD ht' ih =>
  intro s hs hl
  have hlt := hD.lt
  rw [show j + 1 + s = j + s + 1 by omega]
  refine .br _ _ _ ((hs i (Nat.le_refl _) (by omega)).word (by decide) ht) ?_ ((hs j (by omega) (by omega)).word (by decide) ht')
  have := ih s (fun k h1 h2 => hs k (by omega) (by omega)) (by omega)
  rw [show i + s + 1 = i + 1 + s by omega]
  exact this
 | ifs i j1 j2 j3 a b c t1 t2 h1 t3 h2 t4 h3 t5 ih1 ih2 ih3 =>
  intro s hs hl
  have l1 := h1.lt
  have l2 := h2.lt
  have l3 := h3.lt
  have g1 := ih1 s (fun k h1 h2 => hs k (by omega) (by omega)) (by omega)
  have g2 := ih2 s (fun k h1 h2 => hs k (by omega) (by omega)) (by omega)
  have g3 := ih3 s (fun k h1 h2 => hs k (by omega) (by omega)) (by omega)
  rw [show i + 1 + 1 + s = i + s + 1 + 1 by omega] at g1
  rw [show j1 + 1 + s = j1 + s + 1 by omega] at g2
  rw [show j2 + 1 + s = j2 + s + 1 by omega] at g3
  rw [show j3 + 1 + s = j3 + s + 1 by omega]
  refine .ifs _ (j1 + s) (j2 + s) _ _ _ _ ((hs i (Nat.le_refl _) (by omega)).word (by decide) t1) ?_ g1 ((hs j1 (by omega) (by omega)).word (by decide) t3) g2 ((hs j2 (by omega) (by omega)).word (by decide) t4) g3 ((hs j3 (by omega) (by omega)).word (by decide) t5)
  rw [show i + s + 1 = i + 1 + s by omega]
  exact (hs (i + 1) (by omega) (by omega)).word (by decide) t2
 | up n i j a h1 h5 _ ih =>
  intro s hs hl
  exact .up _ _ _ _ h1 h5 (ih s hs hl)
 | more n i j j' k a b h1 h5 ha hg hc hb iha ihb =>
  intro s hs hl
  have la := ha.lt
  have lb := hb.lt
  have e := (hs j (by omega) (by omega)).word (sgn_noD n _ hg) rfl
  refine .more n (i + s) (j + s) (j' + s) k a b h1 h5 (iha s (fun k h1 h2 => hs k h1 (by omega)) (by omega)) (by rw [e]; exact hg) (by rw [e]; exact hc) ?_
  have := ihb s (fun k h1 h2 => hs k (by omega) h2) hl
  rw [show j + s + 1 = j + 1 + s by omega]
  exact this
def z0 (T : List By) : List (By × Nat) := T.map fun t => (t, 0)
theorem tAt_fst (ts : List (By × Nat)) (i : Nat) : tAt ts i = (ts.map Prod.fst).getD i [] := by
 unfold tAt
 rw [List.getD_eq_getElem?_getD, List.getElem?_map]
 cases ts[i]? <;> rfl
theorem tAt_z0 (T : List By) (i : Nat) : tAt (z0 T) i = T.getD i [] := by
 rw [tAt_fst]
 congr 1
 rw [z0, List.map_map]
 exact List.map_id' T
theorem z0_len (T : List By) : (z0 T).length = T.length := by simp [z0]
theorem gd_right (a b : List By) (k : Nat) (h : a.length ≤ k) : (a ++ b).getD k [] = b.getD (k - a.length) [] := by
 rw [List.getD_eq_getElem?_getD, List.getD_eq_getElem?_getD, List.getElem?_append_right h]
theorem gd_left (a b : List By) (k : Nat) (h : k < a.length) : (a ++ b).getD k [] = a.getD k [] := by
 rw [List.getD_eq_getElem?_getD, List.getD_eq_getElem?_getD, List.getElem?_append_left h]
theorem Der.sub {T : List By} {n : Nat} {p : Pt} (h : Der (z0 T) n 0 T.length p) (pre post : List By) : Der (z0 (pre ++ T ++ post)) n pre.length (pre.length + T.length) p := by
 have := h.like (ts' := z0 (pre ++ T ++ post)) pre.length (fun k _ hk => Or.inl ?_) (by rw [z0_len]; simp; omega)
 ·rw [Nat.zero_add, Nat.add_comm T.length] at this
  exact this
 ·rw [tAt_z0, tAt_z0, List.append_assoc, gd_right _ _ _ (by omega), gd_left _ _ _ (by omega), Nat.add_sub_cancel]
end
section
def nextB (r : By) (n : Nat) : Nat × By := match r with | [] => (0, []) | c :: t => (c.toNat % n, t)
theorem nextB_lt (r : By) (n : Nat) (h : 0 < n) : (nextB r n).1 < n := by
 cases r with
 | nil => exact h
 | cons c t => exact Nat.mod_lt _ h
def numB (n : Nat) : By := Lib.decDigits n
def fewB (r : By) : By × By := (102 :: numB (nextB r 8).1, (nextB r 8).2)
theorem numB_len (n : Nat) (h : n < 100) : (numB n).length ≤ 2 := by
 have : ∀ n : Fin 100, (numB n.1).length ≤ 2 := by decide +kernel
 exact this ⟨n, h⟩
theorem fewB_len (r : By) : (fewB r).1.length ≤ 3 := by
 have h1 := numB_len (nextB r 8).1 (by have := nextB_lt r 8 (by decide); omega)
 simp [fewB]
 omega
def pickB (l : List By) (k : Nat) : By := l.getD k []
def ruleB : Nat → By → By × By
 | 0, r =>
  if (nextB r 5).1 = 0 then (numB (nextB (nextB r 5).2 10).1, (nextB (nextB r 5).2 10).2)
  else if (nextB r 5).1 = 1 then (pickB [[116, 114, 117, 101], [102, 97, 108, 115, 101]] (nextB (nextB r 5).2 2).1, (nextB (nextB r 5).2 2).2)
  else fewB (nextB r 5).2
 | d + 1, r =>
  let a := (ruleB d r).1
  let k := (nextB (ruleB d r).2 8).1
  let q := (nextB (ruleB d r).2 8).2
  if k = 0 then ([105, 102, 40] ++ a ++ [44, 32] ++ (fewB q).1 ++ [44, 32] ++ (ruleB d (fewB q).2).1 ++ [41], (ruleB d (fewB q).2).2)
  else if k = 1 then ([110, 111, 116, 32, 40] ++ a ++ [41], q)
  else if k = 2 then ([45] ++ (fewB q).1, (fewB q).2)
  else if k = 3 then ([40] ++ a ++ [41, 32] ++ pickB [[97, 110, 100], [111, 114]] (nextB q 2).1 ++ [32, 40] ++ (ruleB d (nextB q 2).2).1 ++ [41], (ruleB d (nextB q 2).2).2)
  else if k = 4 then ([40] ++ a ++ [41, 32] ++ pickB [[61], [60]] (nextB q 2).1 ++ [32] ++ (fewB (nextB q 2).2).1, (fewB (nextB q 2).2).2)
  else ([40] ++ a ++ [41, 32] ++ pickB [[43], [45], [42], [47], [37]] (nextB q 5).1 ++ [32] ++ (fewB (nextB q 5).2).1, (fewB (nextB q 5).2).2)
theorem ruleB_len (d : Nat) : ∀ r, (ruleB d r).1.length + 11 ≤ 16 * 2 ^ d := by
 induction d with
 | zero =>
  intro r
  unfold ruleB
  split
  ·have := numB_len (nextB (nextB r 5).2 10).1 (by have := nextB_lt (nextB r 5).2 10 (by decide); omega)
   simp; omega
  ·split
   ·have := nextB_lt (nextB r 5).2 2 (by decide)
    rcases (show (nextB (nextB r 5).2 2).1 = 0 ∨ (nextB (nextB r 5).2 2).1 = 1 by omega) with h | h <;> rw [h] <;> simp [pickB]
   ·have := fewB_len (nextB r 5).2
    simp; omega
 | succ d ih =>
  intro r
  have e : 16 * 2 ^ (d + 1) = 2 * (16 * 2 ^ d) := by rw [Nat.pow_succ]; omega
  rw [e]
  unfold ruleB
  have i0 := ih r
  generalize 16 * 2 ^ d = M at *
  simp only
  generalize (nextB (ruleB d r).2 8).1 = k
  generalize (nextB (ruleB d r).2 8).2 = q
  have f1 := fewB_len q
  have i1 := ih (fewB q).2
  have i2 := ih (nextB q 2).2
  have f2 := fewB_len (nextB q 2).2
  have f5 := fewB_len (nextB q 5).2
  have p1 : (pickB [[97, 110, 100], [111, 114]] (nextB q 2).1).length ≤ 3 := by
   have := nextB_lt q 2 (by decide)
   rcases (show (nextB q 2).1 = 0 ∨ (nextB q 2).1 = 1 by omega) with h | h <;> rw [h] <;> decide
  have p2 : (pickB [[61], [60]] (nextB q 2).1).length ≤ 3 := by
   have := nextB_lt q 2 (by decide)
   rcases (show (nextB q 2).1 = 0 ∨ (nextB q 2).1 = 1 by omega) with h | h <;> rw [h] <;> decide
  have p5 : (pickB [[43], [45], [42], [47], [37]] (nextB q 5).1).length ≤ 3 := by
   have := nextB_lt q 5 (by decide)
   rcases (show (nextB q 5).1 = 0 ∨ (nextB q 5).1 = 1 ∨ (nextB q 5).1 = 2 ∨ (nextB q 5).1 = 3 ∨ (nextB q 5).1 = 4 by omega) with h | h | h | h | h <;> rw [h] <;> decide
  split
  ·simp; omega
  ·split
   ·simp; omega
   ·split
    ·simp; omega
    ·split
     ·simp; omega
     ·split
      ·simp; omega
      ·simp; omega
end
section
attribute [local go_sem] idx_eq app_eq
def FeedAt (w : World) (b : Nat) (r : By) : Prop :=
 ∃ (s : By) (k : Nat), w.heap[b]? = some (.cells #[.string ⟨s.toArray⟩, .int .i64 (k : Int)] 40 (0, 0)) ∧ k ≤ s.length ∧ s.drop k = r ∧ s.length ≤ 9223372036854775807
structure KeepB (b : Nat) (w w' : World) : Prop where
 below : Below b w w'
 other : ∀ i, i < w.heap.size → i ≠ b → w'.heap[i]? = w.heap[i]?
theorem KeepB.refl (b : Nat) (w : World) : KeepB b w w := ⟨Below.refl _ _, fun _ _ _ => rfl⟩
theorem KeepB.trans {b : Nat} {w w' w'' : World} (h : KeepB b w w') (k : KeepB b w' w'') : KeepB b w w'' :=
 ⟨h.below.trans k.below, fun i hi hb => (k.other i (Nat.lt_of_lt_of_le hi h.below.size) hb).trans (h.other i hi hb)⟩
theorem KeepB.alloc {b : Nat} {w w' : World} (h : KeepB b w w') (hb : b < w'.heap.size) (o : Obj) : KeepB b w (w'.alloc o) :=
 h.trans ⟨(Below.refl _ _).alloc (Nat.le_of_lt hb) _, fun _ hi _ => Below.heap_alloc _ _ _ hi⟩
theorem KeepB.drewN {b : Nat} {w w' : World} (h : KeepB b w w') (n : Nat) : KeepB b w (w'.drewN n) :=
 h.trans ⟨below_drewN (Below.refl _ _) n, fun _ _ _ => rfl⟩
theorem KeepB.setCell {b : Nat} {w w' : World} (h : KeepB b w w') (j : Nat) (u : Value) : KeepB b w (w'.setCell ⟨b, j, none⟩ u) :=
 h.trans ⟨(Below.refl b w').setCell (p := ⟨b, j, none⟩) (Nat.le_refl _) _, fun _ _ hb => Below.heap_setCell _ _ _ _ hb⟩
theorem KeepB.cell {b : Nat} {w w' : World} (h : KeepB b w w') {p : Addr} (hp : p.block < w.heap.size) (hb : p.block ≠ b) : w'.cell? p = w.cell? p := World.cell?_of_block (w := w) (h.other p.block hp hb)
theorem KeepB.lit {b : Nat} {w w' : World} {cs : Array Value} {T : TypeId} (h : KeepB b (w.alloc (.cells cs T)) w') (hb : b < w.heap.size) (j : Nat) : w'.cell? ⟨w.heap.size, j, none⟩ = cs[j]? := by
 rw [h.cell (p := ⟨w.heap.size, j, none⟩) (by simp) (by simp; omega), World.cell?_alloc_new]
theorem FeedAt.alloc {w : World} {b : Nat} {r : By} (h : FeedAt w b r) (o : Obj) : FeedAt (w.alloc o) b r := by
 obtain ⟨s, k, h1, h2⟩ := h
 exact ⟨s, k, (Below.heap_alloc _ _ _ (Array.getElem?_eq_some_iff.1 h1).1).trans h1, h2⟩
theorem FeedAt.size {w : World} {b : Nat} {r : By} (h : FeedAt w b r) : b < w.heap.size := by
 obtain ⟨s, k, h1, _⟩ := h
 exact (Array.getElem?_eq_some_iff.1 h1).1
theorem setBlk {w : World} {b : Nat} {cs : Array Value} {t : TypeId} {fr : Nat × Nat} (h : w.heap[b]? = some (.cells cs t fr)) (j : Nat) (u : Value) : (w.setCell ⟨b, j, none⟩ u).heap[b]? = some (.cells (cs.setIfInBounds j u) t fr) := by
 simp [World.setCell, Array.getElem?_modify, h]
theorem keep_next (b : Nat) (r : By) (n : Nat) (w : World) (hn : 0 < n) (hn2 : n ≤ 1000) (h : FeedAt w b r) :
  Calls Tryz.prog 19 #[.pointer (some ⟨b, 0, none⟩), .int .i64 (n : Int)] w fun e w' => e = .returned (.int .i64 ((nextB r n).1 : Int)) ∧ FeedAt w' b (nextB r n).2 ∧ KeepB b w w' := by
 obtain ⟨s, k, hb, hk, hd, hs⟩ := h
 have c0 : w.cell? ⟨b, 0, none⟩ = some (.string ⟨s.toArray⟩) := by rw [cell_of_row w b 0 _ _ _ hb]; rfl
 have c1 : w.cell? ⟨b, 1, none⟩ = some (.int .i64 (k : Int)) := by rw [cell_of_row w b 1 _ _ _ hb]; rfl
 have fz : w.frozen? ⟨b, 1, none⟩ = false := by simp [World.frozen?, hb]
 by_cases hlt : k < s.length
 ·rw [List.drop_eq_getElem_cons hlt] at hd
  subst hd
  have HB := tZ hb
  have HF := tZ (show FeedAt (w.setCell ⟨b, 1, none⟩ (.int .i64 ((k : Int) + 1))) b (s.drop (k + 1)) from ⟨s, k + 1, by rw [setBlk hb]; rfl, hlt, rfl, hs⟩)
  have hn0 : (n : Int) ≠ 0 := by omega
  have hk0 : (0 : Int) ≤ (k : Int) := by omega
  have hk1 : (k : Int) < (s.length : Int) := by omega
  clear hb
  go_enter Tryz.func19, Tryz.ntmps19
  go_wp2
  go_quiet (fail)
  go_wp2
  go_quiet (fail)
  go_wp2
  go_ret
  refine ⟨?_, HF.out, ((KeepB.refl b w).drewN _).setCell 1 _⟩
  have hw : wrap64 (s[k].toNat : Int) = (s[k].toNat : Int) := by have := s[k].toNat_lt; unfold wrap64; omega
  show Ending.returned (.int .i64 ((wrap64 (s[k].toNat : Int)).tmod (n : Int))) = _
  rw [hw]
  rfl
 ·have hd0 : r = [] := by rw [← hd]; exact List.drop_eq_nil_of_le (by omega)
  subst hd0
  have HF := tZ (show FeedAt w b [] from ⟨s, k, hb, hk, hd, hs⟩)
  clear hb hd
  go_enter Tryz.func19, Tryz.ntmps19
  go_wp2
  go_quiet (fail)
  go_wp2
  go_ret
  exact ⟨rfl, HF.out, (KeepB.refl _ _).drewN _⟩
theorem keep_nextZ (b : Nat) (r : By) (z : Int) (n : Nat) (w : World) (h : FeedAt w b r) (hz : z = (n : Int) ∧ 0 < n ∧ n ≤ 1000) :
  Calls Tryz.prog 19 #[.pointer (some ⟨b, 0, none⟩), .int .i64 z] w fun e w' => e = .returned (.int .i64 ((nextB r n).1 : Int)) ∧ FeedAt w' b (nextB r n).2 ∧ KeepB b w w' := by
 obtain ⟨rfl, h1, h2⟩ := hz
 exact keep_next b r n w h1 h2 h
theorem keep_num (n : Nat) (h : n < 100) (w : World) : Calls Tryz.prog 32 #[.int .i64 (n : Int)] w fun e w' => e = .returned (.string ⟨(numB n).toArray⟩) ∧ w = w' := by
 unfold numB
 go_enter Tryz.func32, Tryz.ntmps32
 go_wp2_with (first | (go_at_call 46; refine (Tryz.strconv_Itoa_small n h _).mono ?_; rintro e w' ⟨rfl, rfl⟩))
 go_ret
 exact ⟨rfl, rfl⟩
theorem keep_few (b : Nat) (r : By) (w : World) (h : FeedAt w b r) :
  Calls Tryz.prog 20 #[.pointer (some ⟨b, 0, none⟩)] w fun e w' => e = .returned (.string ⟨(fewB r).1.toArray⟩) ∧ FeedAt w' b (fewB r).2 ∧ KeepB b w w' := by
 unfold fewB
 have hl := nextB_lt r 8 (by decide)
 have hl2 := numB_len (nextB r 8).1 (by omega)
 have H := tZ (keep_nextZ b r 8 8 w h (by decide))
 go_enter Tryz.func20, Tryz.ntmps20
 go_wp2_with (first | (go_at_call 19; refine H.out.mono ?_; rintro e w1 ⟨rfl, hf, hb⟩) | (go_at_call 32; refine (keep_num _ (by omega) _).mono ?_; rintro e w2 ⟨rfl, rfl⟩))
 go_ret
 exact ⟨rfl, hf, hb⟩
end
section
attribute [local go_sem] idx_eq app_eq
def RulePost (b : Nat) (p : By × By) (w : World) (e : Ending) (w' : World) : Prop := e = .returned (.string ⟨p.1.toArray⟩) ∧ FeedAt w' b p.2 ∧ KeepB b w w'
theorem rule0_num (b : Nat) (r : By) (w : World) (h0 : FeedAt w b r) (hx : (nextB r 5).1 = 0) :
  Calls Tryz.prog 21 #[.pointer (some ⟨b, 0, none⟩), .int .i64 0] w (RulePost b (numB (nextB (nextB r 5).2 10).1, (nextB (nextB r 5).2 10).2) w) := by
 unfold RulePost
 have hl := nextB_lt (nextB r 5).2 10 (by decide)
 have HX := tZ hx
 clear hx
 go_enter Tryz.func21, Tryz.ntmps21
 go_wp2_with (first | (go_at_call 19; refine (keep_nextZ b _ 5 5 w h0 (by decide)).mono ?_; rintro e w1 ⟨rfl, hf1, hb1⟩; rw [HX.out]; refine Hid.out ?_))
 refine tZ ?_
 go_wp2_with (first | (go_at_call 19; refine (keep_nextZ b _ 10 10 w1 hf1 (by decide)).mono ?_; rintro e w2 ⟨rfl, hf2, hb2⟩; refine Hid.out ?_))
 refine tZ ?_
 go_wp2_with (first | (go_at_call 32; refine (keep_num _ (by omega) _).mono ?_; rintro e w9 ⟨rfl, rfl⟩))
 go_ret
 exact ⟨rfl, hf2, hb1.trans hb2⟩
theorem rule0_word0 (b : Nat) (r : By) (w : World) (h0 : FeedAt w b r) (hx : (nextB r 5).1 = 1) (hy : (nextB (nextB r 5).2 2).1 = 0) :
  Calls Tryz.prog 21 #[.pointer (some ⟨b, 0, none⟩), .int .i64 0] w (RulePost b ([116, 114, 117, 101], (nextB (nextB r 5).2 2).2) w) := by
 unfold RulePost
 have HX := tZ hx
 have HY := tZ hy
 clear hx hy
 go_enter Tryz.func21, Tryz.ntmps21
 go_wp2_with (first | (go_at_call 19; refine (keep_nextZ b _ 5 5 w h0 (by decide)).mono ?_; rintro e w1 ⟨rfl, hf1, hb1⟩; rw [HX.out]; refine Hid.out ?_))
 refine tZ ?_
 go_wp2_with (first | (go_at_call 19; refine (keep_nextZ b _ 2 2 _ (hf1.alloc _) (by decide)).mono ?_; rintro e w2 ⟨rfl, hf2, hb2⟩; rw [HY.out]; have hs1 := hf1.size; have hc : w2.cell? ⟨w1.heap.size, 0, none⟩ = some (.string ⟨#[116, 114, 117, 101]⟩) := (hb2.cell (p := ⟨w1.heap.size, 0, none⟩) (by simp) (by simp; omega)).trans (by rw [World.cell?_alloc_new]; rfl); refine Hid.out ?_))
 refine tZ ?_
 go_wp2_with (first | (fail))
 go_ret
 exact ⟨rfl, hf2, (hb1.alloc hs1 _).trans hb2⟩
theorem rule0_word1 (b : Nat) (r : By) (w : World) (h0 : FeedAt w b r) (hx : (nextB r 5).1 = 1) (hy : (nextB (nextB r 5).2 2).1 = 1) :
  Calls Tryz.prog 21 #[.pointer (some ⟨b, 0, none⟩), .int .i64 0] w (RulePost b ([102, 97, 108, 115, 101], (nextB (nextB r 5).2 2).2) w) := by
 unfold RulePost
 have HX := tZ hx
 have HY := tZ hy
 clear hx hy
 go_enter Tryz.func21, Tryz.ntmps21
 go_wp2_with (first | (go_at_call 19; refine (keep_nextZ b _ 5 5 w h0 (by decide)).mono ?_; rintro e w1 ⟨rfl, hf1, hb1⟩; rw [HX.out]; refine Hid.out ?_))
 refine tZ ?_
 go_wp2_with (first | (go_at_call 19; refine (keep_nextZ b _ 2 2 _ (hf1.alloc _) (by decide)).mono ?_; rintro e w2 ⟨rfl, hf2, hb2⟩; rw [HY.out]; have hs1 := hf1.size; have hc : w2.cell? ⟨w1.heap.size, 1, none⟩ = some (.string ⟨#[102, 97, 108, 115, 101]⟩) := (hb2.cell (p := ⟨w1.heap.size, 1, none⟩) (by simp) (by simp; omega)).trans (by rw [World.cell?_alloc_new]; rfl); refine Hid.out ?_))
 refine tZ ?_
 go_wp2_with (first | (fail))
 go_ret
 exact ⟨rfl, hf2, (hb1.alloc hs1 _).trans hb2⟩
theorem rule0_few (b : Nat) (r : By) (w : World) (h0 : FeedAt w b r) (hx : (nextB r 5).1 ≠ 0) (hx1 : (nextB r 5).1 ≠ 1) :
  Calls Tryz.prog 21 #[.pointer (some ⟨b, 0, none⟩), .int .i64 0] w (RulePost b (fewB (nextB r 5).2) w) := by
 unfold RulePost
 have hb0 : (((nextB r 5).1 : Int) == 0) = false := by simp; omega
 have hb1' : (((nextB r 5).1 : Int) == 1) = false := by simp; omega
 go_enter Tryz.func21, Tryz.ntmps21
 go_wp2_with (first | (go_at_call 19; refine (keep_nextZ b _ 5 5 w h0 (by decide)).mono ?_; rintro e w1 ⟨rfl, hf1, hb1⟩; refine Hid.out ?_))
 refine tZ ?_
 go_wp2_with (first | (go_at_call 20; refine (keep_few b _ w1 hf1).mono ?_; rintro e w2 ⟨rfl, hf2, hb2⟩))
 go_ret
 exact ⟨rfl, hf2, hb1.trans hb2⟩
theorem ruleS_not (b d : Nat) (r : By) (z : Int) (w : World) (h0 : FeedAt w b r) (hz : z = (d : Int) + 1) (hd : d ≤ 3)
  (hi : ∀ r z w, FeedAt w b r → z = (d : Int) → Calls Tryz.prog 21 #[.pointer (some ⟨b, 0, none⟩), .int .i64 z] w (RulePost b (ruleB d r) w)) (hx : (nextB (ruleB d r).2 8).1 = 1) :
  Calls Tryz.prog 21 #[.pointer (some ⟨b, 0, none⟩), .int .i64 z] w (RulePost b ([110, 111, 116, 32, 40] ++ (ruleB d r).1 ++ [41], (nextB (ruleB d r).2 8).2) w) := by
 unfold RulePost at *
 have HI := tZ hi
 clear hi
 have hz0 : (z == 0) = false := by simp; omega
 have la : (ruleB d r).1.length ≤ 300 := by have := ruleB_len d r; have : 2 ^ d ≤ 2 ^ 3 := Nat.pow_le_pow_right (by decide) hd; omega
 have lr : ∀ x, (ruleB d x).1.length ≤ 300 := fun x => by have := ruleB_len d x; have : 2 ^ d ≤ 2 ^ 3 := Nat.pow_le_pow_right (by decide) hd; omega
 have HX := tZ hx
 clear hx
 clear lr
 go_enter Tryz.func21, Tryz.ntmps21
 go_wp2_with (first | (go_at_call 21; refine (HI.out _ _ w h0 (by omega)).mono ?_; rintro e w1 ⟨rfl, hf1, hb1⟩; refine Hid.out ?_))
 refine tZ ?_
 go_wp2_with (first | (go_at_call 19; refine (keep_nextZ b _ 8 8 w1 hf1 (by decide)).mono ?_; rintro e w2 ⟨rfl, hf2, hb2⟩; rw [HX.out]; refine Hid.out ?_))
 refine tZ ?_
 go_wp2_with (first | (fail))
 go_ret
 refine ⟨?_, hf2, hb1.trans hb2⟩
 first | rfl | (simp; done)
theorem ruleS_neg (b d : Nat) (r : By) (z : Int) (w : World) (h0 : FeedAt w b r) (hz : z = (d : Int) + 1) (hd : d ≤ 3)
  (hi : ∀ r z w, FeedAt w b r → z = (d : Int) → Calls Tryz.prog 21 #[.pointer (some ⟨b, 0, none⟩), .int .i64 z] w (RulePost b (ruleB d r) w)) (hx : (nextB (ruleB d r).2 8).1 = 2) :
  Calls Tryz.prog 21 #[.pointer (some ⟨b, 0, none⟩), .int .i64 z] w (RulePost b ([45] ++ (fewB (nextB (ruleB d r).2 8).2).1, (fewB (nextB (ruleB d r).2 8).2).2) w) := by
 unfold RulePost at *
 have HI := tZ hi
 clear hi
 have hz0 : (z == 0) = false := by simp; omega
 have la : (ruleB d r).1.length ≤ 300 := by have := ruleB_len d r; have : 2 ^ d ≤ 2 ^ 3 := Nat.pow_le_pow_right (by decide) hd; omega
 have lr : ∀ x, (ruleB d x).1.length ≤ 300 := fun x => by have := ruleB_len d x; have : 2 ^ d ≤ 2 ^ 3 := Nat.pow_le_pow_right (by decide) hd; omega
 have HX := tZ hx
 clear hx
 clear lr
 have lf := fewB_len (nextB (ruleB d r).2 8).2
 go_enter Tryz.func21, Tryz.ntmps21
 go_wp2_with (first | (go_at_call 21; refine (HI.out _ _ w h0 (by omega)).mono ?_; rintro e w1 ⟨rfl, hf1, hb1⟩; refine Hid.out ?_))
 refine tZ ?_
 go_wp2_with (first | (go_at_call 19; refine (keep_nextZ b _ 8 8 w1 hf1 (by decide)).mono ?_; rintro e w2 ⟨rfl, hf2, hb2⟩; rw [HX.out]; refine Hid.out ?_))
 refine tZ ?_
 go_wp2_with (first | (go_at_call 20; refine (keep_few b _ w2 hf2).mono ?_; rintro e w3 ⟨rfl, hf3, hb3⟩))
 go_ret
 refine ⟨?_, hf3, (hb1.trans hb2).trans hb3⟩
 first | rfl | (simp; done)
theorem ruleS_if (b d : Nat) (r : By) (z : Int) (w : World) (h0 : FeedAt w b r) (hz : z = (d : Int) + 1) (hd : d ≤ 3)
  (hi : ∀ r z w, FeedAt w b r → z = (d : Int) → Calls Tryz.prog 21 #[.pointer (some ⟨b, 0, none⟩), .int .i64 z] w (RulePost b (ruleB d r) w)) (hx : (nextB (ruleB d r).2 8).1 = 0) :
  Calls Tryz.prog 21 #[.pointer (some ⟨b, 0, none⟩), .int .i64 z] w (RulePost b ([105, 102, 40] ++ (ruleB d r).1 ++ [44, 32] ++ (fewB (nextB (ruleB d r).2 8).2).1 ++ [44, 32] ++ (ruleB d (fewB (nextB (ruleB d r).2 8).2).2).1 ++ [41], (ruleB d (fewB (nextB (ruleB d r).2 8).2).2).2) w) := by
 unfold RulePost at *
 have HI := tZ hi
 clear hi
 have hz0 : (z == 0) = false := by simp; omega
 have la : (ruleB d r).1.length ≤ 300 := by have := ruleB_len d r; have : 2 ^ d ≤ 2 ^ 3 := Nat.pow_le_pow_right (by decide) hd; omega
 have lr : ∀ x, (ruleB d x).1.length ≤ 300 := fun x => by have := ruleB_len d x; have : 2 ^ d ≤ 2 ^ 3 := Nat.pow_le_pow_right (by decide) hd; omega
 have HX := tZ hx
 clear hx
 have l2 := lr (fewB (nextB (ruleB d r).2 8).2).2
 clear lr
 have lf := fewB_len (nextB (ruleB d r).2 8).2
 go_enter Tryz.func21, Tryz.ntmps21
 go_wp2_with (first | (go_at_call 21; refine (HI.out _ _ w h0 (by omega)).mono ?_; rintro e w1 ⟨rfl, hf1, hb1⟩; refine Hid.out ?_))
 refine tZ ?_
 go_wp2_with (first | (go_at_call 19; refine (keep_nextZ b _ 8 8 w1 hf1 (by decide)).mono ?_; rintro e w2 ⟨rfl, hf2, hb2⟩; rw [HX.out]; refine Hid.out ?_))
 refine tZ ?_
 go_wp2_with (first | (go_at_call 20; refine (keep_few b _ w2 hf2).mono ?_; rintro e w3 ⟨rfl, hf3, hb3⟩; refine Hid.out ?_))
 refine tZ ?_
 go_wp2_with (first | (go_at_call 21; refine (HI.out _ _ w3 hf3 (by omega)).mono ?_; rintro e w4 ⟨rfl, hf4, hb4⟩))
 go_ret
 refine ⟨?_, hf4, ((hb1.trans hb2).trans hb3).trans hb4⟩
 first | rfl | (simp; done)
end
section
def Fd1 (b : Nat) (v : Value) (r r' : By) (f : Nat) (args : Array Value) : Prop := ∀ W, FeedAt W b r → Calls Tryz.prog f args W fun e w' => e = .returned v ∧ FeedAt w' b r' ∧ KeepB b W w'
theorem FeedAt.drew {w : World} {b : Nat} {r : By} (h : FeedAt w b r) : FeedAt w.drew b r := h
theorem KeepB.lt {b : Nat} {w w' : World} (h : KeepB b w w') : w.heap.size ≤ w'.heap.size := h.below.size
theorem KeepB.drew {b : Nat} {w w' : World} (h : KeepB b w w') : KeepB b w w'.drew := ⟨h.below.drew, h.other⟩
theorem KeepB.undrew {b : Nat} {w w' : World} (h : KeepB b w.drew w') : KeepB b w w' := ⟨(below_drewN (Below.refl _ _) 1).trans h.below, h.other⟩
def Lit (w : World) (q : Nat) (cs : List Value) : Prop := q < w.heap.size ∧ ∀ j, w.cell? ⟨q, j, none⟩ = cs[j]?
theorem KeepB.litL {b : Nat} {w w' : World} {cs : List Value} {T : TypeId} (h : KeepB b (w.alloc (.cells cs.toArray T)) w') (hb : b < w.heap.size) : Lit w' w.heap.size cs :=
 ⟨by have := h.lt; simp at this; omega, fun j => (h.lit hb j).trans (by simp)⟩
theorem KeepB.litLD {b : Nat} {w w' : World} {cs : List Value} {T : TypeId} (h : KeepB b (w.alloc (.cells cs.toArray T)).drew w') (hb : b < w.heap.size) : Lit w' w.heap.size cs := KeepB.litL (T := T) h.undrew hb
theorem KeepB.two {b : Nat} {w w' : World} {q : Nat} {cs : List Value} (h : KeepB b w w') (hq : Lit w q cs) (hb : q ≠ b) : Lit w' q cs :=
 ⟨Nat.lt_of_lt_of_le hq.1 h.lt, fun j => (h.cell (p := ⟨q, j, none⟩) hq.1 hb).trans (hq.2 j)⟩
end
end Go.Proofs.YtihgojcfpnhelabGreatDoor
