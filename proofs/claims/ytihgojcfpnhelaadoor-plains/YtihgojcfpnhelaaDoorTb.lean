import Derived.Test.YtihgojcfpnhelaaDoorTa
namespace Go.Proofs.YtihgojcfpnhelaaDoor
open Go.RowKit

/-- All tokens are right. -/
def OkT (ts : List (By × Nat)) : Prop := ∀ t p, (t, p) ∈ ts → (tokOK t = true ∧ ∃ c r, t = c :: r ∧ c ≠ 63 ∧ c ≠ 78) ∧ (headD t = true → AllD t)

theorem toks_allD (f : Nat) (l : By) (k : Nat) (t : By) (p : Nat) (h : (t, p) ∈ (toks f l k).1) : headD t = true → AllD t := by
  induction f generalizing l k with
  | zero => simp [toks] at h
  | succ f ih =>
    match l with
    | [] => simp [toks] at h
    | c :: r =>
      unfold toks at h
      split at h
      · exact ih _ _ h
      · split at h
        · simp only [List.mem_cons, Prod.mk.injEq] at h
          rcases h with ⟨rfl, rfl⟩ | h
          · rw [row_cons]
            intro hD
            exact row_allD c r hD
          · exact ih _ _ h
        · simp at h

theorem cls_word (x : By) (n : Nat) (hm : (x, n) ∈ meanN) (t : By) (k : Nat) (h : Cls t k) : k = n ↔ t = x := by
  have hx : ∀ y, y ∈ meanN → headD y.1 = false ∧ nameB y.1 = false ∧ y.1 ≠ [] ∧ y.2 ≠ 1 ∧ y.2 ≠ 2 ∧ y.2 ≠ 0 := by decide
  obtain ⟨a1, a2, a3, a4, a5, a6⟩ := hx _ hm
  simp only at a1 a2 a3 a4 a5 a6
  have huniq : ∀ y, y ∈ meanN → ∀ z, z ∈ meanN → (y.2 = z.2 ↔ y.1 = z.1) := by decide
  rcases h with ⟨h, rfl⟩ | ⟨_, h, rfl⟩ | ⟨rfl, rfl⟩ | h
  · exact ⟨fun e => absurd e.symm a4, fun e => by rw [e, a1] at h; cases h⟩
  · exact ⟨fun e => absurd e.symm a5, fun e => by rw [e, a2] at h; cases h⟩
  · exact ⟨fun e => absurd e.symm a6, fun e => absurd e.symm a3⟩
  · exact huniq _ h _ hm

theorem bet_plain (t : By) (k : Nat) (h : Cls t k) (hk : k = 1 ∨ k = 2 ∨ k = 7 ∨ k = 8) : inB t betW = false ∧ behB t = true := by
  rcases h with ⟨hD, _⟩ | ⟨_, hN, _⟩ | ⟨_, h⟩ | h
  · exact ⟨inB_false t betW (fun x hx => headD_not t x hD (by revert x; decide)), by simp [behB, hD]⟩
  · exact ⟨inB_false t betW (fun x hx => name_not t x hN (by revert x; decide)), by simp [behB, hN]⟩
  · omega
  · simp only [meanN, List.mem_cons, List.not_mem_nil, or_false, Prod.mk.injEq] at h
    rcases h with ⟨rfl, rfl⟩ | ⟨rfl, rfl⟩ | ⟨rfl, rfl⟩ | ⟨rfl, rfl⟩ | ⟨rfl, rfl⟩ | ⟨rfl, rfl⟩ | ⟨rfl, rfl⟩ | ⟨rfl, rfl⟩ | ⟨rfl, rfl⟩ | ⟨rfl, rfl⟩ | ⟨rfl, rfl⟩ | ⟨rfl, rfl⟩ | ⟨rfl, rfl⟩ | ⟨rfl, rfl⟩ | ⟨rfl, rfl⟩ | ⟨rfl, rfl⟩ <;> first | decide | omega

theorem sgn_bet (n : Nat) (h1 : 1 ≤ n) (h5 : n ≤ 5) (t : By) (h : inB t (sgn n) = true) : inB t betW = true ∧ behB t = false ∧ t ≠ [] := by
  have hn : n = 1 ∨ n = 2 ∨ n = 3 ∨ n = 4 ∨ n = 5 := by omega
  simp only [inB, List.contains_iff_mem] at h
  rcases hn with rfl | rfl | rfl | rfl | rfl <;> simp only [sgn, List.mem_cons, List.not_mem_nil, or_false] at h
  · subst h; decide
  · subst h; decide
  · rcases h with rfl | rfl <;> decide
  · rcases h with rfl | rfl <;> decide
  · rcases h with rfl | rfl | rfl <;> decide

/-- A sign between two: how it is told. -/
theorem sgn_told (n : Nat) (h1 : 1 ≤ n) (h5 : n ≤ 5) (t : By) (k : Nat) (h : inB t (sgn n) = true) (hc : Cls t k) : spellOf (k : Int) ++ textB t = btw k ∧ ahd k = [] ∧ bhd k = [] ∧ k ≠ 1 := by
  have hn : n = 1 ∨ n = 2 ∨ n = 3 ∨ n = 4 ∨ n = 5 := by omega
  have key : ∀ x m, (x, m) ∈ meanN → t = x → (spellOf (m : Int) ++ textB x = btw m ∧ ahd m = [] ∧ bhd m = [] ∧ m ≠ 1) → spellOf (k : Int) ++ textB t = btw k ∧ ahd k = [] ∧ bhd k = [] ∧ k ≠ 1 := by
    intro x m hm ht h
    have hk := (cls_word x m hm t k hc).2 ht
    subst hk ht
    exact h
  simp only [inB, List.contains_iff_mem] at h
  rcases hn with rfl | rfl | rfl | rfl | rfl <;> simp only [sgn, List.mem_cons, List.not_mem_nil, or_false] at h
  · exact key _ 5 (by decide) h (by decide)
  · exact key _ 4 (by decide) h (by decide)
  · rcases h with h | h
    · exact key _ 18 (by decide) h (by decide)
    · exact key _ 19 (by decide) h (by decide)
  · rcases h with h | h
    · exact key _ 12 (by decide) h (by decide)
    · exact key _ 13 (by decide) h (by decide)
  · rcases h with h | h | h
    · exact key _ 15 (by decide) h (by decide)
    · exact key _ 16 (by decide) h (by decide)
    · exact key _ 17 (by decide) h (by decide)

section
variable {ts : List (By × Nat)}

theorem OkT.get (hk : OkT ts) {i : Nat} (hi : i < ts.length) : tokOK (tAt ts i) = true ∧ ∃ c r, tAt ts i = c :: r ∧ c ≠ 63 ∧ c ≠ 78 := by
  rw [tAt_lt ts i hi]
  exact (hk ts[i].1 ts[i].2 (List.getElem_mem hi)).1

theorem OkT.dig (hk : OkT ts) {i : Nat} (hi : i < ts.length) : headD (tAt ts i) = true → AllD (tAt ts i) := by
  rw [tAt_lt ts i hi]
  exact (hk ts[i].1 ts[i].2 (List.getElem_mem hi)).2

theorem at_lt {i : Nat} {x : By} (hx : x ≠ []) (h : tAt ts i = x) : i < ts.length := by
  rcases Nat.lt_or_ge i ts.length with h1 | h1
  · exact h1
  · rw [tAt_ge ts i h1] at h; exact absurd h.symm hx

theorem prev_succ {i : Nat} (hi : i < ts.length) : prevB ts (i + 1) = some (tAt ts i) := by
  rw [prevB_succ ts i (by omega), tAt_lt ts i hi]

theorem told_succ {i : Nat} (hi : i < ts.length) : toldTo ts (i + 1) = toldTo ts i ++ pieceB (prevB ts i) (tAt ts i) := by
  rw [toldTo_succ ts i hi, tAt_lt ts i hi]

/-- A word that is told plainly. -/
theorem told_word {i : Nat} (x : By) (k : Nat) (hm : (x, k) ∈ meanN) (hb : inB x betW = false) (hx : x ≠ []) (hk : k ≠ 0) (h : tAt ts i = x) : toldTo ts (i + 1) = toldTo ts i ++ (spellOf (k : Int) ++ textB x) ∧ prevB ts (i + 1) = some x ∧ i < ts.length := by
  have hi := at_lt hx h
  refine ⟨?_, by rw [prev_succ hi, h], hi⟩
  rw [told_succ hi, h, piece_other _ x k (Or.inr (Or.inr (Or.inr hm))) hk hb]

theorem atom_txt (t : By) (k : Nat) (hc : Cls t k) (hk : k = 1 ∨ k = 2 ∨ k = 7 ∨ k = 8) (hD : headD t = true → AllD t) (hne : t ≠ []) : spellOf (k : Int) ++ textB t = txt (.atom k (nmB t) (nuB t)) := by
  show _ = ahd k ++ nmB t ++ numT k (nuB t) ++ [] ++ bhd k
  rcases hc with ⟨h, rfl⟩ | ⟨h, hN, rfl⟩ | ⟨_, h⟩ | h
  · rw [textB_D t h]
    unfold nmB nuB numT
    rw [h]
    simp only [if_true]
    rw [dec_short t hne (hD h)]
    simp [spellOf, spellW, ahd, ahdW, bhd, bhdW]
  · unfold nmB numT
    rw [h]
    simp [spellOf, spellW, ahd, ahdW, bhd, bhdW]
  · omega
  · simp only [meanN, List.mem_cons, List.not_mem_nil, or_false, Prod.mk.injEq] at h
    rcases h with ⟨rfl, rfl⟩ | ⟨rfl, rfl⟩ | ⟨rfl, rfl⟩ | ⟨rfl, rfl⟩ | ⟨rfl, rfl⟩ | ⟨rfl, rfl⟩ | ⟨rfl, rfl⟩ | ⟨rfl, rfl⟩ | ⟨rfl, rfl⟩ | ⟨rfl, rfl⟩ | ⟨rfl, rfl⟩ | ⟨rfl, rfl⟩ | ⟨rfl, rfl⟩ | ⟨rfl, rfl⟩ | ⟨rfl, rfl⟩ | ⟨rfl, rfl⟩ <;> first | rfl | omega

/-- What is read is told as its tree is. -/
theorem Der.told (hok : OkT ts) {n i j : Nat} {p : Pt} (h : Der ts n i j p) : behO (prevB ts i) = false → j ≤ ts.length ∧ behO (prevB ts j) = true ∧ toldTo ts j = toldTo ts i ++ txt p := by
  induction h with
  | atom i k hi hc hk =>
    intro _
    obtain ⟨hnb, hbe⟩ := bet_plain _ k hc hk
    obtain ⟨_, c, r, hcr, _⟩ := hok.get hi
    refine ⟨by omega, by rw [prev_succ hi]; exact hbe, ?_⟩
    rw [told_succ hi, piece_other _ _ k hc (by omega) hnb, atom_txt _ k hc hk (hok.dig hi) (by rw [hcr]; simp)]
  | nots i j a ht _ ih =>
    intro _
    obtain ⟨e1, e2, _⟩ := told_word (ts := ts) [110, 111, 116] 6 (by decide) (by decide) (by decide) (by decide) ht
    obtain ⟨h1, h2, h3⟩ := ih (by rw [e2]; decide)
    refine ⟨h1, h2, ?_⟩
    rw [h3, e1]
    simp [txt, jn, spellOf, spellW, textB, headD, isD, digB, meanB, meanIn, meanW, ahd, ahdW, bhd, bhdW, numT]
  | neg i j a ht _ ih =>
    intro hq
    have hi := at_lt (by decide) ht
    obtain ⟨h1, h2, h3⟩ := ih (by rw [prev_succ hi, ht]; decide)
    refine ⟨h1, h2, ?_⟩
    rw [h3, told_succ hi, ht, piece_neg _ hq]
    simp [txt, jn, spellOf, spellW, ahd, ahdW, bhd, bhdW, numT]
  | br i j a ht _ hu ih =>
    intro _
    obtain ⟨e1, e2, _⟩ := told_word (ts := ts) [40] 9 (by decide) (by decide) (by decide) (by decide) ht
    obtain ⟨f1, f2, f3⟩ := told_word (ts := ts) [41] 10 (by decide) (by decide) (by decide) (by decide) hu
    obtain ⟨h1, h2, h3⟩ := ih (by rw [e2]; decide)
    refine ⟨by omega, by rw [f2]; decide, ?_⟩
    rw [f1, h3, e1]
    simp [txt, jn, spellOf, spellW, textB, headD, isD, digB, meanB, meanIn, meanW, ahd, ahdW, bhd, bhdW, numT]
  | ifs i j1 j2 j3 a b c ht hu _ h1 _ h2 _ h3 iha ihb ihc =>
    intro _
    obtain ⟨e1, e2, _⟩ := told_word (ts := ts) [105, 102] 3 (by decide) (by decide) (by decide) (by decide) ht
    obtain ⟨f1, f2, _⟩ := told_word (ts := ts) [40] 9 (by decide) (by decide) (by decide) (by decide) hu
    obtain ⟨g1, g2, _⟩ := told_word (ts := ts) [44] 11 (by decide) (by decide) (by decide) (by decide) h1
    obtain ⟨k1, k2, _⟩ := told_word (ts := ts) [44] 11 (by decide) (by decide) (by decide) (by decide) h2
    obtain ⟨l1, l2, l3⟩ := told_word (ts := ts) [41] 10 (by decide) (by decide) (by decide) (by decide) h3
    obtain ⟨_, _, a3⟩ := iha (by rw [f2]; decide)
    obtain ⟨_, _, b3⟩ := ihb (by rw [g2]; decide)
    obtain ⟨_, _, c3⟩ := ihc (by rw [k2]; decide)
    refine ⟨by omega, by rw [l2]; decide, ?_⟩
    rw [l1, c3, k1, b3, g1, a3, f1, e1]
    simp [txt, jn, spellOf, spellW, textB, headD, isD, digB, meanB, meanIn, meanW, ahd, ahdW, bhd, bhdW, numT, btw, btwW]
  | up n i j a _ _ _ ih => exact ih
  | more n i j j' k a b h1 h5 _ hs hc _ iha ihb =>
    intro hq
    obtain ⟨hbw, hbn, hne⟩ := sgn_bet n h1 h5 _ hs
    obtain ⟨e1, e2, e3, e4⟩ := sgn_told n h1 h5 _ k hs hc
    have hj : j < ts.length := by
      rcases Nat.lt_or_ge j ts.length with h | h
      · exact h
      · exact absurd (tAt_ge ts j h) hne
    obtain ⟨_, a2, a3⟩ := iha hq
    obtain ⟨b1, b2, b3⟩ := ihb (by rw [prev_succ hj]; exact hbn)
    refine ⟨b1, b2, ?_⟩
    rw [b3, told_succ hj, piece_op _ _ k hc hbw a2, e1, a3]
    simp [txt, jn, e2, e3, e4, numT]
end
end Go.Proofs.YtihgojcfpnhelaaDoor
