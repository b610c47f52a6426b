import Derived.Test.YtihgojcfpnhelaaGreatDoorMt
import Derived.Test.YtihgojcfpnhelaaGreatDoorMw
set_option linter.unusedVariables false
set_option linter.unusedSimpArgs false
namespace Go.Proofs.YtihgojcfpnhelaaGreatDoor
open Go.RowKit

theorem dd_len : ∀ (k u : Nat), u < 10 ^ (k + 1) → (Lib.decDigits u).length ≤ k + 1
  | 0, u, h => by rw [Lib.decDigits, dif_pos (by omega)]; simp
  | k + 1, u, h => by
    rw [Lib.decDigits]
    split
    · simp
    · have := dd_len k (u / 10) (by rw [Nat.pow_succ] at h; omega)
      simp
      exact this

theorem dig_ofNat (d : Nat) (h : d < 10) : isD (UInt8.ofNat (48 + d)) = true ∧ (UInt8.ofNat (48 + d)).toNat - 48 = d := by
  rcases (show d = 0 ∨ d = 1 ∨ d = 2 ∨ d = 3 ∨ d = 4 ∨ d = 5 ∨ d = 6 ∨ d = 7 ∨ d = 8 ∨ d = 9 by omega) with rfl | rfl | rfl | rfl | rfl | rfl | rfl | rfl | rfl | rfl <;> decide

theorem dd_facts (n : Nat) : AllD (Lib.decDigits n) ∧ valD (Lib.decDigits n) = n ∧ Lib.decDigits n ≠ [] := by
  induction n using Nat.strongRecOn with
  | ind n ih =>
    rw [Lib.decDigits]
    split
    · rename_i h
      obtain ⟨h1, h2⟩ := dig_ofNat n h
      refine ⟨fun x hx => ?_, ?_, by simp⟩
      · rw [List.mem_singleton.1 hx]
        exact h1
      · simp only [valD, List.foldl_cons, List.foldl_nil]
        omega
    · rename_i h
      obtain ⟨a1, a2, a3⟩ := ih (n / 10) (by omega)
      obtain ⟨h1, h2⟩ := dig_ofNat (n % 10) (by omega)
      refine ⟨fun x hx => ?_, ?_, by simp⟩
      · rcases List.mem_append.1 hx with hx | hx
        · exact a1 x hx
        · rw [List.mem_singleton.1 hx]
          exact h1
      · rw [valD_snoc, a2, h2]
        omega

/-- A line that sets the field of one letter. -/
def setL (nm : UInt8) (rest : By) : By := 115 :: 101 :: 116 :: 32 :: nm :: 32 :: 61 :: 32 :: rest

theorem one_letter (nm : UInt8) (h : isL nm = true) (rest : By) (hr : rest = [] ∨ ∃ r, rest = 32 :: r) : rowLen ([nm] ++ rest) = 1 ∧ tokOK [nm] = true ∧ nm ≠ 32 ∧ kindB [nm] = 2 ∧ nmB [nm] = [nm] := by
  have hn : 97 ≤ nm.toNat ∧ nm.toNat ≤ 122 := by
    simp only [isL, letB, decide_eq_true_eq] at h
    omega
  have hD : isD nm = false := by
    simp only [isD, digB, decide_eq_false_iff_not]
    omega
  have hm : meanB [nm] = none := by
    simp only [meanB, meanW, meanIn]
    have key : ∀ c : UInt8, (c.toNat < 97) → ¬ c = nm := fun c hc e => by
      subst e
      omega
    simp [key]
  refine ⟨?_, ?_, ?_, ?_, ?_⟩
  · rcases hr with rfl | ⟨r, rfl⟩
    · simp [rowLen, h]
    · simp only [List.cons_append, List.nil_append, rowLen, h, if_true]
      rfl
  · simp [tokOK, headD, headL, h, hD]
  · rintro rfl
    revert h; decide
  · simp [kindB, headD, hD, hm]
  · simp [nmB, textB, headD, hD, hm]

theorem toks_set (nm : UInt8) (h : isL nm = true) (rest : By) : toksOf (setL nm rest) = (([115, 101, 116], 0) :: ([nm], 4) :: ([61], 6) :: (toks (rest.length + 2) rest 8).1, (toks (rest.length + 2) rest 8).2) := by
  obtain ⟨h1, h2, h3, _, _⟩ := one_letter nm h (32 :: ([61] ++ 32 :: rest)) (Or.inr ⟨_, rfl⟩)
  have e0 : toksOf (setL nm rest) = toks (rest.length + 7 + 1) ([115, 101, 116] ++ (32 :: ([nm] ++ (32 :: ([61] ++ (32 :: rest)))))) 0 := by
    simp [toksOf, setL]
  rw [e0, toks_to (rest.length + 7) 115 [101, 116] _ 0 (by decide) (by simp [rowLen, show isL 115 = true from by decide, show isLD 101 = true from by decide, show isLD 116 = true from by decide, show isLD 32 = false from by decide]) (by decide)]
  rw [show rest.length + 7 = rest.length + 6 + 1 by omega, toks_sp, show rest.length + 6 = rest.length + 5 + 1 by omega, toks_to (rest.length + 5) nm [] _ _ h3 h1 h2]
  rw [show rest.length + 5 = rest.length + 4 + 1 by omega, toks_sp, show rest.length + 4 = rest.length + 3 + 1 by omega, toks_to (rest.length + 3) 61 [] _ _ (by decide) (by simp [rowLen, show isL 61 = false from by decide, show isD 61 = false from by decide]) (by decide)]
  rw [show rest.length + 3 = rest.length + 2 + 1 by omega, toks_sp]
  rfl

theorem okT_of (s : By) : OkT (toksOf s).1 := fun t p hm => ⟨⟨toks_ok _ _ _ t p hm, toks_good _ _ _ t p hm⟩, toks_allD _ _ _ t p hm⟩

theorem heads_set : ∀ k (h : k < 12), (headsW[k]'h).1 = [115, 101, 116] → k = 0 := by decide
theorem heads_value : ∀ k (h : k < 12), (headsW[k]'h).1 = [118, 97, 108, 117, 101] → k = 8 := by decide

/-- A line that sets a field of one letter is read so. -/
theorem line_set (nm : UInt8) (h : isL nm = true) (rest : By) (rts : List (By × Nat)) (p : Pt) (hl : rest.length ≤ 112) (ht : toks (rest.length + 2) rest 8 = (rts, none)) (hD : Der rts 1 0 rts.length p) (ho : opn p ≤ 6) (hx : (txt p).length ≤ 100) (r : LnR) (hr : LineP (setL nm rest) r) : r = .ok 1 [[nm]] (some p) := by
  obtain ⟨_, _, _, hkn, hnn⟩ := one_letter nm h [] (Or.inl rfl)
  have htk := toks_set nm h rest
  rw [ht] at htk
  have hok : OkT rts := by
    have := (okT_of (setL nm rest)).drop 3
    rw [htk] at this
    exact this
  rcases hr with ⟨h1, _⟩ | ⟨_, q, h1, _⟩ | ⟨_, ts, h1, h2⟩
  · simp [setL] at h1
    omega
  · rw [htk] at h1
    cases h1
  · rw [htk] at h1
    simp only [Prod.mk.injEq, and_true] at h1
    subst h1
    have n0 : nT (([115, 101, 116], 0) :: ([nm], 4) :: ([61], 6) :: rts) 0 = [115, 101, 116] := by
      simp [nT, tAt]
      decide
    have k1 : kN (([115, 101, 116], 0) :: ([nm], 4) :: ([61], 6) :: rts) (1 + 0) = 2 := by simp [kN, tAt, hkn]
    have k2 : kN (([115, 101, 116], 0) :: ([nm], 4) :: ([61], 6) :: rts) (1 + 1) = 18 := by
      simp [kN, tAt]
      decide
    have nms : namesT (([115, 101, 116], 0) :: ([nm], 4) :: ([61], 6) :: rts) 1 1 = [[nm]] := by simp [namesT, nT, tAt, hnn]
    have hdr : (([115, 101, 116], 0) :: ([nm], 4) :: ([61], 6) :: rts).drop (2 + 1) = rts := rfl
    rcases h2 with ⟨k, hk, he, hh⟩ | ⟨hno, _⟩
    · rw [n0] at he
      obtain rfl := heads_set k hk he
      rcases hh with ⟨j, hj, _, hne, _⟩ | ⟨_, hh⟩
      · obtain rfl : j = 0 := by have : j < 1 := hj; omega
        exact absurd k1 hne
      · rcases hh with ⟨h3, _⟩ | ⟨h3, _⟩ | ⟨_, h3, _⟩ | ⟨_, _, er, q, n0', _, hrun, hcase⟩
        · cases h3
        · cases h3
        · exact absurd k2 h3
        · have e1 : (([115, 101, 116], 0) :: ([nm], 4) :: ([61], 6) :: rts).drop (2 + (headsW[0]'hk).2.2.1) = rts := rfl
          rw [e1] at hrun hcase
          obtain ⟨rfl, rfl⟩ := hD.run hok ho hrun
          have htold := (hD.told hok rfl).2.2
          rcases hcase with ⟨h4, _⟩ | ⟨_, _, h4, _⟩ | ⟨_, _, t, hDt, _, _, h5⟩
          · exact absurd rfl h4
          · rw [htold] at h4
            have : (toldTo rts 0).length = 0 := rfl
            simp [toldTo] at h4
            omega
          · rw [hDt.uniq hD] at h5
            rw [h5]
            exact congrArg (fun n => LnR.ok 1 n (some p)) nms
    · exact absurd n0.symm (hno 0 (by decide))

/-- A line that asks for the value of a field of one letter is read so. -/
theorem line_value (nm : UInt8) (h : isL nm = true) (r : LnR) (hr : LineP [118, 97, 108, 117, 101, 32, nm] r) : r = .ok 9 [[nm]] none := by
  obtain ⟨h1, h2, h3, hkn, hnn⟩ := one_letter nm h [] (Or.inl rfl)
  have htk : toksOf [118, 97, 108, 117, 101, 32, nm] = ([([118, 97, 108, 117, 101], 0), ([nm], 6)], none) := by
    have e0 : toksOf [118, 97, 108, 117, 101, 32, nm] = toks (6 + 1) ([118, 97, 108, 117, 101] ++ (32 :: ([nm] ++ []))) 0 := rfl
    rw [e0, toks_to 6 118 [97, 108, 117, 101] _ 0 (by decide) (by simp [rowLen, show isL 118 = true from by decide, show isLD 97 = true from by decide, show isLD 108 = true from by decide, show isLD 117 = true from by decide, show isLD 101 = true from by decide, show isLD 32 = false from by decide]) (by decide), toks_sp, toks_to 4 nm [] [] _ h3 h1 h2, toks_nil]
    rfl
  rcases hr with ⟨g1, _⟩ | ⟨_, q, g1, _⟩ | ⟨_, ts, g1, g2⟩
  · simp at g1
  · rw [htk] at g1
    cases g1
  · rw [htk] at g1
    simp only [Prod.mk.injEq, and_true] at g1
    subst g1
    have n0 : nT [([118, 97, 108, 117, 101], 0), ([nm], 6)] 0 = [118, 97, 108, 117, 101] := by
      simp [nT, tAt]
      decide
    have k1 : kN [([118, 97, 108, 117, 101], 0), ([nm], 6)] (1 + 0) = 2 := by simp [kN, tAt, hkn]
    have k2 : kN [([118, 97, 108, 117, 101], 0), ([nm], 6)] (1 + 1) = 0 := by simp [kN]
    have nms : namesT [([118, 97, 108, 117, 101], 0), ([nm], 6)] 1 1 = [[nm]] := by simp [namesT, nT, tAt, hnn]
    rcases g2 with ⟨k, hk, he, hh⟩ | ⟨hno, _⟩
    · rw [n0] at he
      obtain rfl := heads_value k hk he
      rcases hh with ⟨j, hj, _, hne, _⟩ | ⟨_, hh⟩
      · obtain rfl : j = 0 := by have : j < 1 := hj; omega
        exact absurd k1 hne
      · rcases hh with ⟨_, h4, _⟩ | ⟨_, _, h5⟩ | ⟨h4, _⟩ | ⟨h4, _⟩
        · exact absurd k2 h4
        · rw [h5]
          exact congrArg (fun n => LnR.ok 9 n none) nms
        · cases h4
        · cases h4
    · exact absurd n0.symm (hno 8 (by decide))
end Go.Proofs.YtihgojcfpnhelaaGreatDoor
