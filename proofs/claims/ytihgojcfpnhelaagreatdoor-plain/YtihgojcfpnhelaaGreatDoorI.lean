import Derived.Test.YtihgojcfpnhelaaGreatDoorC
set_option linter.unusedVariables false
set_option linter.unusedSimpArgs false
namespace Go.Proofs.YtihgojcfpnhelaaGreatDoor
open Go.RowKit
attribute [local go_sem] idx_eq app_eq ext_eq

theorem valD_snoc (t : By) (x : UInt8) : valD (t ++ [x]) = 10 * valD t + (x.toNat - 48) := by simp [valD]

theorem isD_range {x : UInt8} (h : isD x = true) : 48 ≤ x.toNat ∧ x.toNat ≤ 57 := by
  simp [isD, digB] at h
  omega

theorem foldD_lt (t : By) (n : Nat) (h : ∀ j (hj : j < t.length), isD t[j] = true) : t.foldl (fun n c => 10 * n + (c.toNat - 48)) n < (n + 1) * 10 ^ t.length := by
  induction t generalizing n with
  | nil => simp
  | cons x t ih =>
    have h1 := ih (10 * n + (x.toNat - 48)) fun j hj => by
      have := h (j + 1) (by simpa using hj)
      simpa using this
    have hx := isD_range (x := x) (h 0 (by simp))
    rw [List.foldl_cons, List.length_cons, Nat.pow_succ]
    refine Nat.lt_of_lt_of_le h1 ?_
    rw [show (n + 1) * (10 ^ t.length * 10) = (10 * n + 10) * 10 ^ t.length by rw [Nat.mul_comm (10 ^ t.length) 10, ← Nat.mul_assoc]; congr 1; omega]
    exact Nat.mul_le_mul_right _ (by omega)

theorem valD_lt (t : By) (h : ∀ j (hj : j < t.length), isD t[j] = true) : valD t < 10 ^ t.length := by
  have := foldD_lt t 0 h
  simpa [valD] using this

theorem valD_le18 (l : By) (a m : Nat) (hm : m ≤ 18) (ha : a + m ≤ l.length) (h : ∀ i (hi : a + i < l.length), i < m → isD l[a + i] = true) : valD ((l.drop a).take m) ≤ 999999999999999999 := by
  have h1 := valD_lt ((l.drop a).take m) fun j hj => by
    have hj' : j < m := by simp at hj; omega
    have := h j (by omega) hj'
    simpa using this
  have h2 : ((l.drop a).take m).length = m := by simp; omega
  rw [h2] at h1
  have h3 : 10 ^ m ≤ 10 ^ 18 := Nat.pow_le_pow_right (by omega) hm
  have h4 : (10 : Nat) ^ 18 = 1000000000000000000 := by decide +kernel
  omega

def reachB (l : By) (a : Nat) : Int := if tokOK ((l.drop a).take (rowLen (l.drop a))) then ((a + rowLen (l.drop a) : Nat) : Int) else -1

theorem take_snoc' (l : By) (a m : Nat) (h : a + m < l.length) : (l.drop a).take (m + 1) = (l.drop a).take m ++ [l[a + m]] := by
  rw [List.take_succ_eq_append_getElem (by simp; omega)]
  simp

theorem reachB_D (l : By) (a j : Nat) (ha : a < l.length) (hD : isD l[a] = true) (hL : isL l[a] = false) (hj : ((l.drop (a + 1)).takeWhile isD).length = j) :
    reachB l a = if 19 < j + 1 then -1 else if 9223372036854775807 < (valD ((l.drop a).take (j + 1)) : Int) then -1 else ((a + 1 + j : Nat) : Int) := by
  have hc : l.drop a = l[a] :: l.drop (a + 1) := List.drop_eq_getElem_cons ha
  have hr : rowLen (l.drop a) = 1 + j := by rw [hc, rowLen_D hL hD, hj]
  have hle : j ≤ (l.drop (a + 1)).length := by rw [← hj]; exact (List.takeWhile_prefix _).length_le
  simp at hle
  unfold reachB tokOK
  rw [hr, Nat.add_comm 1 j]
  have hh : headD ((l.drop a).take (j + 1)) = true := by rw [hc, List.take_succ_cons]; exact hD
  rw [if_pos hh]
  have hlen : ((l.drop a).take (j + 1)).length = j + 1 := by simp; omega
  rw [hlen]
  unfold top63
  by_cases h1 : 19 < j + 1
  · rw [if_pos h1, if_neg (by simp; omega)]
  · rw [if_neg h1]
    by_cases h2 : 9223372036854775807 < (valD ((l.drop a).take (j + 1)) : Int)
    · rw [if_pos h2, if_neg (by simp; omega)]
    · rw [if_neg h2, if_pos (by simp; omega)]
      omega

set_option maxHeartbeats 4000000 in
theorem reach_D (l : By) (a : Nat) (w : World) (ha : a < l.length) (hl : l.length ≤ 1000) (hD : isD l[a] = true) (hL : isL l[a] = false) :
    Calls Tryz.prog 74 #[.string ⟨l.toArray⟩, .int .i64 (a : Int)] w fun e w' => e = .returned (.int .i64 (reachB l a)) ∧ w = w' := by
  have hD' : digB (l[a].toNat : Int) = true := hD
  have HR := toHid (fun j => reachB_D l a j ha hD hL)
  have HD := toHid hD
  clear hD
  go_enter Tryz.func74, Tryz.ntmps74
  go_wp2_with (first | (go_at_call 109; refine (isDigit39 (l[a].toNat : Int) _).mono ?_; rintro e w' ⟨rfl, rfl⟩))
  go_loop [5] (fun v => ∃ j : Nat, a + 1 + j ≤ l.length ∧ v = .int .i64 ((a : Int) + 1 + j) ∧ ∀ i (h : a + 1 + i < l.length), i < j → isD l[a + 1 + i] = true) (fun v => l.length - (intOf v).toNat)
  case atStart => exact ⟨0, by omega, by simp, fun _ _ h => by omega⟩
  case round =>
    obtain ⟨j, hj, rfl, hn⟩ := hrel
    have HN := toHid hn
    clear hn
    by_cases hlt : a + 1 + j < l.length
    · cases hd : isD l[a + 1 + j]
      · have hd' : digB (l[a + 1 + j].toNat : Int) = false := hd
        have HT := toHid (tw_len isD (l.drop (a + 1)) j (by simp; omega) (fun i hi hij => by have := HN.out i (by simp at hi; omega) hij; simpa using this) (Or.inr ⟨by simp; omega, by simpa using hd⟩))
        have HJ := toHid (HR.out j HT.out)
        by_cases h19 : 19 < j + 1 <;> have H19 := toHid h19
        · go_wp2_with (first | (go_at_call 109; refine (isDigit39 (l[a + 1 + j].toNat : Int) _).mono ?_; rintro e w' ⟨rfl, rfl⟩))
          go_ret
          exact ⟨by rw [HJ.out, if_pos H19.out]; rfl, rfl⟩
        · go_wp2_with (first | (go_at_call 109; refine (isDigit39 (l[a + 1 + j].toNat : Int) _).mono ?_; rintro e w' ⟨rfl, rfl⟩))
          go_loop [6, 7] (fun n i => ∃ m : Nat, m ≤ j + 1 ∧ i = .int .i64 ((a : Int) + m) ∧ n = .int .u64 (valD ((l.drop a).take m) : Int)) (fun _ i => a + j + 1 - (intOf i).toNat)
          case atStart => exact ⟨0, by omega, by simp, rfl⟩
          case round =>
            obtain ⟨m, hm, rfl, rfl⟩ := hrel
            by_cases hmj : m < j + 1
            · have hal : a + m < l.length := by omega
              have hdm : isD l[a + m] = true := by
                cases m with
                | zero => exact HD.out
                | succ m =>
                  have := HN.out m (by omega) (by omega)
                  simpa [Nat.add_assoc, Nat.add_comm 1 m] using this
              have hrange := isD_range hdm
              have hv18 := valD_le18 l a m (by omega) (by omega) (fun i hi him => by
                cases i with
                | zero => exact HD.out
                | succ i =>
                  have := HN.out i (by omega) (by omega)
                  simpa [Nat.add_assoc, Nat.add_comm 1 i] using this)
              have HV := toHid (show valD ((l.drop a).take (m + 1)) = 10 * valD ((l.drop a).take m) + (l[a + m].toNat - 48) by rw [take_snoc' l a m hal, valD_snoc])
              have hr1 : (48 : Int) ≤ (l[a + m].toNat : Int) := by omega
              have hr2 : (l[a + m].toNat : Int) ≤ 57 := by omega
              clear hdm hrange
              generalize hx : valD ((l.drop a).take m) = V at *
              have HX := toHid hx
              clear hx
              go_wp2
              go_round
              case rel => exact ⟨m + 1, by omega, by go_num, by rw [HV.out]; go_num⟩
              case measure => simp [intOf]; omega
            · obtain rfl : m = j + 1 := by omega
              generalize hx : valD ((l.drop a).take (j + 1)) = V at *
              have HX := toHid hx
              clear hx
              by_cases hbig : 9223372036854775807 < (V : Int) <;> have HB := toHid hbig
              · go_wp2
                go_ret
                exact ⟨by rw [HJ.out, if_neg H19.out, if_pos HB.out]; rfl, rfl⟩
              · go_wp2
                go_ret
                exact ⟨by rw [HJ.out, if_neg H19.out, if_neg (by have := HB.out; omega)]; go_num, rfl⟩

      · have hd' : digB (l[a + 1 + j].toNat : Int) = true := hd
        have HE := toHid hd
        clear hd
        go_wp2_with (first | (go_at_call 109; refine (isDigit39 (l[a + 1 + j].toNat : Int) _).mono ?_; rintro e w' ⟨rfl, rfl⟩))
        go_round
        case rel =>
          refine ⟨j + 1, by omega, by go_num, fun i h hi => ?_⟩
          rcases Nat.lt_or_ge i j with h1 | h1
          · exact HN.out i h h1
          · obtain rfl : i = j := by omega
            exact HE.out
        case measure => simp [intOf]; omega
    · have HT := toHid (tw_len isD (l.drop (a + 1)) j (by simp; omega) (fun i hi hij => by have := HN.out i (by simp at hi; omega) hij; simpa using this) (Or.inl (by simp; omega)))
      have HJ := toHid (HR.out j HT.out)
      by_cases h19 : 19 < j + 1 <;> have H19 := toHid h19
      · go_wp2
        go_ret
        exact ⟨by rw [HJ.out, if_pos H19.out]; rfl, rfl⟩
      · go_wp2
        go_loop [6, 7] (fun n i => ∃ m : Nat, m ≤ j + 1 ∧ i = .int .i64 ((a : Int) + m) ∧ n = .int .u64 (valD ((l.drop a).take m) : Int)) (fun _ i => a + j + 1 - (intOf i).toNat)
        case atStart => exact ⟨0, by omega, by simp, rfl⟩
        case round =>
          obtain ⟨m, hm, rfl, rfl⟩ := hrel
          by_cases hmj : m < j + 1
          · have hal : a + m < l.length := by omega
            have hdm : isD l[a + m] = true := by
              cases m with
              | zero => exact HD.out
              | succ m =>
                have := HN.out m (by omega) (by omega)
                simpa [Nat.add_assoc, Nat.add_comm 1 m] using this
            have hrange := isD_range hdm
            have hv18 := valD_le18 l a m (by omega) (by omega) (fun i hi him => by
              cases i with
              | zero => exact HD.out
              | succ i =>
                have := HN.out i (by omega) (by omega)
                simpa [Nat.add_assoc, Nat.add_comm 1 i] using this)
            have HV := toHid (show valD ((l.drop a).take (m + 1)) = 10 * valD ((l.drop a).take m) + (l[a + m].toNat - 48) by rw [take_snoc' l a m hal, valD_snoc])
            have hr1 : (48 : Int) ≤ (l[a + m].toNat : Int) := by omega
            have hr2 : (l[a + m].toNat : Int) ≤ 57 := by omega
            clear hdm hrange
            generalize hx : valD ((l.drop a).take m) = V at *
            have HX := toHid hx
            clear hx
            go_wp2
            go_round
            case rel => exact ⟨m + 1, by omega, by go_num, by rw [HV.out]; go_num⟩
            case measure => simp [intOf]; omega
          · obtain rfl : m = j + 1 := by omega
            generalize hx : valD ((l.drop a).take (j + 1)) = V at *
            have HX := toHid hx
            clear hx
            by_cases hbig : 9223372036854775807 < (V : Int) <;> have HB := toHid hbig
            · go_wp2
              go_ret
              exact ⟨by rw [HJ.out, if_neg H19.out, if_pos HB.out]; rfl, rfl⟩
            · go_wp2
              go_ret
              exact ⟨by rw [HJ.out, if_neg H19.out, if_neg (by have := HB.out; omega)]; go_num, rfl⟩

end Go.Proofs.YtihgojcfpnhelaaGreatDoor
namespace Go.Proofs.YtihgojcfpnhelaaGreatDoor
open Go.RowKit
attribute [local go_sem] idx_eq app_eq ext_eq

theorem reachB_L (l : By) (a j : Nat) (ha : a < l.length) (hD : isD l[a] = false) (hL : isL l[a] = true) (hj : ((l.drop (a + 1)).takeWhile isLD).length = j) :
    reachB l a = if 6 < j + 1 then -1 else ((a + 1 + j : Nat) : Int) := by
  have hc : l.drop a = l[a] :: l.drop (a + 1) := List.drop_eq_getElem_cons ha
  have hr : rowLen (l.drop a) = 1 + j := by rw [hc, rowLen_L hL, hj]
  have hle : j ≤ (l.drop (a + 1)).length := by rw [← hj]; exact (List.takeWhile_prefix _).length_le
  simp at hle
  unfold reachB tokOK
  rw [hr, Nat.add_comm 1 j]
  have hh : headD ((l.drop a).take (j + 1)) = false := by rw [hc, List.take_succ_cons]; exact hD
  have hh2 : headL ((l.drop a).take (j + 1)) = true := by rw [hc, List.take_succ_cons]; exact hL
  rw [hh, hh2]
  have hlen : ((l.drop a).take (j + 1)).length = j + 1 := by simp; omega
  rw [hlen]
  by_cases h1 : 6 < j + 1
  · rw [if_pos h1]
    simp
    omega
  · rw [if_neg h1]
    simp
    omega

theorem reachB_N (l : By) (a : Nat) (ha : a < l.length) (hD : isD l[a] = false) (hL : isL l[a] = false) :
    reachB l a = if inB [l[a]] signW then ((a + 1 : Nat) : Int) else -1 := by
  have hc : l.drop a = l[a] :: l.drop (a + 1) := List.drop_eq_getElem_cons ha
  have hr : rowLen (l.drop a) = 1 := by rw [hc, rowLen_N hL hD]
  unfold reachB tokOK
  rw [hr, hc]
  simp only [List.take_succ_cons, List.take_zero]
  have hh : headD [l[a]] = false := hD
  have hh2 : headL [l[a]] = false := hL
  simp [hh, hh2]

set_option maxHeartbeats 4000000 in
theorem reach_L (l : By) (a : Nat) (w : World) (ha : a < l.length) (hl : l.length ≤ 1000) (hD : isD l[a] = false) (hL : isL l[a] = true) :
    Calls Tryz.prog 74 #[.string ⟨l.toArray⟩, .int .i64 (a : Int)] w fun e w' => e = .returned (.int .i64 (reachB l a)) ∧ w = w' := by
  have hD' : digB (l[a].toNat : Int) = false := hD
  have hL' : letB (l[a].toNat : Int) = true := hL
  have HR := toHid (fun j => reachB_L l a j ha hD hL)
  clear hD hL
  go_enter Tryz.func74, Tryz.ntmps74
  go_wp2_with (first | (go_at_call 109; refine (isDigit39 (l[a].toNat : Int) _).mono ?_; rintro e w' ⟨rfl, rfl⟩) | (go_at_call 110; refine (isLetter38 (l[a].toNat : Int) _).mono ?_; rintro e w' ⟨rfl, rfl⟩))
  go_loop [5] (fun v => ∃ j : Nat, a + 1 + j ≤ l.length ∧ v = .int .i64 ((a : Int) + 1 + j) ∧ ∀ i (h : a + 1 + i < l.length), i < j → isLD l[a + 1 + i] = true) (fun v => l.length - (intOf v).toNat)
  case atStart => exact ⟨0, by omega, by simp, fun _ _ h => by omega⟩
  case round =>
    obtain ⟨j, hj, rfl, hn⟩ := hrel
    have HN := toHid hn
    clear hn
    by_cases hlt : a + 1 + j < l.length
    · cases hx : letB (l[a + 1 + j].toNat : Int)
      · cases hy : digB (l[a + 1 + j].toNat : Int)
        · have hd : isLD l[a + 1 + j] = false := by simp [isLD, ldB, hx, hy]
          have HT := toHid (tw_len isLD (l.drop (a + 1)) j (by simp; omega) (fun i hi hij => by have := HN.out i (by simp at hi; omega) hij; simpa using this) (Or.inr ⟨by simp; omega, by simpa using hd⟩))
          clear hd
          have HJ := toHid (HR.out j HT.out)
          by_cases h6 : 6 < j + 1 <;> have H6 := toHid h6
          · go_wp2_with (first | (go_at_call 110; refine (isLetter38 (l[a + 1 + j].toNat : Int) _).mono ?_; rintro e w' ⟨rfl, rfl⟩) | (go_at_call 109; refine (isDigit39 (l[a + 1 + j].toNat : Int) _).mono ?_; rintro e w' ⟨rfl, rfl⟩))
            go_ret
            exact ⟨by rw [HJ.out, if_pos H6.out]; rfl, rfl⟩
          · go_wp2_with (first | (go_at_call 110; refine (isLetter38 (l[a + 1 + j].toNat : Int) _).mono ?_; rintro e w' ⟨rfl, rfl⟩) | (go_at_call 109; refine (isDigit39 (l[a + 1 + j].toNat : Int) _).mono ?_; rintro e w' ⟨rfl, rfl⟩))
            go_ret
            exact ⟨by rw [HJ.out, if_neg (by have := H6.out; omega)]; go_num, rfl⟩

        · have hd : isLD l[a + 1 + j] = true := by simp [isLD, ldB, hy]
          have HE := toHid hd
          clear hd
          go_wp2_with (first | (go_at_call 110; refine (isLetter38 (l[a + 1 + j].toNat : Int) _).mono ?_; rintro e w' ⟨rfl, rfl⟩) | (go_at_call 109; refine (isDigit39 (l[a + 1 + j].toNat : Int) _).mono ?_; rintro e w' ⟨rfl, rfl⟩))
          go_round
          case rel =>
            refine ⟨j + 1, by omega, by go_num, fun i h hi => ?_⟩
            rcases Nat.lt_or_ge i j with h1 | h1
            · exact HN.out i h h1
            · obtain rfl : i = j := by omega
              exact HE.out
          case measure => simp [intOf]; omega

      · have hd : isLD l[a + 1 + j] = true := by simp [isLD, ldB, hx]
        have HE := toHid hd
        clear hd
        go_wp2_with (first | (go_at_call 110; refine (isLetter38 (l[a + 1 + j].toNat : Int) _).mono ?_; rintro e w' ⟨rfl, rfl⟩))
        go_round
        case rel =>
          refine ⟨j + 1, by omega, by go_num, fun i h hi => ?_⟩
          rcases Nat.lt_or_ge i j with h1 | h1
          · exact HN.out i h h1
          · obtain rfl : i = j := by omega
            exact HE.out
        case measure => simp [intOf]; omega

    · have HT := toHid (tw_len isLD (l.drop (a + 1)) j (by simp; omega) (fun i hi hij => by have := HN.out i (by simp at hi; omega) hij; simpa using this) (Or.inl (by simp; omega)))
      have HJ := toHid (HR.out j HT.out)
      by_cases h6 : 6 < j + 1 <;> have H6 := toHid h6
      · go_wp2
        go_ret
        exact ⟨by rw [HJ.out, if_pos H6.out]; rfl, rfl⟩
      · go_wp2
        go_ret
        exact ⟨by rw [HJ.out, if_neg (by have := H6.out; omega)]; go_num, rfl⟩


set_option maxHeartbeats 1000000 in
theorem reach_N (l : By) (a : Nat) (w : World) (ha : a < l.length) (hl : l.length ≤ 1000) (hD : isD l[a] = false) (hL : isL l[a] = false) :
    Calls Tryz.prog 74 #[.string ⟨l.toArray⟩, .int .i64 (a : Int)] w fun e w' => e = .returned (.int .i64 (reachB l a)) ∧ Below w.heap.size w w' := by
  have hD' : digB (l[a].toNat : Int) = false := hD
  have hL' : letB (l[a].toNat : Int) = false := hL
  have HR := toHid (reachB_N l a ha hD hL)
  clear hD hL
  have HT := toHid (show (l.drop a).take 1 = [l[a]] by rw [List.drop_eq_getElem_cons ha]; rfl)
  cases hin : inB ((l.drop a).take 1) signW
  all_goals
    have HI := toHid hin
    go_enter Tryz.func74, Tryz.ntmps74
    go_wp2_with (first | (go_at_call 109; refine (isDigit39 (l[a].toNat : Int) _).mono ?_; rintro e w' ⟨rfl, rfl⟩) | (go_at_call 110; refine (isLetter38 (l[a].toNat : Int) _).mono ?_; rintro e w' ⟨rfl, rfl⟩) | (go_at_call 77; refine (in20 ((l.drop a).take 1) signW ⟨w.heap.size, 0, none⟩ 10 _ (by decide) (fun j h => cells_strs w signW 9 j h)).mono ?_; rintro e w' ⟨rfl, rfl⟩))
    go_ret
    exact ⟨by rw [HR.out, ← HT.out, HI.out]; first | rfl | go_num, (Below.refl _ _).alloc (Nat.le_refl _) _⟩

theorem reach32 (l : By) (a : Nat) (w : World) (ha : a < l.length) (hl : l.length ≤ 1000) :
    Calls Tryz.prog 74 #[.string ⟨l.toArray⟩, .int .i64 (a : Int)] w fun e w' => e = .returned (.int .i64 (reachB l a)) ∧ Below w.heap.size w w' := by
  cases hD : isD l[a]
  · cases hL : isL l[a]
    · exact reach_N l a w ha hl hD hL
    · exact (reach_L l a w ha hl hD hL).mono fun e w' h => ⟨h.1, h.2 ▸ Below.refl _ _⟩
  · have hL : isL l[a] = false := by
      have := isD_range hD
      simp [isL, letB]
      omega
    exact (reach_D l a w ha hl hD hL).mono fun e w' h => ⟨h.1, h.2 ▸ Below.refl _ _⟩
end Go.Proofs.YtihgojcfpnhelaaGreatDoor
namespace Go.Proofs.YtihgojcfpnhelaaGreatDoor
open Go.RowKit
attribute [local go_sem] idx_eq app_eq

def rcells (ts : List (By × Nat)) : List Value := ts.flatMap fun t => [.string ⟨t.1.toArray⟩, .int .i64 (t.2 : Int)]

theorem rcells_length (ts : List (By × Nat)) : (rcells ts).length = ts.length * 2 := by
  induction ts with
  | nil => rfl
  | cons t ts ih => simp [rcells] at *; omega

theorem rcells_snoc (ts : List (By × Nat)) (t : By) (p : Nat) : rcells (ts ++ [(t, p)]) = rcells ts ++ [.string ⟨t.toArray⟩, .int .i64 (p : Int)] := by simp [rcells]

theorem info64 : (Tryz.prog.info? 118).map (fun i => (i.zero, i.size, i.bytes)) = some (some (.agg #[.string ⟨#[]⟩, .int .i64 0]), 2, 24) := by kernel_rfl

theorem toks_space (f : Nat) (s : By) (k : Nat) (hk : k < s.length) (h : s[k] = 32) : toks (f + 1) (s.drop k) k = toks f (s.drop (k + 1)) (k + 1) := by
  rw [List.drop_eq_getElem_cons hk, h]
  rfl

theorem toks_bad (f : Nat) (s : By) (k : Nat) (hk : k < s.length) (h : s[k] ≠ 32) (hr : reachB s k = -1) : toks (f + 1) (s.drop k) k = ([], some k) := by
  have hb : tokOK ((s.drop k).take (rowLen (s.drop k))) = false := by
    unfold reachB at hr
    split at hr
    · omega
    · simp_all
  rw [List.drop_eq_getElem_cons hk] at hb ⊢
  unfold toks
  rw [if_neg h, if_neg (by rw [hb]; simp)]

theorem rowLen_pos (c : UInt8) (r : By) : 1 ≤ rowLen (c :: r) := by
  simp only [rowLen]
  split
  · omega
  · split <;> omega

theorem rowLen_le (l : By) : rowLen l ≤ l.length := by
  cases l with
  | nil => simp [rowLen]
  | cons c r =>
    have h1 := (List.takeWhile_prefix (l := r) isLD).length_le
    have h2 := (List.takeWhile_prefix (l := r) isD).length_le
    unfold rowLen
    simp only [List.length_cons]
    split
    · omega
    · split <;> omega

theorem toks_tok (f : Nat) (s : By) (k : Nat) (hk : k < s.length) (h : s[k] ≠ 32) (hr : reachB s k ≠ -1) :
    ∃ n, 1 ≤ n ∧ k + n ≤ s.length ∧ reachB s k = ((k + n : Nat) : Int) ∧
      toks (f + 1) (s.drop k) k = (((s.drop k).take n, k) :: (toks f (s.drop (k + n)) (k + n)).1, (toks f (s.drop (k + n)) (k + n)).2) := by
  have hb : tokOK ((s.drop k).take (rowLen (s.drop k))) = true := by
    unfold reachB at hr
    split at hr
    · assumption
    · simp at hr
  have hle := rowLen_le (s.drop k)
  have hpos : 1 ≤ rowLen (s.drop k) := by rw [List.drop_eq_getElem_cons hk]; exact rowLen_pos _ _
  simp at hle
  refine ⟨rowLen (s.drop k), hpos, by omega, by unfold reachB; rw [if_pos hb], ?_⟩
  have hd : s.drop (k + rowLen (s.drop k)) = (s.drop k).drop (rowLen (s.drop k)) := by simp
  rw [hd]
  have hc := List.drop_eq_getElem_cons hk
  generalize s.drop k = u at *
  subst hc
  conv => lhs; unfold toks
  rw [if_neg h, if_pos hb]

theorem below_grown {w w' : World} (h : Below w.heap.size w w') : w.grownBy w' none := ⟨h.os, h.tape, h.output, h.size, fun k hk _ => h.block k hk⟩

theorem own_below {w w' : World} {B : Nat} {e : TypeId} {z : Nat} {v : Value} {n : Nat} {xs : List Value} (h : w.ownsRow B e z v n xs) (hb : Below w.heap.size w w') : w'.ownsRow B e z v n xs :=
  h.kept (below_grown hb) (by cases hv : v.ownBlock <;> simp)

theorem cells_new (w : World) (cs : List Value) (T : TypeId) (j : Nat) (u : Value) (h : cs[j]? = some u) : (w.alloc (.cells cs.toArray T)).cell? ((⟨w.heap.size, 0, none⟩ : Addr).add j) = some u := by
  rw [show (⟨w.heap.size, 0, none⟩ : Addr).add j = ⟨w.heap.size, j, none⟩ by simp [Addr.add]; intro h; exact h.symm, World.cell?_alloc_new]
  simpa using h

/-- What 'Tokens' answers. -/
def TokPost (s : By) (w : World) (e : Ending) (w' : World) : Prop :=
  (∀ p, (toksOf s).2 = some p → e = .returned (.tuple #[.slice none 0 0, .int .i64 (p : Int)])) ∧
  ((toksOf s).2 = none → ∃ v, e = .returned (.tuple #[v, .int .i64 (-1)]) ∧ w'.ownsRow w.heap.size 118 2 v (toksOf s).1.length (rcells (toksOf s).1)) ∧
  Below w.heap.size w w'

set_option maxRecDepth 100000 in
set_option maxHeartbeats 2000000 in
theorem tokens17 (s : By) (w : World) (hl : s.length ≤ 1000) :
    Calls Tryz.prog 51 #[.string ⟨s.toArray⟩] w (TokPost s w) := by
  obtain ⟨i0, hi, hz0, hz1, hz2⟩ := info_parts info64
  go_enter Tryz.func51, Tryz.ntmps51
  go_wp2
  go_loopw [4, 5] (fun v i wr => ∃ (k f : Nat) (ts : List (By × Nat)), k ≤ s.length ∧ s.length ≤ k + f ∧ i = .int .i64 (k : Int) ∧ wr.ownsRow w.heap.size 118 2 v ts.length (rcells ts) ∧ Below w.heap.size w wr ∧ ts.length ≤ k ∧
      Hid (toksOf s = (ts ++ (toks f (s.drop k) k).1, (toks f (s.drop k) k).2))) (fun _ i _ => s.length - (intOf i).toNat)
  case atStart => exact ⟨0, s.length, [], by omega, by omega, rfl, World.ownsRow_nil _ _ _ _, Below.refl _ _, by simp, rfl⟩
  case round =>
    obtain ⟨k, f, ts, hk, hf, rfl, hown, hb, hts, HT⟩ := hrel
    have hsz := hb.size
    by_cases hlt : k < s.length
    · obtain ⟨f, rfl⟩ : ∃ g, f = g + 1 := ⟨f - 1, by omega⟩
      by_cases hsp : s[k] = 32
      · have HT2 := toHid (HT.out.trans (by rw [toks_space f s k hlt hsp]))
        have hspb : ((s[k].toNat : Int) == 32) = true := by simp [hsp]
        clear hsp
        go_wp2
        go_roundw
        case rel => exact ⟨k + 1, f, ts, by omega, by omega, by go_num, hown, hb, by omega, HT2⟩
        case measure => simp [intOf]; omega
      · have hspb : ((s[k].toNat : Int) == 32) = false := by
          simp only [beq_eq_false_iff_ne]
          intro h
          apply hsp
          apply UInt8.toNat_inj.1
          simp; omega
        by_cases hr : reachB s k = -1
        · have HB := toHid (toks_bad f s k hlt hsp hr)
          have HR := toHid hr
          clear hr hsp
          go_wp2_with (first | (go_at_call 74; refine (reach32 s k _ hlt hl).mono ?_; rintro e w1 ⟨rfl, hb1⟩; rw [HR.out]))
          go_ret2
          refine ⟨fun p hp => ?_, fun hn => ?_, hb.trans (hb1.mono hsz)⟩
          · rw [HT.out, HB.out] at hp
            simp at hp
            subst hp
            rfl
          · rw [HT.out, HB.out] at hn
            simp at hn
        · obtain ⟨n, hn1, hn2, hrn, htk⟩ := toks_tok f s k hlt hsp hr
          have HTK := toHid htk
          have HR := toHid hrn
          clear hr hsp htk hrn
          go_wp2_with (first | (go_at_call 74; refine (reach32 s k _ hlt hl).mono ?_; rintro e w1 ⟨rfl, hb1⟩; rw [HR.out]; refine Hid.out ?_))
          refine toHid ?_
          have hs1 := hb1.size
          go_wp2_with (first | (at_builtin; refine wpList_append_own _ rfl (.tmp 23) (.tmp 30) 76 rfl w.heap.size 118 i0 (.agg #[.string ⟨#[]⟩, .int .i64 0]) 2 24 Tryz.underlying76 hi hz0 hz1 hz2 rfl (by decide) u4 ts.length (rcells ts) rfl ?c0 ⟨w1.heap.size, 0, none⟩ 1 1 [.string ((ByteArray.mk s.toArray).extract k (k + n)), .int .i64 (k : Int)] rfl rfl ?c1 ?c2 ?c3 ?c4 ?c5 ?_))
          case c0 => exact (own_below hown hb1).alloc _
          case c1 => exact fun j u hj => cells_new w1 _ 118 j u hj
          case c2 => intro u hu; simp at hu; rcases hu with rfl | rfl <;> rfl
          case c3 => unfold maxLen; omega
          case c4 => omega
          case c5 => simp; omega
          intro v' w2 hown' hgrow _
          have HO := toHid hown'
          have HG := toHid hgrow
          clear hown' hgrow
          go_wp2
          go_roundw
          case rel =>
            refine ⟨k + n, f, ts ++ [((s.drop k).take n, k)], by omega, by omega, by go_num, ?_, ?_, by simp; omega, ?_⟩
            · have h := HO.out
              rw [ext_eq, show k + n - k = n by omega] at h
              rw [rcells_snoc, List.length_append]
              exact h
            · refine ((hb.trans (hb1.mono hsz)).alloc (by omega) _).grown HG.out (by simp; omega) (fun q hq => ?_)
              exact (World.ownsRow.lt hown q hq).1
            · refine HT.out.trans ?_
              rw [HTK.out]
              simp
          case measure => simp [intOf]; omega
    · go_wp2
      go_ret2
      have hnil : toks f (s.drop k) k = ([], none) := by
        rw [List.drop_of_length_le (by omega)]
        cases f <;> rfl
      have HF := HT.out
      rw [hnil] at HF
      simp at HF
      refine ⟨fun p hp => ?_, fun _ => ?_, hb⟩
      · rw [HF] at hp; simp at hp
      · rw [HF]; exact ⟨_, rfl, hown⟩
end Go.Proofs.YtihgojcfpnhelaaGreatDoor
