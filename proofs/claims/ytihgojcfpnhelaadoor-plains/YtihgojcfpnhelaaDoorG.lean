import Derived.Test.YtihgojcfpnhelaaDoorC
namespace Go.Proofs.YtihgojcfpnhelaaDoor
open Go.RowKit
attribute [local go_sem] idx_eq app_eq ext_eq

theorem valD_snoc (t : By) (x : UInt8) : valD (t ++ [x]) = 10 * valD t + (x.toNat - 48) := by simp [valD]

theorem isD_range {x : UInt8} (h : isD x = true) : 48 ≤ x.toNat ∧ x.toNat ≤ 57 := by
  simp [isD, digB] at h
  omega

theorem foldD_lt (t : By) (n : Nat) (h : ∀ j (hj : j < t.length), isD t[j] = true) : t.foldl (fun n c => 10 * n + (c.toNat - 48)) n < (n + 1) * 10 ^ t.length := by
  induction t generalizing n with
  | nil => simp
  | cons x t ih =>
    have h1 := ih (10 * n + (x.toNat - 48)) fun j hj => by
      have := h (j + 1) (by simpa using hj)
      simpa using this
    have hx := isD_range (x := x) (h 0 (by simp))
    rw [List.foldl_cons, List.length_cons, Nat.pow_succ]
    refine Nat.lt_of_lt_of_le h1 ?_
    rw [show (n + 1) * (10 ^ t.length * 10) = (10 * n + 10) * 10 ^ t.length by rw [Nat.mul_comm (10 ^ t.length) 10, ← Nat.mul_assoc]; congr 1; omega]
    exact Nat.mul_le_mul_right _ (by omega)

theorem valD_lt (t : By) (h : ∀ j (hj : j < t.length), isD t[j] = true) : valD t < 10 ^ t.length := by
  have := foldD_lt t 0 h
  simpa [valD] using this

theorem valD_le18 (l : By) (a m : Nat) (hm : m ≤ 18) (ha : a + m ≤ l.length) (h : ∀ i (hi : a + i < l.length), i < m → isD l[a + i] = true) : valD ((l.drop a).take m) ≤ 999999999999999999 := by
  have h1 := valD_lt ((l.drop a).take m) fun j hj => by
    have hj' : j < m := by simp at hj; omega
    have := h j (by omega) hj'
    simpa using this
  have h2 : ((l.drop a).take m).length = m := by simp; omega
  rw [h2] at h1
  have h3 : 10 ^ m ≤ 10 ^ 18 := Nat.pow_le_pow_right (by omega) hm
  have h4 : (10 : Nat) ^ 18 = 1000000000000000000 := by decide +kernel
  omega

def reachB (l : By) (a : Nat) : Int := if tokOK ((l.drop a).take (rowLen (l.drop a))) then ((a + rowLen (l.drop a) : Nat) : Int) else -1

theorem take_snoc' (l : By) (a m : Nat) (h : a + m < l.length) : (l.drop a).take (m + 1) = (l.drop a).take m ++ [l[a + m]] := by
  rw [List.take_succ_eq_append_getElem (by simp; omega)]
  simp

theorem reachB_D (l : By) (a j : Nat) (ha : a < l.length) (hD : isD l[a] = true) (hL : isL l[a] = false) (hj : ((l.drop (a + 1)).takeWhile isD).length = j) :
    reachB l a = if 19 < j + 1 then -1 else if 9223372036854775807 < (valD ((l.drop a).take (j + 1)) : Int) then -1 else ((a + 1 + j : Nat) : Int) := by
  have hc : l.drop a = l[a] :: l.drop (a + 1) := List.drop_eq_getElem_cons ha
  have hr : rowLen (l.drop a) = 1 + j := by rw [hc, rowLen_D hL hD, hj]
  have hle : j ≤ (l.drop (a + 1)).length := by rw [← hj]; exact (List.takeWhile_prefix _).length_le
  simp at hle
  unfold reachB tokOK
  rw [hr, Nat.add_comm 1 j]
  have hh : headD ((l.drop a).take (j + 1)) = true := by rw [hc, List.take_succ_cons]; exact hD
  rw [if_pos hh]
  have hlen : ((l.drop a).take (j + 1)).length = j + 1 := by simp; omega
  rw [hlen]
  unfold top63
  by_cases h1 : 19 < j + 1
  · rw [if_pos h1, if_neg (by simp; omega)]
  · rw [if_neg h1]
    by_cases h2 : 9223372036854775807 < (valD ((l.drop a).take (j + 1)) : Int)
    · rw [if_pos h2, if_neg (by simp; omega)]
    · rw [if_neg h2, if_pos (by simp; omega)]
      omega

set_option maxHeartbeats 4000000 in
theorem reach_D (l : By) (a : Nat) (w : World) (ha : a < l.length) (hl : l.length ≤ 1000) (hD : isD l[a] = true) (hL : isL l[a] = false) :
    Calls Tryd.prog 33 #[.string ⟨l.toArray⟩, .int .i64 (a : Int)] w fun e w' => e = .returned (.int .i64 (reachB l a)) ∧ w = w' := by
  have hD' : digB (l[a].toNat : Int) = true := hD
  have HR := toHid (fun j => reachB_D l a j ha hD hL)
  have HD := toHid hD
  clear hD
  go_enter Tryd.func33, Tryd.ntmps33
  go_wp2_with (first | (go_at_call 40; refine (isDigit39 (l[a].toNat : Int) _).mono ?_; rintro e w' ⟨rfl, rfl⟩))
  go_loop [5] (fun v => ∃ j : Nat, a + 1 + j ≤ l.length ∧ v = .int .i64 ((a : Int) + 1 + j) ∧ ∀ i (h : a + 1 + i < l.length), i < j → isD l[a + 1 + i] = true) (fun v => l.length - (intOf v).toNat)
  case atStart => exact ⟨0, by omega, by simp, fun _ _ h => by omega⟩
  case round =>
    obtain ⟨j, hj, rfl, hn⟩ := hrel
    have HN := toHid hn
    clear hn
    by_cases hlt : a + 1 + j < l.length
    · cases hd : isD l[a + 1 + j]
      · have hd' : digB (l[a + 1 + j].toNat : Int) = false := hd
        have HT := toHid (tw_len isD (l.drop (a + 1)) j (by simp; omega) (fun i hi hij => by have := HN.out i (by simp at hi; omega) hij; simpa using this) (Or.inr ⟨by simp; omega, by simpa using hd⟩))
        have HJ := toHid (HR.out j HT.out)
        by_cases h19 : 19 < j + 1 <;> have H19 := toHid h19
        · go_wp2_with (first | (go_at_call 40; refine (isDigit39 (l[a + 1 + j].toNat : Int) _).mono ?_; rintro e w' ⟨rfl, rfl⟩))
          go_ret
          exact ⟨by rw [HJ.out, if_pos H19.out]; rfl, rfl⟩
        · go_wp2_with (first | (go_at_call 40; refine (isDigit39 (l[a + 1 + j].toNat : Int) _).mono ?_; rintro e w' ⟨rfl, rfl⟩))
          go_loop [6, 7] (fun n i => ∃ m : Nat, m ≤ j + 1 ∧ i = .int .i64 ((a : Int) + m) ∧ n = .int .u64 (valD ((l.drop a).take m) : Int)) (fun _ i => a + j + 1 - (intOf i).toNat)
          case atStart => exact ⟨0, by omega, by simp, rfl⟩
          case round =>
            obtain ⟨m, hm, rfl, rfl⟩ := hrel
            by_cases hmj : m < j + 1
            · have hal : a + m < l.length := by omega
              have hdm : isD l[a + m] = true := by
                cases m with
                | zero => exact HD.out
                | succ m =>
                  have := HN.out m (by omega) (by omega)
                  simpa [Nat.add_assoc, Nat.add_comm 1 m] using this
              have hrange := isD_range hdm
              have hv18 := valD_le18 l a m (by omega) (by omega) (fun i hi him => by
                cases i with
                | zero => exact HD.out
                | succ i =>
                  have := HN.out i (by omega) (by omega)
                  simpa [Nat.add_assoc, Nat.add_comm 1 i] using this)
              have HV := toHid (show valD ((l.drop a).take (m + 1)) = 10 * valD ((l.drop a).take m) + (l[a + m].toNat - 48) by rw [take_snoc' l a m hal, valD_snoc])
              have hr1 : (48 : Int) ≤ (l[a + m].toNat : Int) := by omega
              have hr2 : (l[a + m].toNat : Int) ≤ 57 := by omega
              clear hdm hrange
              generalize hx : valD ((l.drop a).take m) = V at *
              have HX := toHid hx
              clear hx
              go_wp2
              go_round
              case rel => exact ⟨m + 1, by omega, by go_num, by rw [HV.out]; go_num⟩
              case measure => simp [intOf]; omega
            · obtain rfl : m = j + 1 := by omega
              generalize hx : valD ((l.drop a).take (j + 1)) = V at *
              have HX := toHid hx
              clear hx
              by_cases hbig : 9223372036854775807 < (V : Int) <;> have HB := toHid hbig
              · go_wp2
                go_ret
                exact ⟨by rw [HJ.out, if_neg H19.out, if_pos HB.out]; rfl, rfl⟩
              · go_wp2
                go_ret
                exact ⟨by rw [HJ.out, if_neg H19.out, if_neg (by have := HB.out; omega)]; go_num, rfl⟩

      · have hd' : digB (l[a + 1 + j].toNat : Int) = true := hd
        have HE := toHid hd
        clear hd
        go_wp2_with (first | (go_at_call 40; refine (isDigit39 (l[a + 1 + j].toNat : Int) _).mono ?_; rintro e w' ⟨rfl, rfl⟩))
        go_round
        case rel =>
          refine ⟨j + 1, by omega, by go_num, fun i h hi => ?_⟩
          rcases Nat.lt_or_ge i j with h1 | h1
          · exact HN.out i h h1
          · obtain rfl : i = j := by omega
            exact HE.out
        case measure => simp [intOf]; omega
    · have HT := toHid (tw_len isD (l.drop (a + 1)) j (by simp; omega) (fun i hi hij => by have := HN.out i (by simp at hi; omega) hij; simpa using this) (Or.inl (by simp; omega)))
      have HJ := toHid (HR.out j HT.out)
      by_cases h19 : 19 < j + 1 <;> have H19 := toHid h19
      · go_wp2
        go_ret
        exact ⟨by rw [HJ.out, if_pos H19.out]; rfl, rfl⟩
      · go_wp2
        go_loop [6, 7] (fun n i => ∃ m : Nat, m ≤ j + 1 ∧ i = .int .i64 ((a : Int) + m) ∧ n = .int .u64 (valD ((l.drop a).take m) : Int)) (fun _ i => a + j + 1 - (intOf i).toNat)
        case atStart => exact ⟨0, by omega, by simp, rfl⟩
        case round =>
          obtain ⟨m, hm, rfl, rfl⟩ := hrel
          by_cases hmj : m < j + 1
          · have hal : a + m < l.length := by omega
            have hdm : isD l[a + m] = true := by
              cases m with
              | zero => exact HD.out
              | succ m =>
                have := HN.out m (by omega) (by omega)
                simpa [Nat.add_assoc, Nat.add_comm 1 m] using this
            have hrange := isD_range hdm
            have hv18 := valD_le18 l a m (by omega) (by omega) (fun i hi him => by
              cases i with
              | zero => exact HD.out
              | succ i =>
                have := HN.out i (by omega) (by omega)
                simpa [Nat.add_assoc, Nat.add_comm 1 i] using this)
            have HV := toHid (show valD ((l.drop a).take (m + 1)) = 10 * valD ((l.drop a).take m) + (l[a + m].toNat - 48) by rw [take_snoc' l a m hal, valD_snoc])
            have hr1 : (48 : Int) ≤ (l[a + m].toNat : Int) := by omega
            have hr2 : (l[a + m].toNat : Int) ≤ 57 := by omega
            clear hdm hrange
            generalize hx : valD ((l.drop a).take m) = V at *
            have HX := toHid hx
            clear hx
            go_wp2
            go_round
            case rel => exact ⟨m + 1, by omega, by go_num, by rw [HV.out]; go_num⟩
            case measure => simp [intOf]; omega
          · obtain rfl : m = j + 1 := by omega
            generalize hx : valD ((l.drop a).take (j + 1)) = V at *
            have HX := toHid hx
            clear hx
            by_cases hbig : 9223372036854775807 < (V : Int) <;> have HB := toHid hbig
            · go_wp2
              go_ret
              exact ⟨by rw [HJ.out, if_neg H19.out, if_pos HB.out]; rfl, rfl⟩
            · go_wp2
              go_ret
              exact ⟨by rw [HJ.out, if_neg H19.out, if_neg (by have := HB.out; omega)]; go_num, rfl⟩

end Go.Proofs.YtihgojcfpnhelaaDoor
