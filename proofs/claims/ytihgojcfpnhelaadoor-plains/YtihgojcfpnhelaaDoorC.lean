import Derived.Test.YtihgojcfpnhelaaDoorB
namespace Go.Proofs.YtihgojcfpnhelaaDoor
open Go.RowKit
attribute [local go_sem] idx_eq

theorem tw_len (p : UInt8 → Bool) (r : By) (m : Nat) (hm : m ≤ r.length) (h1 : ∀ j (h : j < r.length), j < m → p r[j] = true)
    (h2 : m = r.length ∨ ∃ h : m < r.length, p (r[m]'h) = false) : (r.takeWhile p).length = m := by
  induction r generalizing m with
  | nil => simp at hm; simp [hm]
  | cons c r ih =>
    cases m with
    | zero =>
      rcases h2 with h | ⟨h, hp⟩
      · simp at h
      · simp at hp
        simp [hp]
    | succ m =>
      have hc : p c = true := h1 0 (by simp) (by omega)
      simp [hc]
      apply ih m (by simpa using hm)
      · intro j h hj
        exact h1 (j + 1) (by simpa using h) (by omega)
      · rcases h2 with h | ⟨h, hp⟩
        · left; simpa using h
        · right
          exact ⟨by simpa using h, by simpa using hp⟩

theorem rowLen_L {c : UInt8} {r : By} (h : isL c = true) : rowLen (c :: r) = 1 + (r.takeWhile isLD).length := by simp [rowLen, h]
theorem rowLen_D {c : UInt8} {r : By} (h : isL c = false) (h2 : isD c = true) : rowLen (c :: r) = 1 + (r.takeWhile isD).length := by simp [rowLen, h, h2]
theorem rowLen_N {c : UInt8} {r : By} (h : isL c = false) (h2 : isD c = false) : rowLen (c :: r) = 1 := by simp [rowLen, h, h2]

set_option maxHeartbeats 1000000 in
theorem firstRow12 (c : UInt8) (r : By) (w : World) (hl : r.length ≤ 1000) :
    Calls Tryd.prog 12 #[.string ⟨(c :: r).toArray⟩] w fun e w' => e = .returned (.string ⟨((c :: r).take (rowLen (c :: r))).toArray⟩) ∧ w = w' := by
  cases hL : isL c
  · have hL' : letB (c.toNat : Int) = false := hL
    cases hD : isD c
    · have hD' : digB (c.toNat : Int) = false := hD
      have HR := toHid (rowLen_N (r := r) hL hD)
      go_enter Tryd.func12, Tryd.ntmps12
      go_wp2_with (first | (go_at_call 24; refine (isLetter24 (c.toNat : Int) _).mono ?_; rintro e w' ⟨rfl, rfl⟩) | (go_at_call 23; refine (isDigit23 (c.toNat : Int) _).mono ?_; rintro e w' ⟨rfl, rfl⟩))
      go_ret
      exact ⟨by rw [HR.out, ext_eq]; rfl, rfl⟩
    · have hD' : digB (c.toNat : Int) = true := hD
      have HR := toHid (rowLen_D (r := r) hL hD)
      go_enter Tryd.func12, Tryd.ntmps12
      go_wp2_with (first | (go_at_call 24; refine (isLetter24 (c.toNat : Int) _).mono ?_; rintro e w' ⟨rfl, rfl⟩) | (go_at_call 23; refine (isDigit23 (c.toNat : Int) _).mono ?_; rintro e w' ⟨rfl, rfl⟩))
      go_loop [4] (fun i => ∃ k : Nat, k ≤ r.length ∧ i = .int .i64 ((k : Int) + 1) ∧ ∀ j (h : j < r.length), j < k → isD r[j] = true) (fun i => r.length + 1 - (intOf i).toNat)
      case atStart => exact ⟨0, by omega, rfl, fun _ _ h => by omega⟩
      case round =>
        obtain ⟨k, hk, rfl, hn⟩ := hrel
        have HN := toHid hn
        clear hn
        by_cases hlt : k < r.length
        · cases hd : isD r[k]
          · have hd' : digB (r[k].toNat : Int) = false := hd
            have HT := toHid (tw_len isD r k (by omega) HN.out (Or.inr ⟨hlt, hd⟩))
            go_wp2_with (first | (go_at_call 23; refine (isDigit23 (r[k].toNat : Int) _).mono ?_; rintro e w' ⟨rfl, rfl⟩))
            go_ret
            exact ⟨by rw [HR.out, HT.out, ext_eq, Nat.add_comm 1 k]; rfl, rfl⟩
          · have hd' : digB (r[k].toNat : Int) = true := hd
            have HD := toHid hd
            clear hd
            go_wp2_with (first | (go_at_call 23; refine (isDigit23 (r[k].toNat : Int) _).mono ?_; rintro e w' ⟨rfl, rfl⟩))
            go_round
            case rel =>
              refine ⟨k + 1, by omega, by go_num, fun j h hj => ?_⟩
              rcases Nat.lt_or_ge j k with h1 | h1
              · exact HN.out j h h1
              · obtain rfl : j = k := by omega
                exact HD.out
            case measure => simp [intOf]; omega
        · have HT := toHid (tw_len isD r k (by omega) HN.out (Or.inl (by omega)))
          go_wp2
          go_ret
          exact ⟨by rw [HR.out, HT.out, ext_eq, Nat.add_comm 1 k]; rfl, rfl⟩
  · have hL' : letB (c.toNat : Int) = true := hL
    · have hD' : ldB (c.toNat : Int) = true := by simp [ldB, hL']
      have HR := toHid (rowLen_L (r := r) hL)
      go_enter Tryd.func12, Tryd.ntmps12
      go_wp2_with (first | (go_at_call 24; refine (isLetter24 (c.toNat : Int) _).mono ?_; rintro e w' ⟨rfl, rfl⟩) | (go_at_call 25; refine (isLD25 (c.toNat : Int) _).mono ?_; rintro e w' ⟨rfl, rfl⟩))
      go_loop [4] (fun i => ∃ k : Nat, k ≤ r.length ∧ i = .int .i64 ((k : Int) + 1) ∧ ∀ j (h : j < r.length), j < k → isLD r[j] = true) (fun i => r.length + 1 - (intOf i).toNat)
      case atStart => exact ⟨0, by omega, rfl, fun _ _ h => by omega⟩
      case round =>
        obtain ⟨k, hk, rfl, hn⟩ := hrel
        have HN := toHid hn
        clear hn
        by_cases hlt : k < r.length
        · cases hd : isLD r[k]
          · have hd' : ldB (r[k].toNat : Int) = false := hd
            have HT := toHid (tw_len isLD r k (by omega) HN.out (Or.inr ⟨hlt, hd⟩))
            go_wp2_with (first | (go_at_call 25; refine (isLD25 (r[k].toNat : Int) _).mono ?_; rintro e w' ⟨rfl, rfl⟩))
            go_ret
            exact ⟨by rw [HR.out, HT.out, ext_eq, Nat.add_comm 1 k]; rfl, rfl⟩
          · have hd' : ldB (r[k].toNat : Int) = true := hd
            have HD := toHid hd
            clear hd
            go_wp2_with (first | (go_at_call 25; refine (isLD25 (r[k].toNat : Int) _).mono ?_; rintro e w' ⟨rfl, rfl⟩))
            go_round
            case rel =>
              refine ⟨k + 1, by omega, by go_num, fun j h hj => ?_⟩
              rcases Nat.lt_or_ge j k with h1 | h1
              · exact HN.out j h h1
              · obtain rfl : j = k := by omega
                exact HD.out
            case measure => simp [intOf]; omega
        · have HT := toHid (tw_len isLD r k (by omega) HN.out (Or.inl (by omega)))
          go_wp2
          go_ret
          exact ⟨by rw [HR.out, HT.out, ext_eq, Nat.add_comm 1 k]; rfl, rfl⟩
end Go.Proofs.YtihgojcfpnhelaaDoor
