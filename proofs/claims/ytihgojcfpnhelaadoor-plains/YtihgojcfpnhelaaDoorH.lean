import Derived.Test.YtihgojcfpnhelaaDoorG
namespace Go.Proofs.YtihgojcfpnhelaaDoor
open Go.RowKit
attribute [local go_sem] idx_eq app_eq ext_eq

theorem reachB_L (l : By) (a j : Nat) (ha : a < l.length) (hD : isD l[a] = false) (hL : isL l[a] = true) (hj : ((l.drop (a + 1)).takeWhile isLD).length = j) :
    reachB l a = if 6 < j + 1 then -1 else ((a + 1 + j : Nat) : Int) := by
  have hc : l.drop a = l[a] :: l.drop (a + 1) := List.drop_eq_getElem_cons ha
  have hr : rowLen (l.drop a) = 1 + j := by rw [hc, rowLen_L hL, hj]
  have hle : j ≤ (l.drop (a + 1)).length := by rw [← hj]; exact (List.takeWhile_prefix _).length_le
  simp at hle
  unfold reachB tokOK
  rw [hr, Nat.add_comm 1 j]
  have hh : headD ((l.drop a).take (j + 1)) = false := by rw [hc, List.take_succ_cons]; exact hD
  have hh2 : headL ((l.drop a).take (j + 1)) = true := by rw [hc, List.take_succ_cons]; exact hL
  rw [hh, hh2]
  have hlen : ((l.drop a).take (j + 1)).length = j + 1 := by simp; omega
  rw [hlen]
  by_cases h1 : 6 < j + 1
  · rw [if_pos h1]
    simp
    omega
  · rw [if_neg h1]
    simp
    omega

theorem reachB_N (l : By) (a : Nat) (ha : a < l.length) (hD : isD l[a] = false) (hL : isL l[a] = false) :
    reachB l a = if inB [l[a]] signW then ((a + 1 : Nat) : Int) else -1 := by
  have hc : l.drop a = l[a] :: l.drop (a + 1) := List.drop_eq_getElem_cons ha
  have hr : rowLen (l.drop a) = 1 := by rw [hc, rowLen_N hL hD]
  unfold reachB tokOK
  rw [hr, hc]
  simp only [List.take_succ_cons, List.take_zero]
  have hh : headD [l[a]] = false := hD
  have hh2 : headL [l[a]] = false := hL
  simp [hh, hh2]

set_option maxHeartbeats 4000000 in
theorem reach_L (l : By) (a : Nat) (w : World) (ha : a < l.length) (hl : l.length ≤ 1000) (hD : isD l[a] = false) (hL : isL l[a] = true) :
    Calls Tryd.prog 33 #[.string ⟨l.toArray⟩, .int .i64 (a : Int)] w fun e w' => e = .returned (.int .i64 (reachB l a)) ∧ w = w' := by
  have hD' : digB (l[a].toNat : Int) = false := hD
  have hL' : letB (l[a].toNat : Int) = true := hL
  have HR := toHid (fun j => reachB_L l a j ha hD hL)
  clear hD hL
  go_enter Tryd.func33, Tryd.ntmps33
  go_wp2_with (first | (go_at_call 40; refine (isDigit39 (l[a].toNat : Int) _).mono ?_; rintro e w' ⟨rfl, rfl⟩) | (go_at_call 39; refine (isLetter38 (l[a].toNat : Int) _).mono ?_; rintro e w' ⟨rfl, rfl⟩))
  go_loop [5] (fun v => ∃ j : Nat, a + 1 + j ≤ l.length ∧ v = .int .i64 ((a : Int) + 1 + j) ∧ ∀ i (h : a + 1 + i < l.length), i < j → isLD l[a + 1 + i] = true) (fun v => l.length - (intOf v).toNat)
  case atStart => exact ⟨0, by omega, by simp, fun _ _ h => by omega⟩
  case round =>
    obtain ⟨j, hj, rfl, hn⟩ := hrel
    have HN := toHid hn
    clear hn
    by_cases hlt : a + 1 + j < l.length
    · cases hx : letB (l[a + 1 + j].toNat : Int)
      · cases hy : digB (l[a + 1 + j].toNat : Int)
        · have hd : isLD l[a + 1 + j] = false := by simp [isLD, ldB, hx, hy]
          have HT := toHid (tw_len isLD (l.drop (a + 1)) j (by simp; omega) (fun i hi hij => by have := HN.out i (by simp at hi; omega) hij; simpa using this) (Or.inr ⟨by simp; omega, by simpa using hd⟩))
          clear hd
          have HJ := toHid (HR.out j HT.out)
          by_cases h6 : 6 < j + 1 <;> have H6 := toHid h6
          · go_wp2_with (first | (go_at_call 39; refine (isLetter38 (l[a + 1 + j].toNat : Int) _).mono ?_; rintro e w' ⟨rfl, rfl⟩) | (go_at_call 40; refine (isDigit39 (l[a + 1 + j].toNat : Int) _).mono ?_; rintro e w' ⟨rfl, rfl⟩))
            go_ret
            exact ⟨by rw [HJ.out, if_pos H6.out]; rfl, rfl⟩
          · go_wp2_with (first | (go_at_call 39; refine (isLetter38 (l[a + 1 + j].toNat : Int) _).mono ?_; rintro e w' ⟨rfl, rfl⟩) | (go_at_call 40; refine (isDigit39 (l[a + 1 + j].toNat : Int) _).mono ?_; rintro e w' ⟨rfl, rfl⟩))
            go_ret
            exact ⟨by rw [HJ.out, if_neg (by have := H6.out; omega)]; go_num, rfl⟩

        · have hd : isLD l[a + 1 + j] = true := by simp [isLD, ldB, hy]
          have HE := toHid hd
          clear hd
          go_wp2_with (first | (go_at_call 39; refine (isLetter38 (l[a + 1 + j].toNat : Int) _).mono ?_; rintro e w' ⟨rfl, rfl⟩) | (go_at_call 40; refine (isDigit39 (l[a + 1 + j].toNat : Int) _).mono ?_; rintro e w' ⟨rfl, rfl⟩))
          go_round
          case rel =>
            refine ⟨j + 1, by omega, by go_num, fun i h hi => ?_⟩
            rcases Nat.lt_or_ge i j with h1 | h1
            · exact HN.out i h h1
            · obtain rfl : i = j := by omega
              exact HE.out
          case measure => simp [intOf]; omega

      · have hd : isLD l[a + 1 + j] = true := by simp [isLD, ldB, hx]
        have HE := toHid hd
        clear hd
        go_wp2_with (first | (go_at_call 39; refine (isLetter38 (l[a + 1 + j].toNat : Int) _).mono ?_; rintro e w' ⟨rfl, rfl⟩))
        go_round
        case rel =>
          refine ⟨j + 1, by omega, by go_num, fun i h hi => ?_⟩
          rcases Nat.lt_or_ge i j with h1 | h1
          · exact HN.out i h h1
          · obtain rfl : i = j := by omega
            exact HE.out
        case measure => simp [intOf]; omega

    · have HT := toHid (tw_len isLD (l.drop (a + 1)) j (by simp; omega) (fun i hi hij => by have := HN.out i (by simp at hi; omega) hij; simpa using this) (Or.inl (by simp; omega)))
      have HJ := toHid (HR.out j HT.out)
      by_cases h6 : 6 < j + 1 <;> have H6 := toHid h6
      · go_wp2
        go_ret
        exact ⟨by rw [HJ.out, if_pos H6.out]; rfl, rfl⟩
      · go_wp2
        go_ret
        exact ⟨by rw [HJ.out, if_neg (by have := H6.out; omega)]; go_num, rfl⟩


set_option maxHeartbeats 1000000 in
theorem reach_N (l : By) (a : Nat) (w : World) (ha : a < l.length) (hl : l.length ≤ 1000) (hD : isD l[a] = false) (hL : isL l[a] = false) :
    Calls Tryd.prog 33 #[.string ⟨l.toArray⟩, .int .i64 (a : Int)] w fun e w' => e = .returned (.int .i64 (reachB l a)) ∧ Below w.heap.size w w' := by
  have hD' : digB (l[a].toNat : Int) = false := hD
  have hL' : letB (l[a].toNat : Int) = false := hL
  have HR := toHid (reachB_N l a ha hD hL)
  clear hD hL
  have HT := toHid (show (l.drop a).take 1 = [l[a]] by rw [List.drop_eq_getElem_cons ha]; rfl)
  cases hin : inB ((l.drop a).take 1) signW
  all_goals
    have HI := toHid hin
    go_enter Tryd.func33, Tryd.ntmps33
    go_wp2_with (first | (go_at_call 40; refine (isDigit39 (l[a].toNat : Int) _).mono ?_; rintro e w' ⟨rfl, rfl⟩) | (go_at_call 39; refine (isLetter38 (l[a].toNat : Int) _).mono ?_; rintro e w' ⟨rfl, rfl⟩) | (go_at_call 20; refine (in20 ((l.drop a).take 1) signW ⟨w.heap.size, 0, none⟩ 10 _ (by decide) (fun j h => cells_strs w signW 9 j h)).mono ?_; rintro e w' ⟨rfl, rfl⟩))
    go_ret
    exact ⟨by rw [HR.out, ← HT.out, HI.out]; first | rfl | go_num, (Below.refl _ _).alloc (Nat.le_refl _) _⟩

theorem reach32 (l : By) (a : Nat) (w : World) (ha : a < l.length) (hl : l.length ≤ 1000) :
    Calls Tryd.prog 33 #[.string ⟨l.toArray⟩, .int .i64 (a : Int)] w fun e w' => e = .returned (.int .i64 (reachB l a)) ∧ Below w.heap.size w w' := by
  cases hD : isD l[a]
  · cases hL : isL l[a]
    · exact reach_N l a w ha hl hD hL
    · exact (reach_L l a w ha hl hD hL).mono fun e w' h => ⟨h.1, h.2 ▸ Below.refl _ _⟩
  · have hL : isL l[a] = false := by
      have := isD_range hD
      simp [isL, letB]
      omega
    exact (reach_D l a w ha hl hD hL).mono fun e w' h => ⟨h.1, h.2 ▸ Below.refl _ _⟩
end Go.Proofs.YtihgojcfpnhelaaDoor
