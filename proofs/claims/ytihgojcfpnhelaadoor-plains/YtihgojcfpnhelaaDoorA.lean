import Derived.Test.YtihgojcfpnhelaaDoorRows
import Derived.Test.YtihgojcfpnhelaaDoorP
import Derived.WalkKit
import Derived.WalkSpells
import Derived.WalkLawsBesides
import Derived.BigQuiet
import Derived.Deep.QuietTactic
namespace Go.Proofs.YtihgojcfpnhelaaDoor
open Go.RowKit

theorem toHid {p : Prop} (h : p) : Hid p := h

set_option maxHeartbeats 400000 in
theorem isDigit23 (n : Int) (w : World) :
    Calls Tryd.prog 23 #[.int .u8 n] w fun e w' => e = .returned (.bool (digB n)) ∧ w = w' := by
  have hd : digB n = (decide (48 ≤ n) && decide (n ≤ 57)) := by simp [digB]
  rw [hd]
  clear hd
  by_cases h : 48 ≤ n
  · by_cases h2 : n ≤ 57
    all_goals
      go_enter Tryd.func23, Tryd.ntmps23
      go_wp2
      go_ret
      exact ⟨by simp <;> omega, rfl⟩
  · go_enter Tryd.func23, Tryd.ntmps23
    go_wp2
    go_ret
    exact ⟨by simp <;> omega, rfl⟩

set_option maxHeartbeats 400000 in
theorem isDigit39 (n : Int) (w : World) :
    Calls Tryd.prog 40 #[.int .u8 n] w fun e w' => e = .returned (.bool (digB n)) ∧ w = w' := by
  have hd : digB n = (decide (48 ≤ n) && decide (n ≤ 57)) := by simp [digB]
  rw [hd]
  clear hd
  by_cases h : 48 ≤ n
  · by_cases h2 : n ≤ 57
    all_goals
      go_enter Tryd.func40, Tryd.ntmps40
      go_wp2
      go_ret
      exact ⟨by simp <;> omega, rfl⟩
  · go_enter Tryd.func40, Tryd.ntmps40
    go_wp2
    go_ret
    exact ⟨by simp <;> omega, rfl⟩

set_option maxHeartbeats 400000 in
theorem isLetter24 (n : Int) (w : World) :
    Calls Tryd.prog 24 #[.int .u8 n] w fun e w' => e = .returned (.bool (letB n)) ∧ w = w' := by
  have hd : letB n = (decide (97 ≤ n) && decide (n ≤ 122)) := by simp [letB]
  rw [hd]
  clear hd
  by_cases h : 97 ≤ n
  · by_cases h2 : n ≤ 122
    all_goals
      go_enter Tryd.func24, Tryd.ntmps24
      go_wp2
      go_ret
      exact ⟨by simp <;> omega, rfl⟩
  · go_enter Tryd.func24, Tryd.ntmps24
    go_wp2
    go_ret
    exact ⟨by simp <;> omega, rfl⟩

set_option maxHeartbeats 400000 in
theorem isLetter38 (n : Int) (w : World) :
    Calls Tryd.prog 39 #[.int .u8 n] w fun e w' => e = .returned (.bool (letB n)) ∧ w = w' := by
  have hd : letB n = (decide (97 ≤ n) && decide (n ≤ 122)) := by simp [letB]
  rw [hd]
  clear hd
  by_cases h : 97 ≤ n
  · by_cases h2 : n ≤ 122
    all_goals
      go_enter Tryd.func39, Tryd.ntmps39
      go_wp2
      go_ret
      exact ⟨by simp <;> omega, rfl⟩
  · go_enter Tryd.func39, Tryd.ntmps39
    go_wp2
    go_ret
    exact ⟨by simp <;> omega, rfl⟩

set_option maxHeartbeats 400000 in
theorem isLD25 (n : Int) (w : World) :
    Calls Tryd.prog 25 #[.int .u8 n] w fun e w' => e = .returned (.bool (ldB n)) ∧ w = w' := by
  have hd : ldB n = (letB n || digB n) := rfl
  rw [hd]
  clear hd
  cases hL : letB n
  all_goals
    go_enter Tryd.func25, Tryd.ntmps25
    go_wp2_with (first | (go_at_call 24; refine (isLetter24 _ _).mono ?_; rintro e w' ⟨rfl, rfl⟩) | (go_at_call 23; refine (isDigit23 _ _).mono ?_; rintro e w' ⟨rfl, rfl⟩))
    go_ret
    exact ⟨by simp, rfl⟩

set_option maxHeartbeats 400000 in
theorem in20 (t : By) (l : List By) (a : Addr) (c : Nat) (w : World) (hl : l.length ≤ 100)
    (hc : ∀ j (h : j < l.length), w.cell? (a.add j) = some (.string ⟨(l[j]).toArray⟩)) :
    Calls Tryd.prog 20 #[.string ⟨t.toArray⟩, .slice (some a) l.length c] w fun e w' => e = .returned (.bool (inB t l)) ∧ w = w' := by
  go_enter Tryd.func20, Tryd.ntmps20
  go_wp2
  go_loop [5] (fun i => ∃ k : Nat, k ≤ l.length ∧ i = .int .i64 k ∧ ∀ j (h : j < l.length), j < k → l[j] ≠ t) (fun i => l.length - (intOf i).toNat)
  case atStart => exact ⟨0, by omega, rfl, fun _ _ h => by omega⟩
  case round =>
    obtain ⟨k, hk, rfl, hn⟩ := hrel
    have HN := toHid hn
    clear hn
    by_cases hlt : k < l.length
    · have hck := hc k hlt
      by_cases he : l[k] = t
      · have hin : inB t l = true := by
          simp only [inB, List.contains_iff_mem]
          exact he ▸ List.getElem_mem hlt
        have heb : (l[k] == t) = true := by simp [he]
        clear he
        go_wp2
        go_ret
        exact ⟨by simp, rfl⟩
      · have heb : (l[k] == t) = false := by simp [he]
        have HE := toHid he
        clear he
        go_wp2
        go_round
        case rel =>
          refine ⟨k + 1, by omega, by go_num, fun j h hj => ?_⟩
          rcases Nat.lt_or_ge j k with h1 | h1
          · exact HN.out j h h1
          · obtain rfl : j = k := by omega
            exact HE.out
        case measure => simp [intOf]; omega
    · have hin : inB t l = false := by
        simp only [inB]
        rw [Bool.eq_false_iff]
        intro hcon
        rw [List.contains_iff_mem] at hcon
        obtain ⟨j, hj, rfl⟩ := List.getElem_of_mem hcon
        exact HN.out j hj (by omega) rfl
      go_wp2
      go_ret
      exact ⟨by simp, rfl⟩
end Go.Proofs.YtihgojcfpnhelaaDoor
