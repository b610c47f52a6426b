import Derived.Test.YtihgojcfpnhelaaDoorZa
namespace Go.Proofs.YtihgojcfpnhelaaDoor
open Go.RowKit

theorem add_block (a : Addr) (n : Nat) : (a.add n).block = a.block := by unfold Addr.add; split <;> rfl

set_option maxRecDepth 100000 in
set_option maxHeartbeats 1000000 in
theorem plains3 (ao : Option Addr) (len cap : Nat) (K : Nat → Int) (S : Nat → By) (w : World) (hE : Env w) (hlen : len ≤ maxLen)
    (hC : ∀ j, j < len → ∃ a, ao = some a ∧ a.block < w.heap.size ∧ w.cell? (a.add (j * 3)) = some (.int .i64 (K j)) ∧ w.cell? ((a.add (j * 3)).add 2) = some (.string ⟨(S j).toArray⟩)) :
    Calls Tryd.prog 3 #[.slice ao len cap] w fun e w' => e = .returned (.bool true) ∧ Below w.heap.size w w' := by
  have HC := toHid hC
  have HE := toHid hE
  have hlen2 : len ≤ 9223372036854775807 := hlen
  clear hC hE hlen
  go_enter Tryd.func3, Tryd.ntmps3
  go_wp2_with (first | (go_at_call 4; refine (plain4 [49,43,48,50,42,45,97] w HE.out).mono ?_; rintro e w1 ⟨rfl, hb1⟩))
  go_loopw [4] (fun i wr => ∃ k : Nat, k ≤ len ∧ i = .int .i64 (k : Int) ∧ Below w.heap.size w wr) (fun i _ => len - (intOf i).toNat)
  case atStart => exact ⟨0, Nat.zero_le _, rfl, hb1⟩
  case round =>
    obtain ⟨k, hk, rfl, hb⟩ := hrel
    have hsz := hb.size
    by_cases hlt : k < len
    · obtain ⟨a, rfl, hab, c0, c2⟩ := HC.out k hlt
      have d0 := (hb.cell (p := a.add (k * 3)) (by rw [add_block]; exact hab)).trans c0
      have d2 : wr.cell? { block := (a.add (k * 3)).block, off := (a.add (k * 3)).off + 2 } = some (.string ⟨(S k).toArray⟩) := (hb.cell (p := (a.add (k * 3)).add 2) (by rw [add_block, add_block]; exact hab)).trans c2
      have HE1 := toHid (HE.out.next hb)
      clear c0 c2
      by_cases hK : K k = 1
      · rw [hK] at d0
        go_wp2_with (first | (go_at_call 4; refine (plain4 (S k) _ HE1.out).mono ?_; rintro e w2 ⟨rfl, hb2⟩))
        go_roundw
        case rel => exact ⟨k + 1, by omega, by go_num, hb.trans (hb2.mono hsz)⟩
        case measure => simp [intOf]; omega
      · have hKb : (K k == 1) = false := beq_eq_false_iff_ne.2 hK
        go_wp2
        go_roundw
        case rel => exact ⟨k + 1, by omega, by go_num, hb⟩
        case measure => simp [intOf]; omega
    · go_wp2
      go_ret
      exact ⟨rfl, hb⟩
end Go.Proofs.YtihgojcfpnhelaaDoor
