import Derived.Test.YtihgojcfpnhelaaDoorE
namespace Go.Proofs.YtihgojcfpnhelaaDoor
open Go.RowKit
attribute [local go_sem] idx_eq app_eq ext_eq

theorem atoi_small (o : Nat) (h : o ≤ 7) : Lib.atoi [48 + UInt8.ofNat o] = some (o : Int) := by
  rcases (show o = 0 ∨ o = 1 ∨ o = 2 ∨ o = 3 ∨ o = 4 ∨ o = 5 ∨ o = 6 ∨ o = 7 by omega) with h | h | h | h | h | h | h | h <;> subst h <;> decide +kernel

theorem atoi33 (o : Nat) (w : World) (h : o ≤ 7) :
    Calls Tryd.prog 34 #[.string ⟨#[48 + UInt8.ofNat o]⟩] w fun e w' => e = .returned (.tuple #[.int .i64 (o : Int), .nilIface]) ∧ Below w.heap.size w w' :=
  (Tryd.strconv_Atoi ⟨#[48 + UInt8.ofNat o]⟩ (o : Int) (by show 1 ≤ 18; omega) (atoi_small o h) w).mono fun e w' hw => ⟨hw.1, by
    obtain ⟨t, rfl⟩ := hw.2
    exact Lib.bytesWorld_below _ _ _⟩

/-- The post of 'becomes' at a symbol. -/
def BecPost (w : World) (L : List By) (e : Ending) (w' : World) : Prop := ∃ v, e = .returned (.tuple #[v, .bool true]) ∧ Own w' w.heap.size v L ∧ Below w.heap.size w w'

set_option maxHeartbeats 400000 in
theorem bec_tok (c : UInt8) (r t : By) (w : World) (hc : c ≠ 63) :
    Calls Tryd.prog 18 #[.string ⟨(c :: r).toArray⟩, .string ⟨t.toArray⟩] w fun e w' => e = .returned (.tuple #[.slice none 0 0, .bool false]) ∧ w = w' := by
  have hcb : ((c.toNat : Int) == 63) = false := by
    simp only [beq_eq_false_iff_ne]
    intro h
    apply hc
    apply UInt8.toNat_inj.1
    simp; omega
  have hcb2 : ((c.toNat : Int) != 63) = true := by simp [bne, hcb]
  go_enter Tryd.func18, Tryd.ntmps18
  go_wp2
  go_ret2
  exact ⟨rfl, rfl⟩

set_option maxHeartbeats 400000 in
theorem bec_open_y (w : World) :
    Calls Tryd.prog 18 #[.string ⟨wOpen.toArray⟩, .string ⟨([40] : By).toArray⟩] w (BecPost w [wDeep]) := by
  unfold BecPost wOpen
  go_enter Tryd.func18, Tryd.ntmps18
  go_wp2
  go_ret2
  exact ⟨_, rfl, own_new w w [wDeep] (by decide) (Below.refl _ _)⟩

set_option maxHeartbeats 400000 in
theorem bec_open_n (t : By) (w : World) (ht : (t == [40]) = false) :
    Calls Tryd.prog 18 #[.string ⟨wOpen.toArray⟩, .string ⟨t.toArray⟩] w (BecPost w [wNone]) := by
  unfold BecPost wOpen
  go_enter Tryd.func18, Tryd.ntmps18
  go_wp2
  go_ret2
  exact ⟨_, rfl, own_new w w [wNone] (by decide) (Below.refl _ _)⟩


set_option maxHeartbeats 1000000 in
theorem bec_R (o : Nat) (t : By) (w : World) (ho : o ≤ 6)  :
    Calls Tryd.prog 18 #[.string ⟨(symB 82 o).toArray⟩, .string ⟨t.toArray⟩] w (BecPost w [symB 80 o, symB 114 o]) := by
  unfold BecPost
  rw [show symB 82 o = [63, 82, 48 + UInt8.ofNat o] from rfl]
  go_enter Tryd.func18, Tryd.ntmps18
  go_wp2_with (first | (go_at_call 34; refine (atoi33 o _ (by omega)).mono ?_; rintro e w1 ⟨rfl, hb1⟩) | (go_at_call 35; refine (sym34 _ (o : Int) _ (by omega) (by omega)).mono ?_; rintro e w' ⟨rfl, rfl⟩; rw [Int.toNat_natCast]))
  go_ret2
  exact ⟨_, rfl, own_new w _ [symB 80 o, symB 114 o] (by simp) (by assumption)⟩

set_option maxHeartbeats 1000000 in
theorem bec_P (o : Nat) (t : By) (w : World) (ho : o ≤ 6)  :
    Calls Tryd.prog 18 #[.string ⟨(symB 80 o).toArray⟩, .string ⟨t.toArray⟩] w (BecPost w [symB 84 o, symB 112 o]) := by
  unfold BecPost
  rw [show symB 80 o = [63, 80, 48 + UInt8.ofNat o] from rfl]
  go_enter Tryd.func18, Tryd.ntmps18
  go_wp2_with (first | (go_at_call 34; refine (atoi33 o _ (by omega)).mono ?_; rintro e w1 ⟨rfl, hb1⟩) | (go_at_call 35; refine (sym34 _ (o : Int) _ (by omega) (by omega)).mono ?_; rintro e w' ⟨rfl, rfl⟩; rw [Int.toNat_natCast]))
  go_ret2
  exact ⟨_, rfl, own_new w _ [symB 84 o, symB 112 o] (by simp) (by assumption)⟩

set_option maxHeartbeats 1000000 in
theorem bec_S (o : Nat) (t : By) (w : World) (ho : o ≤ 6)  :
    Calls Tryd.prog 18 #[.string ⟨(symB 83 o).toArray⟩, .string ⟨t.toArray⟩] w (BecPost w [symB 77 o, symB 115 o]) := by
  unfold BecPost
  rw [show symB 83 o = [63, 83, 48 + UInt8.ofNat o] from rfl]
  go_enter Tryd.func18, Tryd.ntmps18
  go_wp2_with (first | (go_at_call 34; refine (atoi33 o _ (by omega)).mono ?_; rintro e w1 ⟨rfl, hb1⟩) | (go_at_call 35; refine (sym34 _ (o : Int) _ (by omega) (by omega)).mono ?_; rintro e w' ⟨rfl, rfl⟩; rw [Int.toNat_natCast]))
  go_ret2
  exact ⟨_, rfl, own_new w _ [symB 77 o, symB 115 o] (by simp) (by assumption)⟩

set_option maxHeartbeats 1000000 in
theorem bec_M (o : Nat) (t : By) (w : World) (ho : o ≤ 6)  :
    Calls Tryd.prog 18 #[.string ⟨(symB 77 o).toArray⟩, .string ⟨t.toArray⟩] w (BecPost w [symB 65 o, symB 109 o]) := by
  unfold BecPost
  rw [show symB 77 o = [63, 77, 48 + UInt8.ofNat o] from rfl]
  go_enter Tryd.func18, Tryd.ntmps18
  go_wp2_with (first | (go_at_call 34; refine (atoi33 o _ (by omega)).mono ?_; rintro e w1 ⟨rfl, hb1⟩) | (go_at_call 35; refine (sym34 _ (o : Int) _ (by omega) (by omega)).mono ?_; rintro e w' ⟨rfl, rfl⟩; rw [Int.toNat_natCast]))
  go_ret2
  exact ⟨_, rfl, own_new w _ [symB 65 o, symB 109 o] (by simp) (by assumption)⟩

set_option maxHeartbeats 1000000 in
theorem bec_T (o : Nat) (t : By) (w : World) (ho : o ≤ 6) (hn : (t == [110, 111, 116]) = false) :
    Calls Tryd.prog 18 #[.string ⟨(symB 84 o).toArray⟩, .string ⟨t.toArray⟩] w (BecPost w [symB 83 o, symB 99 o]) := by
  unfold BecPost
  rw [show symB 84 o = [63, 84, 48 + UInt8.ofNat o] from rfl]
  go_enter Tryd.func18, Tryd.ntmps18
  go_wp2_with (first | (go_at_call 34; refine (atoi33 o _ (by omega)).mono ?_; rintro e w1 ⟨rfl, hb1⟩) | (go_at_call 35; refine (sym34 _ (o : Int) _ (by omega) (by omega)).mono ?_; rintro e w' ⟨rfl, rfl⟩; rw [Int.toNat_natCast]))
  go_ret2
  exact ⟨_, rfl, own_new w _ [symB 83 o, symB 99 o] (by simp) (by assumption)⟩

set_option maxHeartbeats 1000000 in
theorem bec_r (o : Nat) (t : By) (w : World) (ho : o ≤ 6)  :
    Calls Tryd.prog 18 #[.string ⟨(symB 114 o).toArray⟩, .string ⟨t.toArray⟩] w (BecPost w (moreB t [[111, 114]] 80 (some 114) o)) := by
  unfold BecPost
  rw [show symB 114 o = [63, 114, 48 + UInt8.ofNat o] from rfl]
  go_enter Tryd.func18, Tryd.ntmps18
  go_wp2_with (first | (go_at_call 34; refine (atoi33 o _ (by omega)).mono ?_; rintro e w1 ⟨rfl, hb1⟩) | (go_at_call 35; refine (sym34 _ (o : Int) _ (by omega) (by omega)).mono ?_; rintro e w' ⟨rfl, rfl⟩; rw [Int.toNat_natCast]) | (go_at_call 36; refine (more35 t [[111, 114]] ⟨w1.heap.size, 0, none⟩ _ 80 (some 114) (o : Int) _ (by omega) (by omega) (by decide) (fun j h => cells_strs w1 [[111, 114]] 9 j h)).mono ?_; rintro e w2 ⟨v2, rfl, hv2, hb2⟩; rw [Int.toNat_natCast] at hv2))
  go_ret2
  exact ⟨_, rfl, hv2.mono (by have := hb1.size; simp; omega), (hb1.alloc hb1.size _).trans (hb2.mono (by have := hb1.size; simp; omega))⟩

set_option maxHeartbeats 1000000 in
theorem bec_p (o : Nat) (t : By) (w : World) (ho : o ≤ 6)  :
    Calls Tryd.prog 18 #[.string ⟨(symB 112 o).toArray⟩, .string ⟨t.toArray⟩] w (BecPost w (moreB t [[97, 110, 100]] 84 (some 112) o)) := by
  unfold BecPost
  rw [show symB 112 o = [63, 112, 48 + UInt8.ofNat o] from rfl]
  go_enter Tryd.func18, Tryd.ntmps18
  go_wp2_with (first | (go_at_call 34; refine (atoi33 o _ (by omega)).mono ?_; rintro e w1 ⟨rfl, hb1⟩) | (go_at_call 35; refine (sym34 _ (o : Int) _ (by omega) (by omega)).mono ?_; rintro e w' ⟨rfl, rfl⟩; rw [Int.toNat_natCast]) | (go_at_call 36; refine (more35 t [[97, 110, 100]] ⟨w1.heap.size, 0, none⟩ _ 84 (some 112) (o : Int) _ (by omega) (by omega) (by decide) (fun j h => cells_strs w1 [[97, 110, 100]] 9 j h)).mono ?_; rintro e w2 ⟨v2, rfl, hv2, hb2⟩; rw [Int.toNat_natCast] at hv2))
  go_ret2
  exact ⟨_, rfl, hv2.mono (by have := hb1.size; simp; omega), (hb1.alloc hb1.size _).trans (hb2.mono (by have := hb1.size; simp; omega))⟩

set_option maxHeartbeats 1000000 in
theorem bec_c (o : Nat) (t : By) (w : World) (ho : o ≤ 6)  :
    Calls Tryd.prog 18 #[.string ⟨(symB 99 o).toArray⟩, .string ⟨t.toArray⟩] w (BecPost w (moreB t [[61], [60]] 83 none o)) := by
  unfold BecPost
  rw [show symB 99 o = [63, 99, 48 + UInt8.ofNat o] from rfl]
  go_enter Tryd.func18, Tryd.ntmps18
  go_wp2_with (first | (go_at_call 34; refine (atoi33 o _ (by omega)).mono ?_; rintro e w1 ⟨rfl, hb1⟩) | (go_at_call 35; refine (sym34 _ (o : Int) _ (by omega) (by omega)).mono ?_; rintro e w' ⟨rfl, rfl⟩; rw [Int.toNat_natCast]) | (go_at_call 36; refine (more35 t [[61], [60]] ⟨w1.heap.size, 0, none⟩ _ 83 none (o : Int) _ (by omega) (by omega) (by decide) (fun j h => cells_strs w1 [[61], [60]] 9 j h)).mono ?_; rintro e w2 ⟨v2, rfl, hv2, hb2⟩; rw [Int.toNat_natCast] at hv2))
  go_ret2
  exact ⟨_, rfl, hv2.mono (by have := hb1.size; simp; omega), (hb1.alloc hb1.size _).trans (hb2.mono (by have := hb1.size; simp; omega))⟩

set_option maxHeartbeats 1000000 in
theorem bec_s (o : Nat) (t : By) (w : World) (ho : o ≤ 6)  :
    Calls Tryd.prog 18 #[.string ⟨(symB 115 o).toArray⟩, .string ⟨t.toArray⟩] w (BecPost w (moreB t [[43], [45]] 77 (some 115) o)) := by
  unfold BecPost
  rw [show symB 115 o = [63, 115, 48 + UInt8.ofNat o] from rfl]
  go_enter Tryd.func18, Tryd.ntmps18
  go_wp2_with (first | (go_at_call 34; refine (atoi33 o _ (by omega)).mono ?_; rintro e w1 ⟨rfl, hb1⟩) | (go_at_call 35; refine (sym34 _ (o : Int) _ (by omega) (by omega)).mono ?_; rintro e w' ⟨rfl, rfl⟩; rw [Int.toNat_natCast]) | (go_at_call 36; refine (more35 t [[43], [45]] ⟨w1.heap.size, 0, none⟩ _ 77 (some 115) (o : Int) _ (by omega) (by omega) (by decide) (fun j h => cells_strs w1 [[43], [45]] 9 j h)).mono ?_; rintro e w2 ⟨v2, rfl, hv2, hb2⟩; rw [Int.toNat_natCast] at hv2))
  go_ret2
  exact ⟨_, rfl, hv2.mono (by have := hb1.size; simp; omega), (hb1.alloc hb1.size _).trans (hb2.mono (by have := hb1.size; simp; omega))⟩

set_option maxHeartbeats 1000000 in
theorem bec_m (o : Nat) (t : By) (w : World) (ho : o ≤ 6)  :
    Calls Tryd.prog 18 #[.string ⟨(symB 109 o).toArray⟩, .string ⟨t.toArray⟩] w (BecPost w (moreB t [[42], [47], [37]] 65 (some 109) o)) := by
  unfold BecPost
  rw [show symB 109 o = [63, 109, 48 + UInt8.ofNat o] from rfl]
  go_enter Tryd.func18, Tryd.ntmps18
  go_wp2_with (first | (go_at_call 34; refine (atoi33 o _ (by omega)).mono ?_; rintro e w1 ⟨rfl, hb1⟩) | (go_at_call 35; refine (sym34 _ (o : Int) _ (by omega) (by omega)).mono ?_; rintro e w' ⟨rfl, rfl⟩; rw [Int.toNat_natCast]) | (go_at_call 36; refine (more35 t [[42], [47], [37]] ⟨w1.heap.size, 0, none⟩ _ 65 (some 109) (o : Int) _ (by omega) (by omega) (by decide) (fun j h => cells_strs w1 [[42], [47], [37]] 9 j h)).mono ?_; rintro e w2 ⟨v2, rfl, hv2, hb2⟩; rw [Int.toNat_natCast] at hv2))
  go_ret2
  exact ⟨_, rfl, hv2.mono (by have := hb1.size; simp; omega), (hb1.alloc hb1.size _).trans (hb2.mono (by have := hb1.size; simp; omega))⟩

set_option maxHeartbeats 1000000 in
theorem bec_Tn (o : Nat) (t : By) (w : World) (ho : o ≤ 6) (hn : (t == [110, 111, 116]) = true) :
    Calls Tryd.prog 18 #[.string ⟨(symB 84 o).toArray⟩, .string ⟨t.toArray⟩] w (BecPost w (deepB t 84 o)) := by
  unfold BecPost
  rw [show symB 84 o = [63, 84, 48 + UInt8.ofNat o] from rfl]
  go_enter Tryd.func18, Tryd.ntmps18
  go_wp2_with (first | (go_at_call 34; refine (atoi33 o _ (by omega)).mono ?_; rintro e w1 ⟨rfl, hb1⟩) | (go_at_call 35; refine (sym34 _ (o : Int) _ (by omega) (by omega)).mono ?_; rintro e w' ⟨rfl, rfl⟩; rw [Int.toNat_natCast]) | (go_at_call 37; refine (deep36 t 84 (o : Int) _ (by omega) (by omega)).mono ?_; rintro e w2 ⟨v2, rfl, hv2, hb2⟩; rw [Int.toNat_natCast] at hv2))
  go_ret2
  exact ⟨_, rfl, hv2.mono hb1.size, hb1.trans (hb2.mono hb1.size)⟩

set_option maxHeartbeats 1000000 in
theorem bec_A (o : Nat) (t : By) (w : World) (ho : o ≤ 6)  :
    Calls Tryd.prog 18 #[.string ⟨(symB 65 o).toArray⟩, .string ⟨t.toArray⟩] w (BecPost w (atomB t o)) := by
  unfold BecPost
  rw [show symB 65 o = [63, 65, 48 + UInt8.ofNat o] from rfl]
  go_enter Tryd.func18, Tryd.ntmps18
  go_wp2_with (first | (go_at_call 34; refine (atoi33 o _ (by omega)).mono ?_; rintro e w1 ⟨rfl, hb1⟩) | (go_at_call 35; refine (sym34 _ (o : Int) _ (by omega) (by omega)).mono ?_; rintro e w' ⟨rfl, rfl⟩; rw [Int.toNat_natCast]) | (go_at_call 38; refine (atom37 t (o : Int) _ (by omega) (by omega)).mono ?_; rintro e w2 ⟨v2, rfl, hv2, hb2⟩; rw [Int.toNat_natCast] at hv2))
  go_ret2
  exact ⟨_, rfl, hv2.mono hb1.size, hb1.trans (hb2.mono hb1.size)⟩

end Go.Proofs.YtihgojcfpnhelaaDoor
