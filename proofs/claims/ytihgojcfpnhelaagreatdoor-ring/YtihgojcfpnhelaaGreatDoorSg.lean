import Derived.Test.YtihgojcfpnhelaaGreatDoorSf
set_option linter.unusedVariables false
set_option linter.unusedSimpArgs false
namespace Go.Proofs.YtihgojcfpnhelaaGreatDoor
open Go.RowKit

set_option maxRecDepth 100000 in
set_option maxHeartbeats 4000000 in
theorem aheadNone {S : Nat → Prop} (a : Option Addr) (c at_ : Nat) (fs : List (Nat × Fd)) (w : World) (hs : Sh w S a fs) (hl : fs.length ≤ 1000) (hat : at_ < fs.length) (hu : ∀ i (h : i < fs.length), i < at_ → (fs[i]).1 ≠ (fs[at_]).1) (hm : ∀ i (h : i < fs.length), i < at_ → mentP (fs[at_]).2.nm (fs[i]).2.p = false) (hcap : fs.length ≤ c) :
    Calls Tryz.prog 216 #[.slice a fs.length c, .pointer (some ⟨(fs[at_]).1, 0, none⟩)] w fun e w' => e = .returned (.slice a fs.length c) ∧ Below w.heap.size w w' := by
  have HI := toHid (fun W (hb : Below w.heap.size w W) => index136 a c (fs[at_]).1 at_ fs W (hs.next hb) hl hat rfl hu)
  have HX := toHid (fun W (hb : Below w.heap.size w W) (hB : W.cell? ⟨w.heap.size, 0, none⟩ = some (.pointer (some ⟨(fs[at_]).1, 0, none⟩))) (hBl : w.heap.size < W.heap.size) => indexFld a at_ c (.pointer (some ⟨w.heap.size, 0, none⟩)) W (fun j => ((fs[j]?).map fun x => x.1).getD 0) (fun _ => false) (by omega) (fun j hj => by
    obtain ⟨g, o, h1, h2, h3⟩ := (hs.next hb).ptr j (by omega)
    refine ⟨g, o, h1, Nat.lt_of_lt_of_le (hs.still g h2) hb.size, ?_⟩
    rw [h3]
    simp [show j < fs.length by omega]) (fun j hj W' hb' => by
    have hjl : j < fs.length := by omega
    have hs2 := (hs.next hb).next hb'
    have := closA (S := S) w.heap.size (fs[at_]).1 (fs[j]).1 (fs[at_]).2 (fs[j]).2 W' hs2.still (hs2.fld _ (List.getElem_mem hat)) (hs2.fld _ (List.getElem_mem hjl)) ((hb'.cell (p := ⟨w.heap.size, 0, none⟩) hBl).trans hB)
    rw [hm j hjl hj] at this
    simpa [hjl] using this))
  have hatz : (at_ : Int) ≤ (fs.length : Int) := by omega
  have hcz : (at_ : Int) ≤ (c : Int) := by omega
  obtain ⟨ga, oa, rfl, _, _⟩ := hs.ptr at_ hat
  clear hs hu hm
  generalize (fs[at_]).1 = q at *
  go_enter Tryz.func216, Tryz.ntmps216
  go_wp2_with (first | (go_at_call 165; refine (HI.out _ ((Below.refl _ _).alloc (Nat.le_refl _) _)).mono ?_; rintro e w1 ⟨rfl, rfl⟩) | (go_at_call 236; refine (HX.out _ ((Below.refl _ _).alloc (Nat.le_refl _) _) (by simp) (by simp)).mono ?_; rintro e w1 ⟨z, rfl, hz, hb1⟩; refine Hid.out ?_))
  have hzm : z = -1 := by
    rcases hz with ⟨h, _⟩ | ⟨_, _, _, h, _⟩
    · exact h
    · cases h
  subst hzm
  have HB := toHid (((Below.refl w.heap.size w).alloc (Nat.le_refl _) (.cells #[.pointer (some ⟨q, 0, none⟩)] 220)).trans (hb1.mono (by simp)))
  clear hb1
  refine toHid ?_
  go_wp2
  go_ret
  exact ⟨rfl, HB.out⟩

set_option maxRecDepth 100000 in
set_option maxHeartbeats 4000000 in
theorem behindNone {S : Nat → Prop} (a : Option Addr) (c at_ : Nat) (fs : List (Nat × Fd)) (w : World) (hs : Sh w S a fs) (hl : fs.length ≤ 1000) (hat : at_ < fs.length) (hu : ∀ i (h : i < fs.length), i < at_ → (fs[i]).1 ≠ (fs[at_]).1) (hm : ∀ i (h : i < fs.length), at_ ≤ i → mentP (fs[i]).2.nm (fs[at_]).2.p = false) :
    Calls Tryz.prog 215 #[.slice a fs.length c, .pointer (some ⟨(fs[at_]).1, 0, none⟩)] w fun e w' => e = .returned (.tuple #[.slice a fs.length c, .slice none 0 0]) ∧ Below w.heap.size w w' := by
  have HI := toHid (fun W (hb : Below w.heap.size w W) => index136 a c (fs[at_]).1 at_ fs W (hs.next hb) hl hat rfl hu)
  have HX := toHid (fun W (hb : Below w.heap.size w W) => (lastM224 a c (fs[at_]).1 (fs[at_]).2 fs W (hs.next hb) hl ((hs.next hb).fld _ (List.getElem_mem hat))).mono (R' := fun e w' => ∃ z : Int, e = .returned (.int .i64 z) ∧ z < (at_ : Int) ∧ Below W.heap.size W w') (by
    rintro e w' ⟨z, rfl, hz, hb'⟩
    refine ⟨z, rfl, ?_, hb'⟩
    rcases hz with ⟨rfl, _⟩ | ⟨j, hj, rfl, h1, _⟩
    · omega
    · rcases Nat.lt_or_ge j at_ with h | h
      · omega
      · rw [hm j hj h] at h1; cases h1))
  clear hs hu hm
  generalize (fs[at_]).1 = q at *
  go_enter Tryz.func215, Tryz.ntmps215
  go_wp2_with (first | (go_at_call 165; refine (HI.out _ (Below.refl _ _)).mono ?_; rintro e w1 ⟨rfl, rfl⟩) | (go_at_call 233; refine (HX.out _ (Below.refl _ _)).mono ?_; rintro e w1 ⟨z, rfl, hz, hb1⟩; refine Hid.out ?_))
  have HB := toHid hb1
  clear hb1
  refine toHid ?_
  go_wp2
  go_ret2
  exact ⟨rfl, HB.out⟩

end Go.Proofs.YtihgojcfpnhelaaGreatDoor
