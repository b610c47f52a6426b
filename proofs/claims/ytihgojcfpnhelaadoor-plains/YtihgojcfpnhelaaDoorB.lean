import Derived.Test.YtihgojcfpnhelaaDoorA
namespace Go.Proofs.YtihgojcfpnhelaaDoor
open Go.RowKit

theorem idx_eq (l : By) (i : Nat) (h : i < (ByteArray.mk l.toArray).size) : (ByteArray.mk l.toArray)[i]'h = l[i]'(by simpa [ByteArray.size] using h) := by
  simp [ByteArray.getElem_eq_getElem_data]
attribute [local go_sem] idx_eq

/-- A row of strings in a new block. -/
theorem cells_strs (w : World) (l : List By) (T : TypeId) (j : Nat) (h : j < l.length) :
    (w.alloc (.cells (l.map fun x => Value.string ⟨x.toArray⟩).toArray T)).cell? ((⟨w.heap.size, 0, none⟩ : Addr).add j) = some (.string ⟨(l[j]).toArray⟩) := by
  rw [show (⟨w.heap.size, 0, none⟩ : Addr).add j = ⟨w.heap.size, j, none⟩ by simp [Addr.add]; intro h; exact h.symm, World.cell?_alloc_new]
  simp [h]

set_option maxHeartbeats 400000 in
theorem name19 (t : By) (w : World) :
    Calls Tryd.prog 19 #[.string ⟨t.toArray⟩] w fun e w' => e = .returned (.bool (nameB t)) ∧ Below w.heap.size w w' := by
  match t with
  | [] =>
    go_enter Tryd.func19, Tryd.ntmps19
    go_wp2
    go_ret
    exact ⟨rfl, Below.refl _ _⟩
  | c :: r =>
    have hn : nameB (c :: r) = (isL c && !inB (c :: r) sixW) := rfl
    rw [hn]
    clear hn
    by_cases hL : isL c = true
    · have hL' : letB (c.toNat : Int) = true := hL
      go_enter Tryd.func19, Tryd.ntmps19
      go_wp2_with (first | (go_at_call 39; refine (isLetter38 _ _).mono ?_; rintro e w' ⟨rfl, rfl⟩) | (go_at_call 20; refine (in20 (c :: r) sixW ⟨w.heap.size, 0, none⟩ 6 _ (by decide) (fun j h => cells_strs w sixW 9 j h)).mono ?_; rintro e w' ⟨rfl, rfl⟩))
      go_ret
      exact ⟨by simp [hL], (Below.refl _ _).alloc (Nat.le_refl _) _⟩
    · have hL' : letB (c.toNat : Int) = false := by simpa [isL] using hL
      go_enter Tryd.func19, Tryd.ntmps19
      go_wp2_with (first | (go_at_call 39; refine (isLetter38 _ _).mono ?_; rintro e w' ⟨rfl, rfl⟩))
      go_ret
      exact ⟨by simp [hL], Below.refl _ _⟩

def behB (t : By) : Bool := nameB t || decide (t = [41]) || decide (t = [116, 114, 117, 101]) || decide (t = [102, 97, 108, 115, 101]) || headD t

set_option maxHeartbeats 1000000 in
theorem behind21 (t : By) (w : World) (ht : t ≠ []) :
    Calls Tryd.prog 21 #[.string ⟨t.toArray⟩] w fun e w' => e = .returned (.bool (behB t)) ∧ Below w.heap.size w w' := by
  match t, ht with
  | c :: r, _ =>
    have hb : behB (c :: r) = (nameB (c :: r) || decide (c :: r = [41]) || decide (c :: r = [116, 114, 117, 101]) || decide (c :: r = [102, 97, 108, 115, 101]) || isD c) := rfl
    have HB := toHid hb
    clear hb
    by_cases hn : nameB (c :: r) = true
    · go_enter Tryd.func21, Tryd.ntmps21
      go_wp2_with (first | (go_at_call 19; refine (name19 _ _).mono ?_; rintro e w' ⟨rfl, hw1⟩))
      go_ret
      exact ⟨by rw [HB.out, hn]; simp, by assumption⟩
    · have hn' : nameB (c :: r) = false := by simpa using hn
      have hc1 : decide ((c :: r : By) = [41]) = ((c :: r : By) == [41]) := by rw [Bool.eq_iff_iff]; simp
      have hc2 : decide ((c :: r : By) = [116, 114, 117, 101]) = ((c :: r : By) == [116, 114, 117, 101]) := by rw [Bool.eq_iff_iff]; simp
      have hc3 : decide ((c :: r : By) = [102, 97, 108, 115, 101]) = ((c :: r : By) == [102, 97, 108, 115, 101]) := by rw [Bool.eq_iff_iff]; simp
      have HC := toHid (HB.out.trans (by rw [hc1, hc2, hc3] : _ = (nameB (c :: r) || ((c :: r : By) == [41]) || ((c :: r : By) == [116, 114, 117, 101]) || ((c :: r : By) == [102, 97, 108, 115, 101]) || isD c)))
      clear HB hc1 hc2 hc3 hn
      cases h1 : ((c :: r : By) == [41])
      · cases h2 : ((c :: r : By) == [116, 114, 117, 101])
        · cases h3 : ((c :: r : By) == [102, 97, 108, 115, 101])
          · go_enter Tryd.func21, Tryd.ntmps21
            go_wp2_with (first | (go_at_call 19; refine (name19 _ _).mono ?_; rintro e w' ⟨rfl, hw1⟩) | (go_at_call 40; refine (isDigit39 (c.toNat : Int) _).mono ?_; rintro e w' ⟨rfl, rfl⟩))
            go_ret
            exact ⟨by rw [HC.out, hn', h1, h2, h3]; rfl, by assumption⟩
          · go_enter Tryd.func21, Tryd.ntmps21
            go_wp2_with (first | (go_at_call 19; refine (name19 _ _).mono ?_; rintro e w' ⟨rfl, hw1⟩))
            go_ret
            exact ⟨by rw [HC.out, hn', h1, h2, h3]; rfl, by assumption⟩
        · go_enter Tryd.func21, Tryd.ntmps21
          go_wp2_with (first | (go_at_call 19; refine (name19 _ _).mono ?_; rintro e w' ⟨rfl, hw1⟩))
          go_ret
          exact ⟨by rw [HC.out, hn', h1, h2]; rfl, by assumption⟩
      · go_enter Tryd.func21, Tryd.ntmps21
        go_wp2_with (first | (go_at_call 19; refine (name19 _ _).mono ?_; rintro e w' ⟨rfl, hw1⟩))
        go_ret
        exact ⟨by rw [HC.out, hn', h1]; rfl, by assumption⟩

theorem ext_eq (l : By) (a b : Nat) : (ByteArray.mk l.toArray).extract a b = ⟨((l.drop a).take (b - a)).toArray⟩ := by
  apply ByteArray.ext
  rw [ByteArray.data_extract]
  apply Array.toList_inj.1
  simp [List.extract_eq_take_drop]

theorem app_eq (a b : By) : ByteArray.mk a.toArray ++ ByteArray.mk b.toArray = ⟨(a ++ b).toArray⟩ := by
  apply ByteArray.ext
  simp

def lenOf : Value → Nat | .string s => s.size | _ => 0

set_option maxHeartbeats 1000000 in
theorem short22 (t : By) (w : World) (hl : t.length ≤ 1000) :
    Calls Tryd.prog 22 #[.string ⟨t.toArray⟩] w fun e w' => e = .returned (.string ⟨(shortB t).toArray⟩) ∧ w = w' := by
  go_enter Tryd.func22, Tryd.ntmps22
  go_wp2
  go_loop [0] (fun v => ∃ u : By, u.length ≤ 1000 ∧ v = .string ⟨u.toArray⟩ ∧ shortB u = shortB t) (fun v => lenOf v)
  case atStart => exact ⟨t, hl, rfl, rfl⟩
  case round =>
    obtain ⟨u, hu, rfl, hs⟩ := hrel
    have HS := toHid hs
    clear hs
    match u, HS, hu with
    | [], HS, _ =>
      go_wp2
      go_ret
      exact ⟨by rw [← HS.out]; rfl, rfl⟩
    | [c], HS, _ =>
      go_wp2
      go_ret
      exact ⟨by rw [← HS.out]; rfl, rfl⟩
    | c :: d :: r, HS, hu =>
      have hs2 : shortB (c :: d :: r) = if c = 48 && isD d then shortB (d :: r) else c :: d :: r := rfl
      simp only [List.length_cons] at hu
      by_cases hc : c = 48
      · by_cases hd : isD d = true
        · have hd' : digB (d.toNat : Int) = true := hd
          subst hc
          go_wp2_with (first | (go_at_call 40; refine (isDigit39 (d.toNat : Int) _).mono ?_; rintro e w' ⟨rfl, rfl⟩))
          go_round
          case rel =>
            refine ⟨d :: r, by simp; omega, by rw [ext_eq]; simp, ?_⟩
            rw [← HS.out]; simp [shortB, hd]
          case measure =>
            rw [ext_eq]
            show (List.take _ (d :: r)).toArray.size < (48 :: d :: r).toArray.size
            simp
        · have hd' : digB (d.toNat : Int) = false := by simpa [isD] using hd
          subst hc
          clear hs2
          go_wp2_with (first | (go_at_call 40; refine (isDigit39 (d.toNat : Int) _).mono ?_; rintro e w' ⟨rfl, rfl⟩))
          go_ret
          exact ⟨by rw [← HS.out]; simp [shortB, hd], rfl⟩
      · have hcb : ((c.toNat : Int) == 48) = false := by
          simp only [beq_eq_false_iff_ne]
          intro h
          apply hc
          apply UInt8.toNat_inj.1
          simp; omega
        clear hs2
        go_wp2
        go_ret
        exact ⟨by rw [← HS.out]; simp [shortB, hc], rfl⟩
end Go.Proofs.YtihgojcfpnhelaaDoor
