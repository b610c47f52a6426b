import Derived.Test.YtihgojcfpnhelaaDoorD
namespace Go.Proofs.YtihgojcfpnhelaaDoor
open Go.RowKit
attribute [local go_sem] idx_eq app_eq

theorem Own.mono {w : World} {B B' : Nat} {v : Value} {l : List By} (h : Own w B v l) (hB : B' ≤ B) : Own w B' v l := by
  refine ⟨h.1, ?_⟩
  rcases h.2 with h2 | ⟨g, cap, cur, hv, hg, r⟩
  · exact Or.inl h2
  · exact Or.inr ⟨g, cap, cur, hv, by omega, r⟩

theorem own_new (w0 w : World) (l : List By) (hl : l.length ≤ 1000) (hb : Below w0.heap.size w0 w) :
    Own (w.alloc (.cells (strs l).toArray 9)) w0.heap.size (.slice (some ⟨w.heap.size, 0, none⟩) l.length l.length) l ∧ Below w0.heap.size w0 (w.alloc (.cells (strs l).toArray 9)) :=
  ⟨(own_lit w l hl).mono hb.size, hb.alloc hb.size _⟩

/-- An ATOM's post. -/
def AtomPost (w : World) (L : List By) (e : Ending) (w' : World) : Prop := ∃ v, e = .returned v ∧ Own w' w.heap.size v L ∧ Below w.heap.size w w'


set_option maxHeartbeats 1000000 in
theorem atom_d (c : UInt8) (r : By) (o : Nat) (w : World) (ho : o ≤ 6) (hD : digB (c.toNat : Int) = true) :
    Calls Tryd.prog 38 #[.string ⟨(c :: r).toArray⟩, .int .i64 (o : Int)] w (AtomPost w [c :: r]) := by
  unfold AtomPost
  go_enter Tryd.func38, Tryd.ntmps38
  go_wp2_with (first | (go_at_call 35; refine (sym34 _ ((o : Int) + 1) _ (by omega) (by omega)).mono ?_; rintro e w' ⟨rfl, rfl⟩; rw [show ((o : Int) + 1).toNat = o + 1 by omega]) | (go_at_call 19; refine (name19 _ _).mono ?_; rintro e w1 ⟨rfl, hb1⟩) | (go_at_call 40; refine (isDigit39 (c.toNat : Int) _).mono ?_; rintro e w' ⟨rfl, rfl⟩))
  go_ret
  exact ⟨_, rfl, own_new w _ [c :: r] (by simp) (by assumption)⟩

set_option maxHeartbeats 1000000 in
theorem atom_t (c : UInt8) (r : By) (o : Nat) (w : World) (ho : o ≤ 6) (hD : digB (c.toNat : Int) = false) (hT : ((c :: r : By) == [116, 114, 117, 101]) = true) :
    Calls Tryd.prog 38 #[.string ⟨(c :: r).toArray⟩, .int .i64 (o : Int)] w (AtomPost w [c :: r]) := by
  unfold AtomPost
  go_enter Tryd.func38, Tryd.ntmps38
  go_wp2_with (first | (go_at_call 35; refine (sym34 _ ((o : Int) + 1) _ (by omega) (by omega)).mono ?_; rintro e w' ⟨rfl, rfl⟩; rw [show ((o : Int) + 1).toNat = o + 1 by omega]) | (go_at_call 19; refine (name19 _ _).mono ?_; rintro e w1 ⟨rfl, hb1⟩) | (go_at_call 40; refine (isDigit39 (c.toNat : Int) _).mono ?_; rintro e w' ⟨rfl, rfl⟩))
  go_ret
  exact ⟨_, rfl, own_new w _ [c :: r] (by simp) (by assumption)⟩

set_option maxHeartbeats 1000000 in
theorem atom_f (c : UInt8) (r : By) (o : Nat) (w : World) (ho : o ≤ 6) (hD : digB (c.toNat : Int) = false) (hT : ((c :: r : By) == [116, 114, 117, 101]) = false) (hF : ((c :: r : By) == [102, 97, 108, 115, 101]) = true) :
    Calls Tryd.prog 38 #[.string ⟨(c :: r).toArray⟩, .int .i64 (o : Int)] w (AtomPost w [c :: r]) := by
  unfold AtomPost
  go_enter Tryd.func38, Tryd.ntmps38
  go_wp2_with (first | (go_at_call 35; refine (sym34 _ ((o : Int) + 1) _ (by omega) (by omega)).mono ?_; rintro e w' ⟨rfl, rfl⟩; rw [show ((o : Int) + 1).toNat = o + 1 by omega]) | (go_at_call 19; refine (name19 _ _).mono ?_; rintro e w1 ⟨rfl, hb1⟩) | (go_at_call 40; refine (isDigit39 (c.toNat : Int) _).mono ?_; rintro e w' ⟨rfl, rfl⟩))
  go_ret
  exact ⟨_, rfl, own_new w _ [c :: r] (by simp) (by assumption)⟩

set_option maxHeartbeats 1000000 in
theorem atom_n (c : UInt8) (r : By) (o : Nat) (w : World) (ho : o ≤ 6) (hD : digB (c.toNat : Int) = false) (hT : ((c :: r : By) == [116, 114, 117, 101]) = false) (hF : ((c :: r : By) == [102, 97, 108, 115, 101]) = false) (hN : nameB (c :: r) = true) :
    Calls Tryd.prog 38 #[.string ⟨(c :: r).toArray⟩, .int .i64 (o : Int)] w (AtomPost w [c :: r]) := by
  unfold AtomPost
  go_enter Tryd.func38, Tryd.ntmps38
  go_wp2_with (first | (go_at_call 35; refine (sym34 _ ((o : Int) + 1) _ (by omega) (by omega)).mono ?_; rintro e w' ⟨rfl, rfl⟩; rw [show ((o : Int) + 1).toNat = o + 1 by omega]) | (go_at_call 19; refine (name19 _ _).mono ?_; rintro e w1 ⟨rfl, hb1⟩) | (go_at_call 40; refine (isDigit39 (c.toNat : Int) _).mono ?_; rintro e w' ⟨rfl, rfl⟩))
  go_ret
  exact ⟨_, rfl, own_new w _ [c :: r] (by simp) (by assumption)⟩

set_option maxHeartbeats 1000000 in
theorem atom_m (c : UInt8) (r : By) (o : Nat) (w : World) (ho : o ≤ 6) (hD : digB (c.toNat : Int) = false) (hT : ((c :: r : By) == [116, 114, 117, 101]) = false) (hF : ((c :: r : By) == [102, 97, 108, 115, 101]) = false) (hN : nameB (c :: r) = false) (hM : ((c :: r : By) == [45]) = true) :
    Calls Tryd.prog 38 #[.string ⟨(c :: r).toArray⟩, .int .i64 (o : Int)] w (AtomPost w (deepB (c :: r) 65 o)) := by
  unfold AtomPost
  go_enter Tryd.func38, Tryd.ntmps38
  go_wp2_with (first | (go_at_call 35; refine (sym34 _ ((o : Int) + 1) _ (by omega) (by omega)).mono ?_; rintro e w' ⟨rfl, rfl⟩; rw [show ((o : Int) + 1).toNat = o + 1 by omega]) | (go_at_call 19; refine (name19 _ _).mono ?_; rintro e w1 ⟨rfl, hb1⟩) | (go_at_call 40; refine (isDigit39 (c.toNat : Int) _).mono ?_; rintro e w' ⟨rfl, rfl⟩) | (go_at_call 37; refine (deep36 (c :: r) 65 (o : Int) _ (by omega) (by omega)).mono ?_; rintro e w2 ⟨v2, rfl, hv2, hb2⟩; rw [Int.toNat_natCast] at hv2))
  go_ret
  exact ⟨_, rfl, hv2.mono hb1.size, hb1.trans (hb2.mono hb1.size)⟩

set_option maxHeartbeats 1000000 in
theorem atom_i6 (c : UInt8) (r : By) (o : Nat) (w : World) (ho : o ≤ 6) (hD : digB (c.toNat : Int) = false) (hT : ((c :: r : By) == [116, 114, 117, 101]) = false) (hF : ((c :: r : By) == [102, 97, 108, 115, 101]) = false) (hN : nameB (c :: r) = false) (hM : ((c :: r : By) == [45]) = false) (hO : ((c :: r : By) == [40]) = false) (hI : ((c :: r : By) == [105, 102]) = true) (h6 : 6 ≤ o) :
    Calls Tryd.prog 38 #[.string ⟨(c :: r).toArray⟩, .int .i64 (o : Int)] w (AtomPost w [[105, 102], wOpen]) := by
  unfold AtomPost
  go_enter Tryd.func38, Tryd.ntmps38
  go_wp2_with (first | (go_at_call 35; refine (sym34 _ ((o : Int) + 1) _ (by omega) (by omega)).mono ?_; rintro e w' ⟨rfl, rfl⟩; rw [show ((o : Int) + 1).toNat = o + 1 by omega]) | (go_at_call 19; refine (name19 _ _).mono ?_; rintro e w1 ⟨rfl, hb1⟩) | (go_at_call 40; refine (isDigit39 (c.toNat : Int) _).mono ?_; rintro e w' ⟨rfl, rfl⟩))
  go_ret
  exact ⟨_, rfl, own_new w _ [[105, 102], wOpen] (by simp) (by assumption)⟩

set_option maxHeartbeats 1000000 in
theorem atom_i (c : UInt8) (r : By) (o : Nat) (w : World) (ho : o ≤ 6) (hD : digB (c.toNat : Int) = false) (hT : ((c :: r : By) == [116, 114, 117, 101]) = false) (hF : ((c :: r : By) == [102, 97, 108, 115, 101]) = false) (hN : nameB (c :: r) = false) (hM : ((c :: r : By) == [45]) = false) (hO : ((c :: r : By) == [40]) = false) (hI : ((c :: r : By) == [105, 102]) = true) (h6 : o < 6) :
    Calls Tryd.prog 38 #[.string ⟨(c :: r).toArray⟩, .int .i64 (o : Int)] w (AtomPost w [[105, 102], [40], symB 82 (o + 1), [44], symB 82 (o + 1), [44], symB 82 (o + 1), [41]]) := by
  unfold AtomPost
  go_enter Tryd.func38, Tryd.ntmps38
  go_wp2_with (first | (go_at_call 35; refine (sym34 _ ((o : Int) + 1) _ (by omega) (by omega)).mono ?_; rintro e w' ⟨rfl, rfl⟩; rw [show ((o : Int) + 1).toNat = o + 1 by omega]) | (go_at_call 19; refine (name19 _ _).mono ?_; rintro e w1 ⟨rfl, hb1⟩) | (go_at_call 40; refine (isDigit39 (c.toNat : Int) _).mono ?_; rintro e w' ⟨rfl, rfl⟩))
  go_ret
  exact ⟨_, rfl, own_new w _ [[105, 102], [40], symB 82 (o + 1), [44], symB 82 (o + 1), [44], symB 82 (o + 1), [41]] (by simp) (by assumption)⟩

set_option maxHeartbeats 1000000 in
theorem atom_z (c : UInt8) (r : By) (o : Nat) (w : World) (ho : o ≤ 6) (hD : digB (c.toNat : Int) = false) (hT : ((c :: r : By) == [116, 114, 117, 101]) = false) (hF : ((c :: r : By) == [102, 97, 108, 115, 101]) = false) (hN : nameB (c :: r) = false) (hM : ((c :: r : By) == [45]) = false) (hO : ((c :: r : By) == [40]) = false) (hI : ((c :: r : By) == [105, 102]) = false) :
    Calls Tryd.prog 38 #[.string ⟨(c :: r).toArray⟩, .int .i64 (o : Int)] w (AtomPost w [wNone]) := by
  unfold AtomPost
  go_enter Tryd.func38, Tryd.ntmps38
  go_wp2_with (first | (go_at_call 35; refine (sym34 _ ((o : Int) + 1) _ (by omega) (by omega)).mono ?_; rintro e w' ⟨rfl, rfl⟩; rw [show ((o : Int) + 1).toNat = o + 1 by omega]) | (go_at_call 19; refine (name19 _ _).mono ?_; rintro e w1 ⟨rfl, hb1⟩) | (go_at_call 40; refine (isDigit39 (c.toNat : Int) _).mono ?_; rintro e w' ⟨rfl, rfl⟩))
  go_ret
  exact ⟨_, rfl, own_new w _ [wNone] (by simp) (by assumption)⟩

set_option maxHeartbeats 1000000 in
theorem atom_o (c : UInt8) (r : By) (o : Nat) (w : World) (ho : o ≤ 6) (hD : digB (c.toNat : Int) = false) (hT : ((c :: r : By) == [116, 114, 117, 101]) = false) (hF : ((c :: r : By) == [102, 97, 108, 115, 101]) = false) (hN : nameB (c :: r) = false) (hM : ((c :: r : By) == [45]) = false) (hO : ((c :: r : By) == [40]) = true) :
    Calls Tryd.prog 38 #[.string ⟨(c :: r).toArray⟩, .int .i64 (o : Int)] w (AtomPost w (deepB (c :: r) 82 o ++ [[41]])) := by
  unfold AtomPost
  obtain ⟨i0, hi, hz0, hz1, hz2⟩ := info_parts info9
  go_enter Tryd.func38, Tryd.ntmps38
  go_wp2_with (first | (go_at_call 35; refine (sym34 _ ((o : Int) + 1) _ (by omega) (by omega)).mono ?_; rintro e w' ⟨rfl, rfl⟩; rw [show ((o : Int) + 1).toNat = o + 1 by omega]) | (go_at_call 19; refine (name19 _ _).mono ?_; rintro e w1 ⟨rfl, hb1⟩) | (go_at_call 40; refine (isDigit39 (c.toNat : Int) _).mono ?_; rintro e w' ⟨rfl, rfl⟩) | (go_at_call 37; refine (deep36 (c :: r) 82 (o : Int) _ (by omega) (by omega)).mono ?_; rintro e w2 ⟨v2, rfl, hv2, hb2⟩; rw [Int.toNat_natCast] at hv2; refine Hid.out ?_))
  refine toHid ?_
  have hdl : (deepB (c :: r) 82 o).length ≤ 2 := by unfold deepB; split <;> simp
  have hs2 := hb2.size
  have hs1 := hb1.size
  go_wp2_with (first | (at_builtin; refine wpList_append_own _ rfl (.tmp 44) (.tmp 45) 45 rfl w1.heap.size 9 i0 (.string ⟨#[]⟩) 1 16 Tryd.underlying45 hi hz0 hz1 hz2 rfl (by decide) v2 (deepB (c :: r) 82 o).length (strs (deepB (c :: r) 82 o)) rfl (hv2.alloc _) ⟨w2.heap.size, 0, none⟩ 1 1 [.string ⟨#[41]⟩] rfl rfl ?c1 ?c2 ?c3 ?c4 ?c5 ?_))
  case c1 =>
    intro j u hj
    match j, hj with
    | 0, hj => simp at hj; subst hj; simp [Addr.add]
  case c2 => intro u hu; simp at hu; subst hu; rfl
  case c3 => unfold maxLen; omega
  case c4 => omega
  case c5 => simp; omega
  intro v' w3 hown' hgrow _
  go_wp2
  go_ret
  have hw3 : Own w3 w1.heap.size v' (deepB (c :: r) 82 o ++ [[41]]) := by
    show w3.ownsRow _ 9 1 v' _ _
    rw [List.length_append]
    simpa [strs] using hown'
  exact ⟨_, rfl, hw3.mono hb1.size, (hb1.trans (hb2.mono hb1.size)).trans (((Below.refl _ _).alloc (by omega) _).grown hgrow (by simp; omega) (fun k hk => by have := (World.ownsRow.lt hv2 k hk).1; have := hb1.size; omega))⟩

set_option maxHeartbeats 1000000 in
theorem atom_e (o : Nat) (w : World) (ho : o ≤ 6) :
    Calls Tryd.prog 38 #[.string ⟨([] : By).toArray⟩, .int .i64 (o : Int)] w (AtomPost w [wNone]) := by
  unfold AtomPost
  go_enter Tryd.func38, Tryd.ntmps38
  go_wp2_with (first | (go_at_call 35; refine (sym34 _ ((o : Int) + 1) _ (by omega) (by omega)).mono ?_; rintro e w' ⟨rfl, rfl⟩; rw [show ((o : Int) + 1).toNat = o + 1 by omega]) | (go_at_call 19; refine (name19 [] _).mono ?_; rintro e w1 ⟨rfl, hb1⟩))
  go_ret
  exact ⟨_, rfl, own_new w _ [wNone] (by simp) (by assumption)⟩

theorem atom37 (t : By) (n : Int) (w : World) (h0 : 0 ≤ n) (h1 : n ≤ 6) :
    Calls Tryd.prog 38 #[.string ⟨t.toArray⟩, .int .i64 n] w fun e w' => ∃ v, e = .returned v ∧ Own w' w.heap.size v (atomB t n.toNat) ∧ Below w.heap.size w w' := by
  obtain ⟨o, rfl⟩ := Int.eq_ofNat_of_zero_le h0
  rw [Int.toNat_natCast]
  show Calls Tryd.prog 38 _ w (AtomPost w (atomB t o))
  have ho : o ≤ 6 := by omega
  match t with
  | [] => exact atom_e o w ho
  | c :: r =>
    have hh : headD (c :: r) = digB (c.toNat : Int) := rfl
    by_cases hD : digB (c.toNat : Int) = true
    · rw [show atomB (c :: r) o = [c :: r] by simp [atomB, hh, hD]]
      exact atom_d c r o w ho hD
    by_cases hT : (c :: r : By) = [116, 114, 117, 101]
    · rw [show atomB (c :: r) o = [c :: r] by simp [atomB, hT]]
      exact atom_t c r o w ho (by simpa using hD) (by simp [hT])
    by_cases hF : (c :: r : By) = [102, 97, 108, 115, 101]
    · rw [show atomB (c :: r) o = [c :: r] by simp [atomB, hF]]
      exact atom_f c r o w ho (by simpa using hD) (beq_eq_false_iff_ne.2 hT) (by simp [hF])
    by_cases hN : nameB (c :: r) = true
    · rw [show atomB (c :: r) o = [c :: r] by simp [atomB, hN]]
      exact atom_n c r o w ho (by simpa using hD) (beq_eq_false_iff_ne.2 hT) (beq_eq_false_iff_ne.2 hF) hN
    have hD' : digB (c.toNat : Int) = false := by simpa using hD
    have hT' : ((c :: r : By) == [116, 114, 117, 101]) = false := beq_eq_false_iff_ne.2 hT
    have hF' : ((c :: r : By) == [102, 97, 108, 115, 101]) = false := beq_eq_false_iff_ne.2 hF
    have hN' : nameB (c :: r) = false := by simpa using hN
    have hA : atomB (c :: r) o = (if (c :: r : By) = [45] then deepB (c :: r) 65 o
        else if (c :: r : By) = [40] then deepB (c :: r) 82 o ++ [[41]]
        else if (c :: r : By) = [105, 102] && decide (6 ≤ o) then [[105, 102], wOpen]
        else if (c :: r : By) = [105, 102] then [[105, 102], [40], symB 82 (o + 1), [44], symB 82 (o + 1), [44], symB 82 (o + 1), [41]]
        else [wNone]) := by
      unfold atomB
      rw [if_neg (by simp), if_neg (by rw [hh, hD', hN']; simp [hT, hF])]
    rw [hA]
    by_cases hM : (c :: r : By) = [45]
    · rw [if_pos hM]
      exact atom_m c r o w ho hD' hT' hF' hN' (by simp [hM])
    rw [if_neg hM]
    have hM' : ((c :: r : By) == [45]) = false := beq_eq_false_iff_ne.2 hM
    by_cases hO : (c :: r : By) = [40]
    · rw [if_pos hO]
      exact atom_o c r o w ho hD' hT' hF' hN' hM' (by simp [hO])
    rw [if_neg hO]
    have hO' : ((c :: r : By) == [40]) = false := beq_eq_false_iff_ne.2 hO
    by_cases hI : (c :: r : By) = [105, 102]
    · by_cases h6 : 6 ≤ o
      · rw [if_pos (by simp [hI, h6])]
        exact atom_i6 c r o w ho hD' hT' hF' hN' hM' hO' (by simp [hI]) h6
      · rw [if_neg (by simp [h6]), if_pos hI]
        exact atom_i c r o w ho hD' hT' hF' hN' hM' hO' (by simp [hI]) (by omega)
    · rw [if_neg (by simp [hI]), if_neg hI]
      exact atom_z c r o w ho hD' hT' hF' hN' hM' hO' (beq_eq_false_iff_ne.2 hI)

end Go.Proofs.YtihgojcfpnhelaaDoor
