import Derived.Test.YtihgojcfpnhelaaGreatDoorC
import Derived.Test.YtihgojcfpnhelaaGreatDoorO
set_option linter.unusedVariables false
set_option linter.unusedSimpArgs false
namespace Go.Proofs.YtihgojcfpnhelaaGreatDoor
open Go.RowKit
attribute [local go_sem] idx_eq app_eq

theorem dec_small (o : Nat) (h : o ≤ 7) : Lib.decDigits o = [48 + UInt8.ofNat o] := by
  rcases (show o = 0 ∨ o = 1 ∨ o = 2 ∨ o = 3 ∨ o = 4 ∨ o = 5 ∨ o = 6 ∨ o = 7 by omega) with h | h | h | h | h | h | h | h <;> subst h <;> decide +kernel

set_option maxHeartbeats 400000 in
theorem sym34 (k : UInt8) (n : Int) (w : World) (h0 : 0 ≤ n) (h1 : n ≤ 7) :
    Calls Tryz.prog 112 #[.string ⟨#[k]⟩, .int .i64 n] w fun e w' => e = .returned (.string ⟨(symB k n.toNat).toArray⟩) ∧ w = w' := by
  obtain ⟨o, rfl⟩ := Int.eq_ofNat_of_zero_le h0
  rw [Int.toNat_natCast]
  have hd := toHid (dec_small o (by omega))
  go_enter Tryz.func112, Tryz.ntmps112
  go_wp2_with (first | (go_at_call 50; refine (Tryz.strconv_Itoa_small o (by omega) _).mono ?_; rintro e w' ⟨rfl, rfl⟩; rw [hd.out]))
  go_ret
  exact ⟨rfl, rfl⟩

def strs (l : List By) : List Value := l.map fun x => .string ⟨x.toArray⟩

/-- A slice of strings of the call's own. -/
def Own (w : World) (B : Nat) (v : Value) (l : List By) : Prop := w.ownsRow B 9 1 v l.length (strs l)

theorem own_lit (w : World) (l : List By) (hl : l.length ≤ 1000) : Own (w.alloc (.cells (strs l).toArray 9)) w.heap.size (.slice (some ⟨w.heap.size, 0, none⟩) l.length l.length) l := by
  have h := World.ownsRow_lit (base := w.heap.size) (e := 9) (size := 1) w (strs l).toArray l.length (Nat.le_refl _) (by unfold maxLen; omega) (by simp [strs])
  exact h

theorem info9 : (Tryz.prog.info? 9).map (fun i => (i.zero, i.size, i.bytes)) = some (some (.string ⟨#[]⟩), 1, 16) := by kernel_rfl

set_option maxHeartbeats 400000 in
theorem deep36 (t : By) (k : UInt8) (n : Int) (w : World) (h0 : 0 ≤ n) (h1 : n ≤ 6) :
    Calls Tryz.prog 114 #[.string ⟨t.toArray⟩, .string ⟨#[k]⟩, .int .i64 n] w fun e w' => ∃ v, e = .returned v ∧ Own w' w.heap.size v (deepB t k n.toNat) ∧ Below w.heap.size w w' := by
  obtain ⟨o, rfl⟩ := Int.eq_ofNat_of_zero_le h0
  rw [Int.toNat_natCast]
  by_cases h6 : 6 ≤ o
  · have HD := toHid (show deepB t k o = [wDeep] by simp [deepB, h6])
    go_enter Tryz.func114, Tryz.ntmps114
    go_wp2
    go_ret
    exact ⟨_, rfl, by rw [HD.out]; exact own_lit w [wDeep] (by decide), (Below.refl _ _).alloc (Nat.le_refl _) _⟩
  · have HD := toHid (show deepB t k o = [t, symB k (o + 1)] by simp [deepB, h6])
    go_enter Tryz.func114, Tryz.ntmps114
    go_wp2_with (first | (go_at_call 112; refine (sym34 k ((o : Int) + 1) _ (by omega) (by omega)).mono ?_; rintro e w' ⟨rfl, rfl⟩; rw [show ((o : Int) + 1).toNat = o + 1 by omega]))
    go_ret
    exact ⟨_, rfl, by rw [HD.out]; exact own_lit w [t, symB k (o + 1)] (by simp), (Below.refl _ _).alloc (Nat.le_refl _) _⟩

/-- What again is, as a text. -/
def againB : Option UInt8 → By | none => [] | some g => [g]

set_option maxHeartbeats 1000000 in
theorem more35 (t : By) (signs : List By) (a : Addr) (c : Nat) (part : UInt8) (again : Option UInt8) (n : Int) (w : World) (h0 : 0 ≤ n) (h1 : n ≤ 6) (hl : signs.length ≤ 100)
    (hc : ∀ j (h : j < signs.length), w.cell? (a.add j) = some (.string ⟨(signs[j]).toArray⟩)) :
    Calls Tryz.prog 113 #[.string ⟨t.toArray⟩, .slice (some a) signs.length c, .string ⟨#[part]⟩, .string ⟨(againB again).toArray⟩, .int .i64 n] w fun e w' => ∃ v, e = .returned v ∧ Own w' w.heap.size v (moreB t signs part again n.toNat) ∧ Below w.heap.size w w' := by
  obtain ⟨o, rfl⟩ := Int.eq_ofNat_of_zero_le h0
  rw [Int.toNat_natCast]
  cases hin : inB t signs
  · have HD := toHid (show moreB t signs part again o = [] by simp [moreB, hin])
    go_enter Tryz.func113, Tryz.ntmps113
    go_wp2_with (first | (go_at_call 77; refine (in20 t signs a c _ hl hc).mono ?_; rintro e w' ⟨rfl, rfl⟩))
    go_ret
    exact ⟨_, rfl, by rw [HD.out]; exact World.ownsRow_nil _ _ _ _, Below.refl _ _⟩
  · match again with
    | none =>
      have HD := toHid (show moreB t signs part none o = [t, symB part o] by simp [moreB, hin])
      go_enter Tryz.func113, Tryz.ntmps113
      go_wp2_with (first | (go_at_call 77; refine (in20 t signs a c _ hl hc).mono ?_; rintro e w' ⟨rfl, rfl⟩) | (go_at_call 112; refine (sym34 part (o : Int) _ (by omega) (by omega)).mono ?_; rintro e w' ⟨rfl, rfl⟩; rw [Int.toNat_natCast]))
      go_ret
      exact ⟨_, rfl, by rw [HD.out]; exact own_lit w [t, symB part o] (by simp), (Below.refl _ _).alloc (Nat.le_refl _) _⟩
    | some g =>
      have HD := toHid (show moreB t signs part (some g) o = [t, symB part o, symB g o] by simp [moreB, hin])
      obtain ⟨i0, hi, hz0, hz1, hz2⟩ := info_parts info9
      go_enter Tryz.func113, Tryz.ntmps113
      have hg : againB (some g) = [g] := rfl
      rw [hg]
      clear hg
      have hbw : w.heap.size ≤ w.heap.size + 1 + 1 := by omega
      go_wp2_with (first | (go_at_call 77; refine (in20 t signs a c _ hl hc).mono ?_; rintro e w' ⟨rfl, rfl⟩) | (go_at_call 112; refine (sym34 _ (o : Int) _ (by omega) (by omega)).mono ?_; rintro e w' ⟨rfl, rfl⟩; rw [Int.toNat_natCast]) | (at_builtin; refine wpList_append_own _ rfl (.tmp 25) (.tmp 29) 24 rfl w.heap.size 9 i0 (.string ⟨#[]⟩) 1 16 Tryz.underlying24 hi hz0 hz1 hz2 rfl (by decide) _ 2 (strs [t, symB part o]) rfl ((own_lit w [t, symB part o] (by simp)).alloc _) ⟨w.heap.size + 1, 0, none⟩ 1 1 [.string ⟨(symB g o).toArray⟩] rfl rfl ?c1 ?c2 ?c3 ?c4 ?c5 ?_))
      case c1 =>
        intro j u hj
        match j, hj with
        | 0, hj => simp at hj; subst hj; simp [Addr.add]
      case c2 => intro u hu; simp at hu; subst hu; rfl
      case c3 => decide
      case c4 => decide
      case c5 => simp; omega
      intro v' w1 hown' hgrow _
      go_wp2
      go_ret
      exact ⟨v', rfl, by rw [HD.out]; exact hown', (((Below.refl _ _).alloc (Nat.le_refl _) _).alloc (by simp) _).grown hgrow (by simp; omega) (fun k hk => by simp [Value.ownBlock] at hk; omega)⟩
end Go.Proofs.YtihgojcfpnhelaaGreatDoor
namespace Go.Proofs.YtihgojcfpnhelaaGreatDoor
open Go.RowKit
attribute [local go_sem] idx_eq app_eq

theorem Own.mono {w : World} {B B' : Nat} {v : Value} {l : List By} (h : Own w B v l) (hB : B' ≤ B) : Own w B' v l := by
  refine ⟨h.1, ?_⟩
  rcases h.2 with h2 | ⟨g, cap, cur, hv, hg, r⟩
  · exact Or.inl h2
  · exact Or.inr ⟨g, cap, cur, hv, by omega, r⟩

theorem own_new (w0 w : World) (l : List By) (hl : l.length ≤ 1000) (hb : Below w0.heap.size w0 w) :
    Own (w.alloc (.cells (strs l).toArray 9)) w0.heap.size (.slice (some ⟨w.heap.size, 0, none⟩) l.length l.length) l ∧ Below w0.heap.size w0 (w.alloc (.cells (strs l).toArray 9)) :=
  ⟨(own_lit w l hl).mono hb.size, hb.alloc hb.size _⟩

/-- An ATOM's post. -/
def AtomPost (w : World) (L : List By) (e : Ending) (w' : World) : Prop := ∃ v, e = .returned v ∧ Own w' w.heap.size v L ∧ Below w.heap.size w w'


set_option maxHeartbeats 1000000 in
theorem atom_d (c : UInt8) (r : By) (o : Nat) (w : World) (ho : o ≤ 6) (hD : digB (c.toNat : Int) = true) :
    Calls Tryz.prog 115 #[.string ⟨(c :: r).toArray⟩, .int .i64 (o : Int)] w (AtomPost w [c :: r]) := by
  unfold AtomPost
  go_enter Tryz.func115, Tryz.ntmps115
  go_wp2_with (first | (go_at_call 112; refine (sym34 _ ((o : Int) + 1) _ (by omega) (by omega)).mono ?_; rintro e w' ⟨rfl, rfl⟩; rw [show ((o : Int) + 1).toNat = o + 1 by omega]) | (go_at_call 76; refine (name19 _ _).mono ?_; rintro e w1 ⟨rfl, hb1⟩) | (go_at_call 109; refine (isDigit39 (c.toNat : Int) _).mono ?_; rintro e w' ⟨rfl, rfl⟩))
  go_ret
  exact ⟨_, rfl, own_new w _ [c :: r] (by simp) (by assumption)⟩

set_option maxHeartbeats 1000000 in
theorem atom_t (c : UInt8) (r : By) (o : Nat) (w : World) (ho : o ≤ 6) (hD : digB (c.toNat : Int) = false) (hT : ((c :: r : By) == [116, 114, 117, 101]) = true) :
    Calls Tryz.prog 115 #[.string ⟨(c :: r).toArray⟩, .int .i64 (o : Int)] w (AtomPost w [c :: r]) := by
  unfold AtomPost
  go_enter Tryz.func115, Tryz.ntmps115
  go_wp2_with (first | (go_at_call 112; refine (sym34 _ ((o : Int) + 1) _ (by omega) (by omega)).mono ?_; rintro e w' ⟨rfl, rfl⟩; rw [show ((o : Int) + 1).toNat = o + 1 by omega]) | (go_at_call 76; refine (name19 _ _).mono ?_; rintro e w1 ⟨rfl, hb1⟩) | (go_at_call 109; refine (isDigit39 (c.toNat : Int) _).mono ?_; rintro e w' ⟨rfl, rfl⟩))
  go_ret
  exact ⟨_, rfl, own_new w _ [c :: r] (by simp) (by assumption)⟩

set_option maxHeartbeats 1000000 in
theorem atom_f (c : UInt8) (r : By) (o : Nat) (w : World) (ho : o ≤ 6) (hD : digB (c.toNat : Int) = false) (hT : ((c :: r : By) == [116, 114, 117, 101]) = false) (hF : ((c :: r : By) == [102, 97, 108, 115, 101]) = true) :
    Calls Tryz.prog 115 #[.string ⟨(c :: r).toArray⟩, .int .i64 (o : Int)] w (AtomPost w [c :: r]) := by
  unfold AtomPost
  go_enter Tryz.func115, Tryz.ntmps115
  go_wp2_with (first | (go_at_call 112; refine (sym34 _ ((o : Int) + 1) _ (by omega) (by omega)).mono ?_; rintro e w' ⟨rfl, rfl⟩; rw [show ((o : Int) + 1).toNat = o + 1 by omega]) | (go_at_call 76; refine (name19 _ _).mono ?_; rintro e w1 ⟨rfl, hb1⟩) | (go_at_call 109; refine (isDigit39 (c.toNat : Int) _).mono ?_; rintro e w' ⟨rfl, rfl⟩))
  go_ret
  exact ⟨_, rfl, own_new w _ [c :: r] (by simp) (by assumption)⟩

set_option maxHeartbeats 1000000 in
theorem atom_n (c : UInt8) (r : By) (o : Nat) (w : World) (ho : o ≤ 6) (hD : digB (c.toNat : Int) = false) (hT : ((c :: r : By) == [116, 114, 117, 101]) = false) (hF : ((c :: r : By) == [102, 97, 108, 115, 101]) = false) (hN : nameB (c :: r) = true) :
    Calls Tryz.prog 115 #[.string ⟨(c :: r).toArray⟩, .int .i64 (o : Int)] w (AtomPost w [c :: r]) := by
  unfold AtomPost
  go_enter Tryz.func115, Tryz.ntmps115
  go_wp2_with (first | (go_at_call 112; refine (sym34 _ ((o : Int) + 1) _ (by omega) (by omega)).mono ?_; rintro e w' ⟨rfl, rfl⟩; rw [show ((o : Int) + 1).toNat = o + 1 by omega]) | (go_at_call 76; refine (name19 _ _).mono ?_; rintro e w1 ⟨rfl, hb1⟩) | (go_at_call 109; refine (isDigit39 (c.toNat : Int) _).mono ?_; rintro e w' ⟨rfl, rfl⟩))
  go_ret
  exact ⟨_, rfl, own_new w _ [c :: r] (by simp) (by assumption)⟩

set_option maxHeartbeats 1000000 in
theorem atom_m (c : UInt8) (r : By) (o : Nat) (w : World) (ho : o ≤ 6) (hD : digB (c.toNat : Int) = false) (hT : ((c :: r : By) == [116, 114, 117, 101]) = false) (hF : ((c :: r : By) == [102, 97, 108, 115, 101]) = false) (hN : nameB (c :: r) = false) (hM : ((c :: r : By) == [45]) = true) :
    Calls Tryz.prog 115 #[.string ⟨(c :: r).toArray⟩, .int .i64 (o : Int)] w (AtomPost w (deepB (c :: r) 65 o)) := by
  unfold AtomPost
  go_enter Tryz.func115, Tryz.ntmps115
  go_wp2_with (first | (go_at_call 112; refine (sym34 _ ((o : Int) + 1) _ (by omega) (by omega)).mono ?_; rintro e w' ⟨rfl, rfl⟩; rw [show ((o : Int) + 1).toNat = o + 1 by omega]) | (go_at_call 76; refine (name19 _ _).mono ?_; rintro e w1 ⟨rfl, hb1⟩) | (go_at_call 109; refine (isDigit39 (c.toNat : Int) _).mono ?_; rintro e w' ⟨rfl, rfl⟩) | (go_at_call 114; refine (deep36 (c :: r) 65 (o : Int) _ (by omega) (by omega)).mono ?_; rintro e w2 ⟨v2, rfl, hv2, hb2⟩; rw [Int.toNat_natCast] at hv2))
  go_ret
  exact ⟨_, rfl, hv2.mono hb1.size, hb1.trans (hb2.mono hb1.size)⟩

set_option maxHeartbeats 1000000 in
theorem atom_i6 (c : UInt8) (r : By) (o : Nat) (w : World) (ho : o ≤ 6) (hD : digB (c.toNat : Int) = false) (hT : ((c :: r : By) == [116, 114, 117, 101]) = false) (hF : ((c :: r : By) == [102, 97, 108, 115, 101]) = false) (hN : nameB (c :: r) = false) (hM : ((c :: r : By) == [45]) = false) (hO : ((c :: r : By) == [40]) = false) (hI : ((c :: r : By) == [105, 102]) = true) (h6 : 6 ≤ o) :
    Calls Tryz.prog 115 #[.string ⟨(c :: r).toArray⟩, .int .i64 (o : Int)] w (AtomPost w [[105, 102], wOpen]) := by
  unfold AtomPost
  go_enter Tryz.func115, Tryz.ntmps115
  go_wp2_with (first | (go_at_call 112; refine (sym34 _ ((o : Int) + 1) _ (by omega) (by omega)).mono ?_; rintro e w' ⟨rfl, rfl⟩; rw [show ((o : Int) + 1).toNat = o + 1 by omega]) | (go_at_call 76; refine (name19 _ _).mono ?_; rintro e w1 ⟨rfl, hb1⟩) | (go_at_call 109; refine (isDigit39 (c.toNat : Int) _).mono ?_; rintro e w' ⟨rfl, rfl⟩))
  go_ret
  exact ⟨_, rfl, own_new w _ [[105, 102], wOpen] (by simp) (by assumption)⟩

set_option maxHeartbeats 1000000 in
theorem atom_i (c : UInt8) (r : By) (o : Nat) (w : World) (ho : o ≤ 6) (hD : digB (c.toNat : Int) = false) (hT : ((c :: r : By) == [116, 114, 117, 101]) = false) (hF : ((c :: r : By) == [102, 97, 108, 115, 101]) = false) (hN : nameB (c :: r) = false) (hM : ((c :: r : By) == [45]) = false) (hO : ((c :: r : By) == [40]) = false) (hI : ((c :: r : By) == [105, 102]) = true) (h6 : o < 6) :
    Calls Tryz.prog 115 #[.string ⟨(c :: r).toArray⟩, .int .i64 (o : Int)] w (AtomPost w [[105, 102], [40], symB 82 (o + 1), [44], symB 82 (o + 1), [44], symB 82 (o + 1), [41]]) := by
  unfold AtomPost
  go_enter Tryz.func115, Tryz.ntmps115
  go_wp2_with (first | (go_at_call 112; refine (sym34 _ ((o : Int) + 1) _ (by omega) (by omega)).mono ?_; rintro e w' ⟨rfl, rfl⟩; rw [show ((o : Int) + 1).toNat = o + 1 by omega]) | (go_at_call 76; refine (name19 _ _).mono ?_; rintro e w1 ⟨rfl, hb1⟩) | (go_at_call 109; refine (isDigit39 (c.toNat : Int) _).mono ?_; rintro e w' ⟨rfl, rfl⟩))
  go_ret
  exact ⟨_, rfl, own_new w _ [[105, 102], [40], symB 82 (o + 1), [44], symB 82 (o + 1), [44], symB 82 (o + 1), [41]] (by simp) (by assumption)⟩

set_option maxHeartbeats 1000000 in
theorem atom_z (c : UInt8) (r : By) (o : Nat) (w : World) (ho : o ≤ 6) (hD : digB (c.toNat : Int) = false) (hT : ((c :: r : By) == [116, 114, 117, 101]) = false) (hF : ((c :: r : By) == [102, 97, 108, 115, 101]) = false) (hN : nameB (c :: r) = false) (hM : ((c :: r : By) == [45]) = false) (hO : ((c :: r : By) == [40]) = false) (hI : ((c :: r : By) == [105, 102]) = false) :
    Calls Tryz.prog 115 #[.string ⟨(c :: r).toArray⟩, .int .i64 (o : Int)] w (AtomPost w [wNone]) := by
  unfold AtomPost
  go_enter Tryz.func115, Tryz.ntmps115
  go_wp2_with (first | (go_at_call 112; refine (sym34 _ ((o : Int) + 1) _ (by omega) (by omega)).mono ?_; rintro e w' ⟨rfl, rfl⟩; rw [show ((o : Int) + 1).toNat = o + 1 by omega]) | (go_at_call 76; refine (name19 _ _).mono ?_; rintro e w1 ⟨rfl, hb1⟩) | (go_at_call 109; refine (isDigit39 (c.toNat : Int) _).mono ?_; rintro e w' ⟨rfl, rfl⟩))
  go_ret
  exact ⟨_, rfl, own_new w _ [wNone] (by simp) (by assumption)⟩

set_option maxHeartbeats 1000000 in
theorem atom_o (c : UInt8) (r : By) (o : Nat) (w : World) (ho : o ≤ 6) (hD : digB (c.toNat : Int) = false) (hT : ((c :: r : By) == [116, 114, 117, 101]) = false) (hF : ((c :: r : By) == [102, 97, 108, 115, 101]) = false) (hN : nameB (c :: r) = false) (hM : ((c :: r : By) == [45]) = false) (hO : ((c :: r : By) == [40]) = true) :
    Calls Tryz.prog 115 #[.string ⟨(c :: r).toArray⟩, .int .i64 (o : Int)] w (AtomPost w (deepB (c :: r) 82 o ++ [[41]])) := by
  unfold AtomPost
  obtain ⟨i0, hi, hz0, hz1, hz2⟩ := info_parts info9
  go_enter Tryz.func115, Tryz.ntmps115
  go_wp2_with (first | (go_at_call 112; refine (sym34 _ ((o : Int) + 1) _ (by omega) (by omega)).mono ?_; rintro e w' ⟨rfl, rfl⟩; rw [show ((o : Int) + 1).toNat = o + 1 by omega]) | (go_at_call 76; refine (name19 _ _).mono ?_; rintro e w1 ⟨rfl, hb1⟩) | (go_at_call 109; refine (isDigit39 (c.toNat : Int) _).mono ?_; rintro e w' ⟨rfl, rfl⟩) | (go_at_call 114; refine (deep36 (c :: r) 82 (o : Int) _ (by omega) (by omega)).mono ?_; rintro e w2 ⟨v2, rfl, hv2, hb2⟩; rw [Int.toNat_natCast] at hv2; refine Hid.out ?_))
  refine toHid ?_
  have hdl : (deepB (c :: r) 82 o).length ≤ 2 := by unfold deepB; split <;> simp
  have hs2 := hb2.size
  have hs1 := hb1.size
  go_wp2_with (first | (at_builtin; refine wpList_append_own _ rfl (.tmp 44) (.tmp 45) 24 rfl w1.heap.size 9 i0 (.string ⟨#[]⟩) 1 16 Tryz.underlying24 hi hz0 hz1 hz2 rfl (by decide) v2 (deepB (c :: r) 82 o).length (strs (deepB (c :: r) 82 o)) rfl (hv2.alloc _) ⟨w2.heap.size, 0, none⟩ 1 1 [.string ⟨#[41]⟩] rfl rfl ?c1 ?c2 ?c3 ?c4 ?c5 ?_))
  case c1 =>
    intro j u hj
    match j, hj with
    | 0, hj => simp at hj; subst hj; simp [Addr.add]
  case c2 => intro u hu; simp at hu; subst hu; rfl
  case c3 => unfold maxLen; omega
  case c4 => omega
  case c5 => simp; omega
  intro v' w3 hown' hgrow _
  go_wp2
  go_ret
  have hw3 : Own w3 w1.heap.size v' (deepB (c :: r) 82 o ++ [[41]]) := by
    show w3.ownsRow _ 9 1 v' _ _
    rw [List.length_append]
    simpa [strs] using hown'
  exact ⟨_, rfl, hw3.mono hb1.size, (hb1.trans (hb2.mono hb1.size)).trans (((Below.refl _ _).alloc (by omega) _).grown hgrow (by simp; omega) (fun k hk => by have := (World.ownsRow.lt hv2 k hk).1; have := hb1.size; omega))⟩

set_option maxHeartbeats 1000000 in
theorem atom_e (o : Nat) (w : World) (ho : o ≤ 6) :
    Calls Tryz.prog 115 #[.string ⟨([] : By).toArray⟩, .int .i64 (o : Int)] w (AtomPost w [wNone]) := by
  unfold AtomPost
  go_enter Tryz.func115, Tryz.ntmps115
  go_wp2_with (first | (go_at_call 112; refine (sym34 _ ((o : Int) + 1) _ (by omega) (by omega)).mono ?_; rintro e w' ⟨rfl, rfl⟩; rw [show ((o : Int) + 1).toNat = o + 1 by omega]) | (go_at_call 76; refine (name19 [] _).mono ?_; rintro e w1 ⟨rfl, hb1⟩))
  go_ret
  exact ⟨_, rfl, own_new w _ [wNone] (by simp) (by assumption)⟩

theorem atom37 (t : By) (n : Int) (w : World) (h0 : 0 ≤ n) (h1 : n ≤ 6) :
    Calls Tryz.prog 115 #[.string ⟨t.toArray⟩, .int .i64 n] w fun e w' => ∃ v, e = .returned v ∧ Own w' w.heap.size v (atomB t n.toNat) ∧ Below w.heap.size w w' := by
  obtain ⟨o, rfl⟩ := Int.eq_ofNat_of_zero_le h0
  rw [Int.toNat_natCast]
  show Calls Tryz.prog 115 _ w (AtomPost w (atomB t o))
  have ho : o ≤ 6 := by omega
  match t with
  | [] => exact atom_e o w ho
  | c :: r =>
    have hh : headD (c :: r) = digB (c.toNat : Int) := rfl
    by_cases hD : digB (c.toNat : Int) = true
    · rw [show atomB (c :: r) o = [c :: r] by simp [atomB, hh, hD]]
      exact atom_d c r o w ho hD
    by_cases hT : (c :: r : By) = [116, 114, 117, 101]
    · rw [show atomB (c :: r) o = [c :: r] by simp [atomB, hT]]
      exact atom_t c r o w ho (by simpa using hD) (by simp [hT])
    by_cases hF : (c :: r : By) = [102, 97, 108, 115, 101]
    · rw [show atomB (c :: r) o = [c :: r] by simp [atomB, hF]]
      exact atom_f c r o w ho (by simpa using hD) (beq_eq_false_iff_ne.2 hT) (by simp [hF])
    by_cases hN : nameB (c :: r) = true
    · rw [show atomB (c :: r) o = [c :: r] by simp [atomB, hN]]
      exact atom_n c r o w ho (by simpa using hD) (beq_eq_false_iff_ne.2 hT) (beq_eq_false_iff_ne.2 hF) hN
    have hD' : digB (c.toNat : Int) = false := by simpa using hD
    have hT' : ((c :: r : By) == [116, 114, 117, 101]) = false := beq_eq_false_iff_ne.2 hT
    have hF' : ((c :: r : By) == [102, 97, 108, 115, 101]) = false := beq_eq_false_iff_ne.2 hF
    have hN' : nameB (c :: r) = false := by simpa using hN
    have hA : atomB (c :: r) o = (if (c :: r : By) = [45] then deepB (c :: r) 65 o
        else if (c :: r : By) = [40] then deepB (c :: r) 82 o ++ [[41]]
        else if (c :: r : By) = [105, 102] && decide (6 ≤ o) then [[105, 102], wOpen]
        else if (c :: r : By) = [105, 102] then [[105, 102], [40], symB 82 (o + 1), [44], symB 82 (o + 1), [44], symB 82 (o + 1), [41]]
        else [wNone]) := by
      unfold atomB
      rw [if_neg (by simp), if_neg (by rw [hh, hD', hN']; simp [hT, hF])]
    rw [hA]
    by_cases hM : (c :: r : By) = [45]
    · rw [if_pos hM]
      exact atom_m c r o w ho hD' hT' hF' hN' (by simp [hM])
    rw [if_neg hM]
    have hM' : ((c :: r : By) == [45]) = false := beq_eq_false_iff_ne.2 hM
    by_cases hO : (c :: r : By) = [40]
    · rw [if_pos hO]
      exact atom_o c r o w ho hD' hT' hF' hN' hM' (by simp [hO])
    rw [if_neg hO]
    have hO' : ((c :: r : By) == [40]) = false := beq_eq_false_iff_ne.2 hO
    by_cases hI : (c :: r : By) = [105, 102]
    · by_cases h6 : 6 ≤ o
      · rw [if_pos (by simp [hI, h6])]
        exact atom_i6 c r o w ho hD' hT' hF' hN' hM' hO' (by simp [hI]) h6
      · rw [if_neg (by simp [h6]), if_pos hI]
        exact atom_i c r o w ho hD' hT' hF' hN' hM' hO' (by simp [hI]) (by omega)
    · rw [if_neg (by simp [hI]), if_neg hI]
      exact atom_z c r o w ho hD' hT' hF' hN' hM' hO' (beq_eq_false_iff_ne.2 hI)

end Go.Proofs.YtihgojcfpnhelaaGreatDoor
namespace Go.Proofs.YtihgojcfpnhelaaGreatDoor
open Go.RowKit
attribute [local go_sem] idx_eq app_eq ext_eq

theorem atoi_small (o : Nat) (h : o ≤ 7) : Lib.atoi [48 + UInt8.ofNat o] = some (o : Int) := by
  rcases (show o = 0 ∨ o = 1 ∨ o = 2 ∨ o = 3 ∨ o = 4 ∨ o = 5 ∨ o = 6 ∨ o = 7 by omega) with h | h | h | h | h | h | h | h <;> subst h <;> decide +kernel

theorem atoi33 (o : Nat) (w : World) (h : o ≤ 7) :
    Calls Tryz.prog 111 #[.string ⟨#[48 + UInt8.ofNat o]⟩] w fun e w' => e = .returned (.tuple #[.int .i64 (o : Int), .nilIface]) ∧ Below w.heap.size w w' :=
  (Tryz.strconv_Atoi ⟨#[48 + UInt8.ofNat o]⟩ (o : Int) (by show 1 ≤ 18; omega) (atoi_small o h) w).mono fun e w' hw => ⟨hw.1, by
    obtain ⟨t, rfl⟩ := hw.2
    exact Lib.bytesWorld_below _ _ _⟩

/-- The post of 'becomes' at a symbol. -/
def BecPost (w : World) (L : List By) (e : Ending) (w' : World) : Prop := ∃ v, e = .returned (.tuple #[v, .bool true]) ∧ Own w' w.heap.size v L ∧ Below w.heap.size w w'

set_option maxHeartbeats 400000 in
theorem bec_tok (c : UInt8) (r t : By) (w : World) (hc : c ≠ 63) :
    Calls Tryz.prog 75 #[.string ⟨(c :: r).toArray⟩, .string ⟨t.toArray⟩] w fun e w' => e = .returned (.tuple #[.slice none 0 0, .bool false]) ∧ w = w' := by
  have hcb : ((c.toNat : Int) == 63) = false := by
    simp only [beq_eq_false_iff_ne]
    intro h
    apply hc
    apply UInt8.toNat_inj.1
    simp; omega
  have hcb2 : ((c.toNat : Int) != 63) = true := by simp [bne, hcb]
  go_enter Tryz.func75, Tryz.ntmps75
  go_wp2
  go_ret2
  exact ⟨rfl, rfl⟩

set_option maxHeartbeats 400000 in
theorem bec_open_y (w : World) :
    Calls Tryz.prog 75 #[.string ⟨wOpen.toArray⟩, .string ⟨([40] : By).toArray⟩] w (BecPost w [wDeep]) := by
  unfold BecPost wOpen
  go_enter Tryz.func75, Tryz.ntmps75
  go_wp2
  go_ret2
  exact ⟨_, rfl, own_new w w [wDeep] (by decide) (Below.refl _ _)⟩

set_option maxHeartbeats 400000 in
theorem bec_open_n (t : By) (w : World) (ht : (t == [40]) = false) :
    Calls Tryz.prog 75 #[.string ⟨wOpen.toArray⟩, .string ⟨t.toArray⟩] w (BecPost w [wNone]) := by
  unfold BecPost wOpen
  go_enter Tryz.func75, Tryz.ntmps75
  go_wp2
  go_ret2
  exact ⟨_, rfl, own_new w w [wNone] (by decide) (Below.refl _ _)⟩


set_option maxHeartbeats 1000000 in
theorem bec_R (o : Nat) (t : By) (w : World) (ho : o ≤ 6)  :
    Calls Tryz.prog 75 #[.string ⟨(symB 82 o).toArray⟩, .string ⟨t.toArray⟩] w (BecPost w [symB 80 o, symB 114 o]) := by
  unfold BecPost
  rw [show symB 82 o = [63, 82, 48 + UInt8.ofNat o] from rfl]
  go_enter Tryz.func75, Tryz.ntmps75
  go_wp2_with (first | (go_at_call 111; refine (atoi33 o _ (by omega)).mono ?_; rintro e w1 ⟨rfl, hb1⟩) | (go_at_call 112; refine (sym34 _ (o : Int) _ (by omega) (by omega)).mono ?_; rintro e w' ⟨rfl, rfl⟩; rw [Int.toNat_natCast]))
  go_ret2
  exact ⟨_, rfl, own_new w _ [symB 80 o, symB 114 o] (by simp) (by assumption)⟩

set_option maxHeartbeats 1000000 in
theorem bec_P (o : Nat) (t : By) (w : World) (ho : o ≤ 6)  :
    Calls Tryz.prog 75 #[.string ⟨(symB 80 o).toArray⟩, .string ⟨t.toArray⟩] w (BecPost w [symB 84 o, symB 112 o]) := by
  unfold BecPost
  rw [show symB 80 o = [63, 80, 48 + UInt8.ofNat o] from rfl]
  go_enter Tryz.func75, Tryz.ntmps75
  go_wp2_with (first | (go_at_call 111; refine (atoi33 o _ (by omega)).mono ?_; rintro e w1 ⟨rfl, hb1⟩) | (go_at_call 112; refine (sym34 _ (o : Int) _ (by omega) (by omega)).mono ?_; rintro e w' ⟨rfl, rfl⟩; rw [Int.toNat_natCast]))
  go_ret2
  exact ⟨_, rfl, own_new w _ [symB 84 o, symB 112 o] (by simp) (by assumption)⟩

set_option maxHeartbeats 1000000 in
theorem bec_S (o : Nat) (t : By) (w : World) (ho : o ≤ 6)  :
    Calls Tryz.prog 75 #[.string ⟨(symB 83 o).toArray⟩, .string ⟨t.toArray⟩] w (BecPost w [symB 77 o, symB 115 o]) := by
  unfold BecPost
  rw [show symB 83 o = [63, 83, 48 + UInt8.ofNat o] from rfl]
  go_enter Tryz.func75, Tryz.ntmps75
  go_wp2_with (first | (go_at_call 111; refine (atoi33 o _ (by omega)).mono ?_; rintro e w1 ⟨rfl, hb1⟩) | (go_at_call 112; refine (sym34 _ (o : Int) _ (by omega) (by omega)).mono ?_; rintro e w' ⟨rfl, rfl⟩; rw [Int.toNat_natCast]))
  go_ret2
  exact ⟨_, rfl, own_new w _ [symB 77 o, symB 115 o] (by simp) (by assumption)⟩

set_option maxHeartbeats 1000000 in
theorem bec_M (o : Nat) (t : By) (w : World) (ho : o ≤ 6)  :
    Calls Tryz.prog 75 #[.string ⟨(symB 77 o).toArray⟩, .string ⟨t.toArray⟩] w (BecPost w [symB 65 o, symB 109 o]) := by
  unfold BecPost
  rw [show symB 77 o = [63, 77, 48 + UInt8.ofNat o] from rfl]
  go_enter Tryz.func75, Tryz.ntmps75
  go_wp2_with (first | (go_at_call 111; refine (atoi33 o _ (by omega)).mono ?_; rintro e w1 ⟨rfl, hb1⟩) | (go_at_call 112; refine (sym34 _ (o : Int) _ (by omega) (by omega)).mono ?_; rintro e w' ⟨rfl, rfl⟩; rw [Int.toNat_natCast]))
  go_ret2
  exact ⟨_, rfl, own_new w _ [symB 65 o, symB 109 o] (by simp) (by assumption)⟩

set_option maxHeartbeats 1000000 in
theorem bec_T (o : Nat) (t : By) (w : World) (ho : o ≤ 6) (hn : (t == [110, 111, 116]) = false) :
    Calls Tryz.prog 75 #[.string ⟨(symB 84 o).toArray⟩, .string ⟨t.toArray⟩] w (BecPost w [symB 83 o, symB 99 o]) := by
  unfold BecPost
  rw [show symB 84 o = [63, 84, 48 + UInt8.ofNat o] from rfl]
  go_enter Tryz.func75, Tryz.ntmps75
  go_wp2_with (first | (go_at_call 111; refine (atoi33 o _ (by omega)).mono ?_; rintro e w1 ⟨rfl, hb1⟩) | (go_at_call 112; refine (sym34 _ (o : Int) _ (by omega) (by omega)).mono ?_; rintro e w' ⟨rfl, rfl⟩; rw [Int.toNat_natCast]))
  go_ret2
  exact ⟨_, rfl, own_new w _ [symB 83 o, symB 99 o] (by simp) (by assumption)⟩

set_option maxHeartbeats 1000000 in
theorem bec_r (o : Nat) (t : By) (w : World) (ho : o ≤ 6)  :
    Calls Tryz.prog 75 #[.string ⟨(symB 114 o).toArray⟩, .string ⟨t.toArray⟩] w (BecPost w (moreB t [[111, 114]] 80 (some 114) o)) := by
  unfold BecPost
  rw [show symB 114 o = [63, 114, 48 + UInt8.ofNat o] from rfl]
  go_enter Tryz.func75, Tryz.ntmps75
  go_wp2_with (first | (go_at_call 111; refine (atoi33 o _ (by omega)).mono ?_; rintro e w1 ⟨rfl, hb1⟩) | (go_at_call 112; refine (sym34 _ (o : Int) _ (by omega) (by omega)).mono ?_; rintro e w' ⟨rfl, rfl⟩; rw [Int.toNat_natCast]) | (go_at_call 113; refine (more35 t [[111, 114]] ⟨w1.heap.size, 0, none⟩ _ 80 (some 114) (o : Int) _ (by omega) (by omega) (by decide) (fun j h => cells_strs w1 [[111, 114]] 9 j h)).mono ?_; rintro e w2 ⟨v2, rfl, hv2, hb2⟩; rw [Int.toNat_natCast] at hv2))
  go_ret2
  exact ⟨_, rfl, hv2.mono (by have := hb1.size; simp; omega), (hb1.alloc hb1.size _).trans (hb2.mono (by have := hb1.size; simp; omega))⟩

set_option maxHeartbeats 1000000 in
theorem bec_p (o : Nat) (t : By) (w : World) (ho : o ≤ 6)  :
    Calls Tryz.prog 75 #[.string ⟨(symB 112 o).toArray⟩, .string ⟨t.toArray⟩] w (BecPost w (moreB t [[97, 110, 100]] 84 (some 112) o)) := by
  unfold BecPost
  rw [show symB 112 o = [63, 112, 48 + UInt8.ofNat o] from rfl]
  go_enter Tryz.func75, Tryz.ntmps75
  go_wp2_with (first | (go_at_call 111; refine (atoi33 o _ (by omega)).mono ?_; rintro e w1 ⟨rfl, hb1⟩) | (go_at_call 112; refine (sym34 _ (o : Int) _ (by omega) (by omega)).mono ?_; rintro e w' ⟨rfl, rfl⟩; rw [Int.toNat_natCast]) | (go_at_call 113; refine (more35 t [[97, 110, 100]] ⟨w1.heap.size, 0, none⟩ _ 84 (some 112) (o : Int) _ (by omega) (by omega) (by decide) (fun j h => cells_strs w1 [[97, 110, 100]] 9 j h)).mono ?_; rintro e w2 ⟨v2, rfl, hv2, hb2⟩; rw [Int.toNat_natCast] at hv2))
  go_ret2
  exact ⟨_, rfl, hv2.mono (by have := hb1.size; simp; omega), (hb1.alloc hb1.size _).trans (hb2.mono (by have := hb1.size; simp; omega))⟩

set_option maxHeartbeats 1000000 in
theorem bec_c (o : Nat) (t : By) (w : World) (ho : o ≤ 6)  :
    Calls Tryz.prog 75 #[.string ⟨(symB 99 o).toArray⟩, .string ⟨t.toArray⟩] w (BecPost w (moreB t [[61], [60]] 83 none o)) := by
  unfold BecPost
  rw [show symB 99 o = [63, 99, 48 + UInt8.ofNat o] from rfl]
  go_enter Tryz.func75, Tryz.ntmps75
  go_wp2_with (first | (go_at_call 111; refine (atoi33 o _ (by omega)).mono ?_; rintro e w1 ⟨rfl, hb1⟩) | (go_at_call 112; refine (sym34 _ (o : Int) _ (by omega) (by omega)).mono ?_; rintro e w' ⟨rfl, rfl⟩; rw [Int.toNat_natCast]) | (go_at_call 113; refine (more35 t [[61], [60]] ⟨w1.heap.size, 0, none⟩ _ 83 none (o : Int) _ (by omega) (by omega) (by decide) (fun j h => cells_strs w1 [[61], [60]] 9 j h)).mono ?_; rintro e w2 ⟨v2, rfl, hv2, hb2⟩; rw [Int.toNat_natCast] at hv2))
  go_ret2
  exact ⟨_, rfl, hv2.mono (by have := hb1.size; simp; omega), (hb1.alloc hb1.size _).trans (hb2.mono (by have := hb1.size; simp; omega))⟩

set_option maxHeartbeats 1000000 in
theorem bec_s (o : Nat) (t : By) (w : World) (ho : o ≤ 6)  :
    Calls Tryz.prog 75 #[.string ⟨(symB 115 o).toArray⟩, .string ⟨t.toArray⟩] w (BecPost w (moreB t [[43], [45]] 77 (some 115) o)) := by
  unfold BecPost
  rw [show symB 115 o = [63, 115, 48 + UInt8.ofNat o] from rfl]
  go_enter Tryz.func75, Tryz.ntmps75
  go_wp2_with (first | (go_at_call 111; refine (atoi33 o _ (by omega)).mono ?_; rintro e w1 ⟨rfl, hb1⟩) | (go_at_call 112; refine (sym34 _ (o : Int) _ (by omega) (by omega)).mono ?_; rintro e w' ⟨rfl, rfl⟩; rw [Int.toNat_natCast]) | (go_at_call 113; refine (more35 t [[43], [45]] ⟨w1.heap.size, 0, none⟩ _ 77 (some 115) (o : Int) _ (by omega) (by omega) (by decide) (fun j h => cells_strs w1 [[43], [45]] 9 j h)).mono ?_; rintro e w2 ⟨v2, rfl, hv2, hb2⟩; rw [Int.toNat_natCast] at hv2))
  go_ret2
  exact ⟨_, rfl, hv2.mono (by have := hb1.size; simp; omega), (hb1.alloc hb1.size _).trans (hb2.mono (by have := hb1.size; simp; omega))⟩

set_option maxHeartbeats 1000000 in
theorem bec_m (o : Nat) (t : By) (w : World) (ho : o ≤ 6)  :
    Calls Tryz.prog 75 #[.string ⟨(symB 109 o).toArray⟩, .string ⟨t.toArray⟩] w (BecPost w (moreB t [[42], [47], [37]] 65 (some 109) o)) := by
  unfold BecPost
  rw [show symB 109 o = [63, 109, 48 + UInt8.ofNat o] from rfl]
  go_enter Tryz.func75, Tryz.ntmps75
  go_wp2_with (first | (go_at_call 111; refine (atoi33 o _ (by omega)).mono ?_; rintro e w1 ⟨rfl, hb1⟩) | (go_at_call 112; refine (sym34 _ (o : Int) _ (by omega) (by omega)).mono ?_; rintro e w' ⟨rfl, rfl⟩; rw [Int.toNat_natCast]) | (go_at_call 113; refine (more35 t [[42], [47], [37]] ⟨w1.heap.size, 0, none⟩ _ 65 (some 109) (o : Int) _ (by omega) (by omega) (by decide) (fun j h => cells_strs w1 [[42], [47], [37]] 9 j h)).mono ?_; rintro e w2 ⟨v2, rfl, hv2, hb2⟩; rw [Int.toNat_natCast] at hv2))
  go_ret2
  exact ⟨_, rfl, hv2.mono (by have := hb1.size; simp; omega), (hb1.alloc hb1.size _).trans (hb2.mono (by have := hb1.size; simp; omega))⟩

set_option maxHeartbeats 1000000 in
theorem bec_Tn (o : Nat) (t : By) (w : World) (ho : o ≤ 6) (hn : (t == [110, 111, 116]) = true) :
    Calls Tryz.prog 75 #[.string ⟨(symB 84 o).toArray⟩, .string ⟨t.toArray⟩] w (BecPost w (deepB t 84 o)) := by
  unfold BecPost
  rw [show symB 84 o = [63, 84, 48 + UInt8.ofNat o] from rfl]
  go_enter Tryz.func75, Tryz.ntmps75
  go_wp2_with (first | (go_at_call 111; refine (atoi33 o _ (by omega)).mono ?_; rintro e w1 ⟨rfl, hb1⟩) | (go_at_call 112; refine (sym34 _ (o : Int) _ (by omega) (by omega)).mono ?_; rintro e w' ⟨rfl, rfl⟩; rw [Int.toNat_natCast]) | (go_at_call 114; refine (deep36 t 84 (o : Int) _ (by omega) (by omega)).mono ?_; rintro e w2 ⟨v2, rfl, hv2, hb2⟩; rw [Int.toNat_natCast] at hv2))
  go_ret2
  exact ⟨_, rfl, hv2.mono hb1.size, hb1.trans (hb2.mono hb1.size)⟩

set_option maxHeartbeats 1000000 in
theorem bec_A (o : Nat) (t : By) (w : World) (ho : o ≤ 6)  :
    Calls Tryz.prog 75 #[.string ⟨(symB 65 o).toArray⟩, .string ⟨t.toArray⟩] w (BecPost w (atomB t o)) := by
  unfold BecPost
  rw [show symB 65 o = [63, 65, 48 + UInt8.ofNat o] from rfl]
  go_enter Tryz.func75, Tryz.ntmps75
  go_wp2_with (first | (go_at_call 111; refine (atoi33 o _ (by omega)).mono ?_; rintro e w1 ⟨rfl, hb1⟩) | (go_at_call 112; refine (sym34 _ (o : Int) _ (by omega) (by omega)).mono ?_; rintro e w' ⟨rfl, rfl⟩; rw [Int.toNat_natCast]) | (go_at_call 115; refine (atom37 t (o : Int) _ (by omega) (by omega)).mono ?_; rintro e w2 ⟨v2, rfl, hv2, hb2⟩; rw [Int.toNat_natCast] at hv2))
  go_ret2
  exact ⟨_, rfl, hv2.mono hb1.size, hb1.trans (hb2.mono hb1.size)⟩

end Go.Proofs.YtihgojcfpnhelaaGreatDoor
