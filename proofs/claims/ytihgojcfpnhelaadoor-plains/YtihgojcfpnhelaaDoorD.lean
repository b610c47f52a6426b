import Derived.Test.YtihgojcfpnhelaaDoorB
import Derived.Test.YtihgojcfpnhelaaDoorShelf
namespace Go.Proofs.YtihgojcfpnhelaaDoor
open Go.RowKit
attribute [local go_sem] idx_eq app_eq

theorem dec_small (o : Nat) (h : o ≤ 7) : Lib.decDigits o = [48 + UInt8.ofNat o] := by
  rcases (show o = 0 ∨ o = 1 ∨ o = 2 ∨ o = 3 ∨ o = 4 ∨ o = 5 ∨ o = 6 ∨ o = 7 by omega) with h | h | h | h | h | h | h | h <;> subst h <;> decide +kernel

set_option maxHeartbeats 400000 in
theorem sym34 (k : UInt8) (n : Int) (w : World) (h0 : 0 ≤ n) (h1 : n ≤ 7) :
    Calls Tryd.prog 35 #[.string ⟨#[k]⟩, .int .i64 n] w fun e w' => e = .returned (.string ⟨(symB k n.toNat).toArray⟩) ∧ w = w' := by
  obtain ⟨o, rfl⟩ := Int.eq_ofNat_of_zero_le h0
  rw [Int.toNat_natCast]
  have hd := toHid (dec_small o (by omega))
  go_enter Tryd.func35, Tryd.ntmps35
  go_wp2_with (first | (go_at_call 51; refine (Tryd.strconv_Itoa_small o (by omega) _).mono ?_; rintro e w' ⟨rfl, rfl⟩; rw [hd.out]))
  go_ret
  exact ⟨rfl, rfl⟩

def strs (l : List By) : List Value := l.map fun x => .string ⟨x.toArray⟩

/-- A slice of strings of the call's own. -/
def Own (w : World) (B : Nat) (v : Value) (l : List By) : Prop := w.ownsRow B 9 1 v l.length (strs l)

theorem own_lit (w : World) (l : List By) (hl : l.length ≤ 1000) : Own (w.alloc (.cells (strs l).toArray 9)) w.heap.size (.slice (some ⟨w.heap.size, 0, none⟩) l.length l.length) l := by
  have h := World.ownsRow_lit (base := w.heap.size) (e := 9) (size := 1) w (strs l).toArray l.length (Nat.le_refl _) (by unfold maxLen; omega) (by simp [strs])
  exact h

theorem info9 : (Tryd.prog.info? 9).map (fun i => (i.zero, i.size, i.bytes)) = some (some (.string ⟨#[]⟩), 1, 16) := by kernel_rfl

set_option maxHeartbeats 400000 in
theorem deep36 (t : By) (k : UInt8) (n : Int) (w : World) (h0 : 0 ≤ n) (h1 : n ≤ 6) :
    Calls Tryd.prog 37 #[.string ⟨t.toArray⟩, .string ⟨#[k]⟩, .int .i64 n] w fun e w' => ∃ v, e = .returned v ∧ Own w' w.heap.size v (deepB t k n.toNat) ∧ Below w.heap.size w w' := by
  obtain ⟨o, rfl⟩ := Int.eq_ofNat_of_zero_le h0
  rw [Int.toNat_natCast]
  by_cases h6 : 6 ≤ o
  · have HD := toHid (show deepB t k o = [wDeep] by simp [deepB, h6])
    go_enter Tryd.func37, Tryd.ntmps37
    go_wp2
    go_ret
    exact ⟨_, rfl, by rw [HD.out]; exact own_lit w [wDeep] (by decide), (Below.refl _ _).alloc (Nat.le_refl _) _⟩
  · have HD := toHid (show deepB t k o = [t, symB k (o + 1)] by simp [deepB, h6])
    go_enter Tryd.func37, Tryd.ntmps37
    go_wp2_with (first | (go_at_call 35; refine (sym34 k ((o : Int) + 1) _ (by omega) (by omega)).mono ?_; rintro e w' ⟨rfl, rfl⟩; rw [show ((o : Int) + 1).toNat = o + 1 by omega]))
    go_ret
    exact ⟨_, rfl, by rw [HD.out]; exact own_lit w [t, symB k (o + 1)] (by simp), (Below.refl _ _).alloc (Nat.le_refl _) _⟩

/-- What again is, as a text. -/
def againB : Option UInt8 → By | none => [] | some g => [g]

set_option maxHeartbeats 1000000 in
theorem more35 (t : By) (signs : List By) (a : Addr) (c : Nat) (part : UInt8) (again : Option UInt8) (n : Int) (w : World) (h0 : 0 ≤ n) (h1 : n ≤ 6) (hl : signs.length ≤ 100)
    (hc : ∀ j (h : j < signs.length), w.cell? (a.add j) = some (.string ⟨(signs[j]).toArray⟩)) :
    Calls Tryd.prog 36 #[.string ⟨t.toArray⟩, .slice (some a) signs.length c, .string ⟨#[part]⟩, .string ⟨(againB again).toArray⟩, .int .i64 n] w fun e w' => ∃ v, e = .returned v ∧ Own w' w.heap.size v (moreB t signs part again n.toNat) ∧ Below w.heap.size w w' := by
  obtain ⟨o, rfl⟩ := Int.eq_ofNat_of_zero_le h0
  rw [Int.toNat_natCast]
  cases hin : inB t signs
  · have HD := toHid (show moreB t signs part again o = [] by simp [moreB, hin])
    go_enter Tryd.func36, Tryd.ntmps36
    go_wp2_with (first | (go_at_call 20; refine (in20 t signs a c _ hl hc).mono ?_; rintro e w' ⟨rfl, rfl⟩))
    go_ret
    exact ⟨_, rfl, by rw [HD.out]; exact World.ownsRow_nil _ _ _ _, Below.refl _ _⟩
  · match again with
    | none =>
      have HD := toHid (show moreB t signs part none o = [t, symB part o] by simp [moreB, hin])
      go_enter Tryd.func36, Tryd.ntmps36
      go_wp2_with (first | (go_at_call 20; refine (in20 t signs a c _ hl hc).mono ?_; rintro e w' ⟨rfl, rfl⟩) | (go_at_call 35; refine (sym34 part (o : Int) _ (by omega) (by omega)).mono ?_; rintro e w' ⟨rfl, rfl⟩; rw [Int.toNat_natCast]))
      go_ret
      exact ⟨_, rfl, by rw [HD.out]; exact own_lit w [t, symB part o] (by simp), (Below.refl _ _).alloc (Nat.le_refl _) _⟩
    | some g =>
      have HD := toHid (show moreB t signs part (some g) o = [t, symB part o, symB g o] by simp [moreB, hin])
      obtain ⟨i0, hi, hz0, hz1, hz2⟩ := info_parts info9
      go_enter Tryd.func36, Tryd.ntmps36
      have hg : againB (some g) = [g] := rfl
      rw [hg]
      clear hg
      have hbw : w.heap.size ≤ w.heap.size + 1 + 1 := by omega
      go_wp2_with (first | (go_at_call 20; refine (in20 t signs a c _ hl hc).mono ?_; rintro e w' ⟨rfl, rfl⟩) | (go_at_call 35; refine (sym34 _ (o : Int) _ (by omega) (by omega)).mono ?_; rintro e w' ⟨rfl, rfl⟩; rw [Int.toNat_natCast]) | (at_builtin; refine wpList_append_own _ rfl (.tmp 25) (.tmp 29) 45 rfl w.heap.size 9 i0 (.string ⟨#[]⟩) 1 16 Tryd.underlying45 hi hz0 hz1 hz2 rfl (by decide) _ 2 (strs [t, symB part o]) rfl ((own_lit w [t, symB part o] (by simp)).alloc _) ⟨w.heap.size + 1, 0, none⟩ 1 1 [.string ⟨(symB g o).toArray⟩] rfl rfl ?c1 ?c2 ?c3 ?c4 ?c5 ?_))
      case c1 =>
        intro j u hj
        match j, hj with
        | 0, hj => simp at hj; subst hj; simp [Addr.add]
      case c2 => intro u hu; simp at hu; subst hu; rfl
      case c3 => decide
      case c4 => decide
      case c5 => simp; omega
      intro v' w1 hown' hgrow _
      go_wp2
      go_ret
      exact ⟨v', rfl, by rw [HD.out]; exact hown', (((Below.refl _ _).alloc (Nat.le_refl _) _).alloc (by simp) _).grown hgrow (by simp; omega) (fun k hk => by simp [Value.ownBlock] at hk; omega)⟩
end Go.Proofs.YtihgojcfpnhelaaDoor
