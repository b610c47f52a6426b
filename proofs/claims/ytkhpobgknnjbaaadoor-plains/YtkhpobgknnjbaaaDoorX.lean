import Derived.Test.YtkhpobgknnjbaaaDoorW
namespace Go.Proofs.YtkhpobgknnjbaaaDoor
open Go.RowKit

theorem Rdr.drewN {w : World} {b bl cp : Nat} {pt : List PT} {i : Nat} {tk : List PT} {d e : Int} (h : Rdr w b bl cp pt i tk d e) (n : Nat) : Rdr (w.drewN n) b bl cp pt i tk d e :=
  ⟨h.own, h.blk, h.lt, h.cap, h.many, h.cnt, h.kin, h.kip, h.left⟩

theorem below_dN (B : Nat) (w : World) (n : Nat) : Below B w (w.drewN n) := ⟨rfl, rfl, rfl, Nat.le_refl _, fun _ _ => rfl⟩

section
variable {len : Nat} {ts : List (By × Nat)} {b bl cp : Nat}

set_option maxRecDepth 100000 in
set_option maxHeartbeats 2000000 in
/-- A sign ahead at the greatest depth. -/
theorem bs_deep (n i : Nat) (tk : List PT) (e : Int) (w : World) (h : Rdr w b bl cp (ptoks len ts) i tk 6 e) :
    Calls Tryd.prog 43 #[.pointer (some ⟨b, 0, none⟩), .int .i64 (n : Int)] w fun r w' => r = .returned (.bool false) ∧ Rdr w' b bl cp (ptoks len ts) i tk 6 4 ∧ Below b w w' := by
  have H := toHid (enter_no w b bl cp _ i tk e h)
  go_enter Tryd.func43, Tryd.ntmps43
  go_wp2_with (first | (go_at_call 52; refine H.out.mono ?_; rintro e w' ⟨rfl, hr, hbb⟩))
  go_ret
  exact ⟨rfl, hr, hbb⟩

set_option maxRecDepth 100000 in
set_option maxHeartbeats 4000000 in
/-- 'behindSign' out of 'level': the mark z on the sign that was taken. -/
theorem bs_go (n i d : Nat) (tk : List PT) (e z : Int) (w : World) (h : Rdr w b bl cp (ptoks len ts) i tk (d : Int) e) (hd : d < 6) (hi : i + 1 < (ptoks len ts).length)
    (hz : ((ptoks len ts)[i]'h.lt).1 = z) (P : Ending → World → Prop) (zz : Int) (hzz : (z = 13 ∧ zz = 14) ∨ (z ≠ 13 ∧ zz = z))
    (hL : ∀ w2, Rdr w2 b bl cp (ptoks len ts) (i + 1) (tk ++ [(zz, ((ptoks len ts)[i]'h.lt).2)]) ((d : Int) + 1) e → Below b w w2 →
      Calls Tryd.prog 29 #[.pointer (some ⟨b, 0, none⟩), .int .i64 (n : Int)] w2 fun r w3 =>
        (r = .returned (.bool false) ∧ P (.returned (.bool false)) w3) ∨ (r = .returned (.bool true) ∧ ∃ i' tk', Rdr w3 b bl cp (ptoks len ts) i' tk' ((d : Int) + 1) e ∧ P (.returned (.bool true)) (w3.setCell ⟨b, 2, none⟩ (.int .i64 (d : Int))))) :
    Calls Tryd.prog 43 #[.pointer (some ⟨b, 0, none⟩), .int .i64 (n : Int)] w P := by
  have H := toHid (enter_yes w b bl cp _ i tk d e h hd hi)
  have HL := toHid hL
  have hcnt := h.cnt
  have hmany := h.many
  have hlt := h.lt
  clear hL
  generalize ((ptoks len ts)[i]'h.lt) = t at *
  subst hz
  go_enter Tryd.func43, Tryd.ntmps43
  go_wp2_with (first | (go_at_call 52; refine H.out.mono ?_; rintro e w' ⟨rfl, hr, hbb⟩; refine Hid.out ?_))
  obtain ⟨g, cap, c1, cg, fg, hbg, hmk⟩ := hr.mark
  have HMK := toHid hmk
  have HR := toHid hr
  have HBB := toHid hbb
  clear hmk hr hbb cg fg
  refine toHid ?_
  have hm1 : (0 : Int) ≤ (tk.length : Int) := by omega
  have hm2 : (tk.length : Int) < ((tk.length + 1 : Nat) : Int) := by omega
  have hm3 : ((tk.length + 1 : Nat) : Int) - 1 = (tk.length : Int) := by omega
  go_wp2
  go_quiet (fail)
  have HR2 := toHid (HR.out.drewN nq)
  have HB2 := toHid (HBB.out.trans (below_dN b w' nq))
  have hc1 : (w'.drewN nq).cell? ⟨b, 1, none⟩ = some (.slice (some ⟨g, 0, none⟩) (tk.length + 1) cap) := c1
  have HC1 := toHid hc1
  clear c1 hc1 HMK
  generalize w'.drewN nq = w2 at *
  obtain ⟨g', cap', c1', cg, fg, hbg', hmk⟩ := HR2.out.mark
  have hgg := c1'.symm.trans HC1.out
  simp only [Option.some.injEq, Value.slice.injEq, Addr.mk.injEq, and_true, true_and] at hgg
  obtain ⟨rfl, rfl⟩ := hgg
  have HMK := toHid hmk
  clear hmk c1' HC1
  rw [hcnt] at cg fg HMK
  rcases hzz with ⟨h13, rfl⟩ | ⟨h13, rfl⟩
  · have h13b : (t.1 == 13) = true := by simp [h13]
    have HL2 := toHid (HL.out _ (HMK.out 14 (by decide)).1 (HB2.out.trans (HMK.out 14 (by decide)).2))
    clear h13
    go_wp2_with (first | (go_at_call 29; refine HL2.out.mono ?_; rintro e w3 (⟨rfl, hP⟩ | ⟨rfl, i', tk', hr3, hP⟩) <;> refine Hid.out ?_))
    · have HP := toHid hP
      clear hP
      refine toHid ?_
      go_wp2
      exact HP.out
    · have HP := toHid hP
      clear hP
      obtain ⟨_, c2, _, fz⟩ := hr3.cell
      have fz2 := fz 2
      clear fz hr3
      refine toHid ?_
      go_wp2
      exact HP.out
  · have h13b : (t.1 == 13) = false := beq_eq_false_iff_ne.2 h13
    have HL2 := toHid (HL.out _ HR2.out HB2.out)
    clear h13
    go_wp2_with (first | (go_at_call 29; refine HL2.out.mono ?_; rintro e w3 (⟨rfl, hP⟩ | ⟨rfl, i', tk', hr3, hP⟩) <;> refine Hid.out ?_))
    · have HP := toHid hP
      clear hP
      refine toHid ?_
      go_wp2
      exact HP.out
    · have HP := toHid hP
      clear hP
      obtain ⟨_, c2, _, fz⟩ := hr3.cell
      have fz2 := fz 2
      clear fz hr3
      refine toHid ?_
      go_wp2
      exact HP.out
end
end Go.Proofs.YtkhpobgknnjbaaaDoor
