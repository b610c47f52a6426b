import Derived.Test.YtihgojcfpnhelaaGreatDoorRd
set_option linter.unusedVariables false
set_option linter.unusedSimpArgs false
namespace Go.Proofs.YtihgojcfpnhelaaGreatDoor
open Go.RowKit
attribute [local go_sem] idx_eq app_eq

set_option maxHeartbeats 1000000 in
theorem bit27 (c : Bool) (w : World) : Calls Tryz.prog 28 #[.bool c] w fun e w' => e = .returned (.int .i64 (if c then 1 else 0)) ∧ w = w' := by
  cases c <;> (go_enter Tryz.func28, Tryz.ntmps28; go_wp2; go_ret; exact ⟨rfl, rfl⟩)

section
variable {Ed : World → Nat → List Fd → Prop}

/-- A field is worth this. -/
def IsK (Ed : World → Nat → List Fd → Prop) (fs : List Fd) (x : UInt8) (n : Int) : Prop := ∀ W e, Ed W e fs → Calls Tryz.prog 26 #[.pointer (some ⟨e, 0, none⟩), .string ⟨#[x]⟩, .int .i64 n] W fun r w' => r = .returned (.bool true) ∧ Ed w' e fs
def FailsK (Ed : World → Nat → List Fd → Prop) (fs : List Fd) (x : UInt8) (n : Int) : Prop := ∀ W e, Ed W e fs → Calls Tryz.prog 29 #[.pointer (some ⟨e, 0, none⟩), .string ⟨#[x]⟩, .int .i64 n] W fun r w' => r = .returned (.bool true) ∧ Ed w' e fs
def WorthK (Ed : World → Nat → List Fd → Prop) (fs : List Fd) (x : UInt8) (k n : Int) : Prop := ∀ W e, Ed W e fs → Calls Tryz.prog 24 #[.pointer (some ⟨e, 0, none⟩), .string ⟨#[x]⟩] W fun r w' => r = .returned (.tuple #[.int .i64 k, .int .i64 n]) ∧ Ed w' e fs

theorem isK (C : EdC Ed) (a b : Int) (k : Nat) (hk : k < 10) (n : Int) (hv : (fld a b k).v = (1, n)) : IsK Ed (RF a b 10) (rlet k) n := fun W e hE => is_ok e [rlet k] W _ n (by
  have := worthK a b C k hk W e hE
  rw [hv] at this
  exact this)
theorem failsK (C : EdC Ed) (a b : Int) (k : Nat) (hk : k < 10) (n : Int) (hv : (fld a b k).v = (3, n)) : FailsK Ed (RF a b 10) (rlet k) n := fun W e hE => fails_ok e [rlet k] W _ n (by
  have := worthK a b C k hk W e hE
  rw [hv] at this
  exact this)
theorem worthV (C : EdC Ed) (a b : Int) (k : Nat) (hk : k < 10) (m n : Int) (hv : (fld a b k).v = (m, n)) : WorthK Ed (RF a b 10) (rlet k) m n := fun W e hE => by
  have := worthK a b C k hk W e hE
  rw [hv] at this
  exact this

set_option maxRecDepth 100000 in
set_option maxHeartbeats 8000000 in
theorem round6 (C : EdC Ed) (a b : Int) (h0 : -9223372036854775808 ≤ a) (h1 : a ≤ 9223372036854775807) (g0 : -9223372036854775808 ≤ b) (g1 : b ≤ 9223372036854775807) (w : World)
    (hNew : Calls Tryz.prog 45 #[.int .i64 0] w fun r w' => ∃ e, r = .returned (.tuple #[.pointer (some ⟨e, 0, none⟩), .int .i64 0]) ∧ Ed w' e []) :
    Calls Tryz.prog 6 #[.int .i64 a, .int .i64 b] w fun r w' => r = .returned (.bool true) ∧ ∃ e, Ed w' e (RF a b 10) := by
  have HB := toHid (begin_ok 0 w (fun e w' => Ed w' e (RF a b 0)) hNew)
  have HX := toHid (show ∀ (c : Int), -9223372036854775808 ≤ c → c ≤ 9223372036854775807 → ∀ W e, Ed W e (RF a b 0) → Calls Tryz.prog 27 #[.int .i64 c] W fun r w' => r = .returned (.string ⟨(setB c).toArray⟩) ∧ Ed w' e (RF a b 0) from fun c c0 c1 W e hE => (set26 c c0 c1 W (C.env _ _ _ hE)).mono fun r w' h => ⟨h.1, C.next _ _ _ _ hE h.2⟩)
  have HXA := toHid (HX.out a h0 h1)
  have HXB := toHid (HX.out b g0 g1)
  have HS0 := toHid (does0 a b C h0 h1)
  have HS1 := toHid (does1 a b C h0 h1 g0 g1)
  have HS2 := toHid (does2 a b C h0 h1 g0 g1)
  have HS3 := toHid (does3 a b C h0 h1 g0 g1)
  have HS4 := toHid (does4 a b C h0 h1 g0 g1)
  have HS5 := toHid (does5 a b C h0 h1 g0 g1)
  have HS6 := toHid (does6 a b C h0 h1 g0 g1)
  have HS7 := toHid (does7 a b C h0 h1 g0 g1)
  have HS8 := toHid (does8 a b C h0 h1 g0 g1)
  have HS9 := toHid (does9 a b C h0 h1 g0 g1)
  have HIA := toHid (show IsK Ed (RF a b 10) 97 a from isK C a b 0 (by omega) _ rfl)
  have HIB := toHid (show IsK Ed (RF a b 10) 98 b from isK C a b 1 (by omega) _ rfl)
  have HIS := toHid (show IsK Ed (RF a b 10) 115 (wrap64 (a + b)) from isK C a b 2 (by omega) _ rfl)
  have HID := toHid (show IsK Ed (RF a b 10) 100 (wrap64 (a - b)) from isK C a b 3 (by omega) _ rfl)
  have HIM := toHid (show IsK Ed (RF a b 10) 109 (wrap64 (a * b)) from isK C a b 4 (by omega) _ rfl)
  have HIN := toHid (show IsK Ed (RF a b 10) 110 (wrap64 (-a)) from isK C a b 7 (by omega) _ rfl)
  obtain ⟨L, hL⟩ : ∃ L : Int, (if decide (a < b) = true then (1 : Int) else 0) = L := ⟨_, rfl⟩
  obtain ⟨G, hG⟩ : ∃ G : Int, (if (a == b) = true then (1 : Int) else 0) = G := ⟨_, rfl⟩
  have HWL := toHid (show WorthK Ed (RF a b 10) 108 2 L from worthV C a b 8 (by omega) 2 L (by rw [← hL]; rfl))
  have HWG := toHid (show WorthK Ed (RF a b 10) 103 2 G from worthV C a b 9 (by omega) 2 G (by rw [← hG]; rfl))
  have HBL := toHid (show ∀ W, Calls Tryz.prog 28 #[.bool (decide (a < b))] W fun e w' => e = .returned (.int .i64 L) ∧ W = w' from fun W => by rw [← hL]; exact bit27 _ W)
  have HBG := toHid (show ∀ W, Calls Tryz.prog 28 #[.bool (a == b)] W fun e w' => e = .returned (.int .i64 G) ∧ W = w' from fun W => by rw [← hG]; exact bit27 _ W)
  have HC := toHid C
  have hla := (setT_ok a h0 h1).2.2.2.1
  have hlb := (setT_ok b g0 g1).2.2.2.1
  generalize setB a = xa at *
  generalize setB b = xb at *
  clear hNew hL hG C HX
  by_cases hb : b = 0
  · have HFQ := toHid (show FailsK Ed (RF a b 10) 113 1 from failsK HC.out a b 5 (by omega) _ (by subst hb; rfl))
    have HFR := toHid (show FailsK Ed (RF a b 10) 114 1 from failsK HC.out a b 6 (by omega) _ (by subst hb; rfl))
    have hbb : (b == 0) = true := by simp [hb]
    clear hb
    go_enter Tryz.func6, Tryz.ntmps6
    go_wp2_with (first | (go_at_call 18; refine HB.out.mono ?_; rintro r u1 ⟨e, rfl, hq⟩; have QA := toHid hq; clear hq) | (go_at_call 27; refine (HXA.out _ _ QA.out).mono ?_; rintro r u2 ⟨rfl, hq⟩; have QB := toHid hq; clear hq QA) | (go_at_call 27; refine (HXB.out _ _ QB.out).mono ?_; rintro r u3 ⟨rfl, hq⟩; have Q0 := toHid hq; clear hq QB) | (go_at_call 19; refine (HS0.out _ _ Q0.out).mono ?_; rintro r v1 ⟨rfl, hq⟩; have Q1 := toHid hq; clear hq Q0) | (go_at_call 19; refine (HS1.out _ _ Q1.out).mono ?_; rintro r v2 ⟨rfl, hq⟩; have Q2 := toHid hq; clear hq Q1) | (go_at_call 19; refine (HS2.out _ _ Q2.out).mono ?_; rintro r v3 ⟨rfl, hq⟩; have Q3 := toHid hq; clear hq Q2) | (go_at_call 19; refine (HS3.out _ _ Q3.out).mono ?_; rintro r v4 ⟨rfl, hq⟩; have Q4 := toHid hq; clear hq Q3) | (go_at_call 19; refine (HS4.out _ _ Q4.out).mono ?_; rintro r v5 ⟨rfl, hq⟩; have Q5 := toHid hq; clear hq Q4) | (go_at_call 19; refine (HS5.out _ _ Q5.out).mono ?_; rintro r v6 ⟨rfl, hq⟩; have Q6 := toHid hq; clear hq Q5) | (go_at_call 19; refine (HS6.out _ _ Q6.out).mono ?_; rintro r v7 ⟨rfl, hq⟩; have Q7 := toHid hq; clear hq Q6) | (go_at_call 19; refine (HS7.out _ _ Q7.out).mono ?_; rintro r v8 ⟨rfl, hq⟩; have Q8 := toHid hq; clear hq Q7) | (go_at_call 19; refine (HS8.out _ _ Q8.out).mono ?_; rintro r v9 ⟨rfl, hq⟩; have Q9 := toHid hq; clear hq Q8) | (go_at_call 19; refine (HS9.out _ _ Q9.out).mono ?_; rintro r v10 ⟨rfl, hq⟩; have Q10 := toHid hq; clear hq Q9) | (go_at_call 26; refine (HIA.out _ _ Q10.out).mono ?_; rintro r v11 ⟨rfl, hq⟩; have Q11 := toHid hq; clear hq Q10) | (go_at_call 26; refine (HIB.out _ _ Q11.out).mono ?_; rintro r v12 ⟨rfl, hq⟩; have Q12 := toHid hq; clear hq Q11) | (go_at_call 26; refine (HIS.out _ _ Q12.out).mono ?_; rintro r v13 ⟨rfl, hq⟩; have Q13 := toHid hq; clear hq Q12) | (go_at_call 26; refine (HID.out _ _ Q13.out).mono ?_; rintro r v14 ⟨rfl, hq⟩; have Q14 := toHid hq; clear hq Q13) | (go_at_call 26; refine (HIM.out _ _ Q14.out).mono ?_; rintro r v15 ⟨rfl, hq⟩; have Q15 := toHid hq; clear hq Q14) | (go_at_call 26; refine (HIN.out _ _ Q15.out).mono ?_; rintro r v16 ⟨rfl, hq⟩; have Q16 := toHid hq; clear hq Q15) | (go_at_call 24; refine (HWL.out _ _ Q16.out).mono ?_; rintro r v17 ⟨rfl, hq⟩; have Q17 := toHid hq; clear hq Q16) | (go_at_call 24; refine (HWG.out _ _ Q17.out).mono ?_; rintro r v18 ⟨rfl, hq⟩; have Q18 := toHid hq; clear hq Q17) | (go_at_call 28; refine (HBL.out _).mono ?_; rintro r v30 ⟨rfl, rfl⟩) | (go_at_call 28; refine (HBG.out _).mono ?_; rintro r v31 ⟨rfl, rfl⟩) | (go_at_call 29; refine (HFQ.out _ _ Q18.out).mono ?_; rintro r v40 ⟨rfl, hq⟩; have Q40 := toHid hq; clear hq Q18) | (go_at_call 29; refine (HFR.out _ _ Q40.out).mono ?_; rintro r v41 ⟨rfl, hq⟩; have Q41 := toHid hq; clear hq Q40))
    refine bodyPost_ret (v := .bool true) (by simp [results, Tryz.results6, go_sem]) rfl ?_
    exact ⟨rfl, e, Q41.out⟩
  · have HIQ := toHid (show IsK Ed (RF a b 10) 113 (wrap64 (a.tdiv b)) from isK HC.out a b 5 (by omega) _ (by
      show vInts 16 a b = _
      simp [vInts, hb]))
    have HIR := toHid (show IsK Ed (RF a b 10) 114 (a.tmod b) from isK HC.out a b 6 (by omega) _ (by
      show vInts 17 a b = _
      simp [vInts, hb]))
    have hbb : (b == 0) = false := beq_eq_false_iff_ne.2 hb
    go_enter Tryz.func6, Tryz.ntmps6
    go_wp2_with (first | (go_at_call 18; refine HB.out.mono ?_; rintro r u1 ⟨e, rfl, hq⟩; have QA := toHid hq; clear hq) | (go_at_call 27; refine (HXA.out _ _ QA.out).mono ?_; rintro r u2 ⟨rfl, hq⟩; have QB := toHid hq; clear hq QA) | (go_at_call 27; refine (HXB.out _ _ QB.out).mono ?_; rintro r u3 ⟨rfl, hq⟩; have Q0 := toHid hq; clear hq QB) | (go_at_call 19; refine (HS0.out _ _ Q0.out).mono ?_; rintro r v1 ⟨rfl, hq⟩; have Q1 := toHid hq; clear hq Q0) | (go_at_call 19; refine (HS1.out _ _ Q1.out).mono ?_; rintro r v2 ⟨rfl, hq⟩; have Q2 := toHid hq; clear hq Q1) | (go_at_call 19; refine (HS2.out _ _ Q2.out).mono ?_; rintro r v3 ⟨rfl, hq⟩; have Q3 := toHid hq; clear hq Q2) | (go_at_call 19; refine (HS3.out _ _ Q3.out).mono ?_; rintro r v4 ⟨rfl, hq⟩; have Q4 := toHid hq; clear hq Q3) | (go_at_call 19; refine (HS4.out _ _ Q4.out).mono ?_; rintro r v5 ⟨rfl, hq⟩; have Q5 := toHid hq; clear hq Q4) | (go_at_call 19; refine (HS5.out _ _ Q5.out).mono ?_; rintro r v6 ⟨rfl, hq⟩; have Q6 := toHid hq; clear hq Q5) | (go_at_call 19; refine (HS6.out _ _ Q6.out).mono ?_; rintro r v7 ⟨rfl, hq⟩; have Q7 := toHid hq; clear hq Q6) | (go_at_call 19; refine (HS7.out _ _ Q7.out).mono ?_; rintro r v8 ⟨rfl, hq⟩; have Q8 := toHid hq; clear hq Q7) | (go_at_call 19; refine (HS8.out _ _ Q8.out).mono ?_; rintro r v9 ⟨rfl, hq⟩; have Q9 := toHid hq; clear hq Q8) | (go_at_call 19; refine (HS9.out _ _ Q9.out).mono ?_; rintro r v10 ⟨rfl, hq⟩; have Q10 := toHid hq; clear hq Q9) | (go_at_call 26; refine (HIA.out _ _ Q10.out).mono ?_; rintro r v11 ⟨rfl, hq⟩; have Q11 := toHid hq; clear hq Q10) | (go_at_call 26; refine (HIB.out _ _ Q11.out).mono ?_; rintro r v12 ⟨rfl, hq⟩; have Q12 := toHid hq; clear hq Q11) | (go_at_call 26; refine (HIS.out _ _ Q12.out).mono ?_; rintro r v13 ⟨rfl, hq⟩; have Q13 := toHid hq; clear hq Q12) | (go_at_call 26; refine (HID.out _ _ Q13.out).mono ?_; rintro r v14 ⟨rfl, hq⟩; have Q14 := toHid hq; clear hq Q13) | (go_at_call 26; refine (HIM.out _ _ Q14.out).mono ?_; rintro r v15 ⟨rfl, hq⟩; have Q15 := toHid hq; clear hq Q14) | (go_at_call 26; refine (HIN.out _ _ Q15.out).mono ?_; rintro r v16 ⟨rfl, hq⟩; have Q16 := toHid hq; clear hq Q15) | (go_at_call 24; refine (HWL.out _ _ Q16.out).mono ?_; rintro r v17 ⟨rfl, hq⟩; have Q17 := toHid hq; clear hq Q16) | (go_at_call 24; refine (HWG.out _ _ Q17.out).mono ?_; rintro r v18 ⟨rfl, hq⟩; have Q18 := toHid hq; clear hq Q17) | (go_at_call 28; refine (HBL.out _).mono ?_; rintro r v30 ⟨rfl, rfl⟩) | (go_at_call 28; refine (HBG.out _).mono ?_; rintro r v31 ⟨rfl, rfl⟩) | (go_at_call 26; refine (HIQ.out _ _ Q18.out).mono ?_; rintro r v40 ⟨rfl, hq⟩; have Q40 := toHid hq; clear hq Q18) | (go_at_call 26; refine (HIR.out _ _ Q40.out).mono ?_; rintro r v41 ⟨rfl, hq⟩; have Q41 := toHid hq; clear hq Q40))
    refine bodyPost_ret (v := .bool true) (by simp [results, Tryz.results6, go_sem]) rfl ?_
    exact ⟨rfl, e, Q41.out⟩
end
end Go.Proofs.YtihgojcfpnhelaaGreatDoor
