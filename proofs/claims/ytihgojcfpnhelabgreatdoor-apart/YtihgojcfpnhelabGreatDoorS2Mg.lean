import Derived.Test.YtihgojcfpnhelabGreatDoorS2Mf
set_option maxRecDepth 100000
set_option maxHeartbeats 4000000
set_option linter.unusedVariables false
set_option linter.unusedSimpArgs false
namespace Go.Proofs.YtihgojcfpnhelabGreatDoor
open Go.RowKit
section
theorem w_if (r : Value) (p : Pt) (a : Option Addr) (l c : Nat) (q : Nat → Pt) (A : Nat → Option Addr) (L C : Nat → Nat) (v : Nat → Vl) (w : World) (hl : l = 3) (hpk : p.k = 3) (hK : KidsAt w a l q A L C) (hV : KidsV r w l q A L C v) :
  Calls Tryz.prog 128 #[.agg #[namedV r], .agg #[.int .i64 3, .string ⟨p.nm.toArray⟩, .int .i64 (p.n : Int), .slice a l c]] w (VPost (vChoice (v 0) (v 1) (v 2)) w) := by
 have HV := tZ hV
 have HK := tZ hK
 clear hK hV
 obtain ⟨W4, hW4⟩ : ∃ W4, W4 = (((w.alloc (.cells #[namedV r] 204)).alloc (.cells #[.int .i64 3, .string ⟨p.nm.toArray⟩, .int .i64 (p.n : Int), .slice a l c] 49)).alloc (.cells #[.int .i64 0, .int .i64 0] 96)) := ⟨_, rfl⟩
 have h3 : W3 r 3 (p.n : Int) p.nm (.slice a l c) w W4 := by rw [hW4]; exact W3.start r 3 (p.n : Int) p.nm _ w
 have H3 := tZ h3
 have HW4 := tZ hW4
 obtain ⟨⟨i1, i2, i3, i4⟩, _, hsp⟩ := row4 h3.p
 obtain ⟨⟨k0, k1⟩, ⟨f0, f1⟩, hsR⟩ := row2 h3.R
 have i0 := h3.c0
 have HCC := tZ (show ∀ W, Below W4.heap.size W4 W → Calls Tryz.prog 164 #[.agg #[namedV r], .agg #[.int .i64 3, .string ⟨p.nm.toArray⟩, .int .i64 (p.n : Int), .slice a l c]] W (VPost (vChoice (v 0) (v 1) (v 2)) W) from fun W hb => by
  have hbw := h3.bel.trans (hb.mono h3.bel.size)
  have := choice205 r p a l c W q A L C v hl (HK.out.next hbw) (HV.out.next hbw)
  rw [hpk] at this
  exact this)
 clear hl hpk
 clear h3 hW4
 go_enter Tryz.func128, Tryz.ntmps128
 go_wp2_with (first | (go_at_call 164; rw [← HW4.out]; refine (HCC.out _ (Below.refl _ _)).mono ?_; rintro e w1 ⟨rfl, hb1⟩; refine Hid.out ?_))
 have H4 := tZ (H3.out.next hb1)
 clear k0 k1 f0 f1 i0 i1 i2 i3 i4 hb1
 obtain ⟨⟨k0, k1⟩, ⟨f0, f1⟩, hsz⟩ := row2 H4.out.R
 generalize vChoice (v 0) (v 1) (v 2) = vv at *
 refine tZ ?_
 go_wp2
 refine bodyPost_ret (v := .agg #[.int .i64 vv.1, .int .i64 vv.2]) (by simp [results, Tryz.results128, go_sem, k0, k1]) rfl ?_
 exact H4.out.fin vv
theorem w_two (r : Value) (p : Pt) (a : Option Addr) (l c : Nat) (q : Nat → Pt) (A : Nat → Option Addr) (L C : Nat → Nat) (v : Nat → Vl) (w : World) (hl : l = 2) (hk : p.k ≠ 1 ∧ p.k ≠ 7 ∧ p.k ≠ 8 ∧ p.k ≠ 2 ∧ p.k ≠ 9 ∧ p.k ≠ 14 ∧ p.k ≠ 6 ∧ p.k ≠ 4 ∧ p.k ≠ 5 ∧ p.k ≠ 3) (hK : KidsAt w a l q A L C) (hV : KidsV r w l q A L C v) :
  Calls Tryz.prog 128 #[.agg #[namedV r], .agg #[.int .i64 (p.k : Int), .string ⟨p.nm.toArray⟩, .int .i64 (p.n : Int), .slice a l c]] w (VPost (vTwo p.k (v 0) (v 1)) w) := by
 have HV := tZ hV
 have HK := tZ hK
 clear hK hV
 obtain ⟨W4, hW4⟩ : ∃ W4, W4 = (((w.alloc (.cells #[namedV r] 204)).alloc (.cells #[.int .i64 (p.k : Int), .string ⟨p.nm.toArray⟩, .int .i64 (p.n : Int), .slice a l c] 49)).alloc (.cells #[.int .i64 0, .int .i64 0] 96)) := ⟨_, rfl⟩
 have h3 : W3 r (p.k : Int) (p.n : Int) p.nm (.slice a l c) w W4 := by rw [hW4]; exact W3.start r (p.k : Int) (p.n : Int) p.nm _ w
 have H3 := tZ h3
 have HW4 := tZ hW4
 obtain ⟨⟨i1, i2, i3, i4⟩, _, hsp⟩ := row4 h3.p
 obtain ⟨⟨k0, k1⟩, ⟨f0, f1⟩, hsR⟩ := row2 h3.R
 have i0 := h3.c0
 have HCC := tZ (show ∀ W, Below W4.heap.size W4 W → Calls Tryz.prog 165 #[.agg #[namedV r], .agg #[.int .i64 (p.k : Int), .string ⟨p.nm.toArray⟩, .int .i64 (p.n : Int), .slice a l c]] W (VPost (vTwo p.k (v 0) (v 1)) W) from fun W hb => by
  have hbw := h3.bel.trans (hb.mono h3.bel.size)
  have := ofTwo206 r p a l c W q A L C v hl (HK.out.next hbw) (HV.out.next hbw)
  exact this)
 have q1 : ((p.k : Int) == 1) = false := beq_eq_false_iff_ne.2 (by omega)
 have q7 : ((p.k : Int) == 7) = false := beq_eq_false_iff_ne.2 (by omega)
 have q8 : ((p.k : Int) == 8) = false := beq_eq_false_iff_ne.2 (by omega)
 have q2 : ((p.k : Int) == 2) = false := beq_eq_false_iff_ne.2 (by omega)
 have q9 : ((p.k : Int) == 9) = false := beq_eq_false_iff_ne.2 (by omega)
 have q14 : ((p.k : Int) == 14) = false := beq_eq_false_iff_ne.2 (by omega)
 have q6 : ((p.k : Int) == 6) = false := beq_eq_false_iff_ne.2 (by omega)
 have q4 : ((p.k : Int) == 4) = false := beq_eq_false_iff_ne.2 (by omega)
 have q5 : ((p.k : Int) == 5) = false := beq_eq_false_iff_ne.2 (by omega)
 have q3 : ((p.k : Int) == 3) = false := beq_eq_false_iff_ne.2 (by omega)
 clear hl hk
 clear h3 hW4
 go_enter Tryz.func128, Tryz.ntmps128
 go_wp2_with (first | (go_at_call 165; rw [← HW4.out]; refine (HCC.out _ (Below.refl _ _)).mono ?_; rintro e w1 ⟨rfl, hb1⟩; refine Hid.out ?_))
 have H4 := tZ (H3.out.next hb1)
 clear k0 k1 f0 f1 i0 i1 i2 i3 i4 hb1
 obtain ⟨⟨k0, k1⟩, ⟨f0, f1⟩, hsz⟩ := row2 H4.out.R
 generalize vTwo p.k (v 0) (v 1) = vv at *
 refine tZ ?_
 go_wp2
 refine bodyPost_ret (v := .agg #[.int .i64 vv.1, .int .i64 vv.2]) (by simp [results, Tryz.results128, go_sem, k0, k1]) rfl ?_
 exact H4.out.fin vv
theorem w_and (r : Value) (p : Pt) (a : Option Addr) (l c : Nat) (q : Nat → Pt) (A : Nat → Option Addr) (L C : Nat → Nat) (v : Nat → Vl) (w : World) (hl : l = 2) (hpk : p.k = 4) (hK : KidsAt w a l q A L C) (hV : KidsV r w l q A L C v) :
  Calls Tryz.prog 128 #[.agg #[namedV r], .agg #[.int .i64 4, .string ⟨p.nm.toArray⟩, .int .i64 (p.n : Int), .slice a l c]] w (VPost (vUnless (2, 0) (v 0) (v 1)) w) := by
 have HV := tZ hV
 have HK := tZ hK
 clear hK hV
 obtain ⟨W4, hW4⟩ : ∃ W4, W4 = (((w.alloc (.cells #[namedV r] 204)).alloc (.cells #[.int .i64 4, .string ⟨p.nm.toArray⟩, .int .i64 (p.n : Int), .slice a l c] 49)).alloc (.cells #[.int .i64 0, .int .i64 0] 96)) := ⟨_, rfl⟩
 have h3 : W3 r 4 (p.n : Int) p.nm (.slice a l c) w W4 := by rw [hW4]; exact W3.start r 4 (p.n : Int) p.nm _ w
 have H3 := tZ h3
 have HW4 := tZ hW4
 obtain ⟨⟨i1, i2, i3, i4⟩, _, hsp⟩ := row4 h3.p
 obtain ⟨⟨k0, k1⟩, ⟨f0, f1⟩, hsR⟩ := row2 h3.R
 have i0 := h3.c0
 have HCC := tZ (show ∀ W, Below W4.heap.size W4 W → Calls Tryz.prog 163 #[.agg #[namedV r], .agg #[.int .i64 2, .int .i64 0], .agg #[.int .i64 4, .string ⟨p.nm.toArray⟩, .int .i64 (p.n : Int), .slice a l c]] W (VPost (vUnless (2, 0) (v 0) (v 1)) W) from fun W hb => by
  have hbw := h3.bel.trans (hb.mono h3.bel.size)
  have := unless204 r (2, 0) p a l c W q A L C v (by omega) (by omega) (HK.out.next hbw) (HV.out.next hbw)
  rw [hpk] at this
  exact this)
 have HT := tZ (show ∀ W, Calls Tryz.prog 159 #[.bool false] W fun e w' => e = .returned (.agg #[.int .i64 2, .int .i64 0]) ∧ Below W.heap.size W w' from fun W => truth200 false W)
 clear hl hpk
 clear h3 hW4
 go_enter Tryz.func128, Tryz.ntmps128
 go_upto_region 16 with fail
 rw [← HW4.out]
 clear HW4
 go_region_with (first | (go_at_call 159; refine (HT.out _).mono ?_; rintro e w1 ⟨rfl, hb1⟩; have B1 := tZ ((Below.refl W4.heap.size W4).drew.trans hb1); have B2 := tZ (H3.out.next ((Below.refl W4.heap.size W4).drew.trans hb1)); have j0 := B2.out.c0; obtain ⟨⟨j1, j2, j3, j4⟩, _, hsj⟩ := row4 B2.out.p; clear hb1) | (go_at_call 163; refine (HCC.out _ B1.out).mono ?_; rintro e w2 ⟨rfl, hb2⟩; have B4 := tZ (B2.out.next hb2); obtain ⟨⟨m0, m1⟩, ⟨n0, n1⟩, hsm⟩ := row2 B4.out.R; clear hb2))
 all_goals go_wp2
 all_goals refine bodyPost_ret (v := .agg #[.int .i64 (vUnless (2, 0) (v 0) (v 1)).1, .int .i64 (vUnless (2, 0) (v 0) (v 1)).2]) (by simp [results, Tryz.results128, go_sem, m0, m1]) rfl ?_
 all_goals exact B4.out.fin (vUnless (2, 0) (v 0) (v 1))
theorem w_or (r : Value) (p : Pt) (a : Option Addr) (l c : Nat) (q : Nat → Pt) (A : Nat → Option Addr) (L C : Nat → Nat) (v : Nat → Vl) (w : World) (hl : l = 2) (hpk : p.k = 5) (hK : KidsAt w a l q A L C) (hV : KidsV r w l q A L C v) :
  Calls Tryz.prog 128 #[.agg #[namedV r], .agg #[.int .i64 5, .string ⟨p.nm.toArray⟩, .int .i64 (p.n : Int), .slice a l c]] w (VPost (vUnless (2, 1) (v 0) (v 1)) w) := by
 have HV := tZ hV
 have HK := tZ hK
 clear hK hV
 obtain ⟨W4, hW4⟩ : ∃ W4, W4 = (((w.alloc (.cells #[namedV r] 204)).alloc (.cells #[.int .i64 5, .string ⟨p.nm.toArray⟩, .int .i64 (p.n : Int), .slice a l c] 49)).alloc (.cells #[.int .i64 0, .int .i64 0] 96)) := ⟨_, rfl⟩
 have h3 : W3 r 5 (p.n : Int) p.nm (.slice a l c) w W4 := by rw [hW4]; exact W3.start r 5 (p.n : Int) p.nm _ w
 have H3 := tZ h3
 have HW4 := tZ hW4
 obtain ⟨⟨i1, i2, i3, i4⟩, _, hsp⟩ := row4 h3.p
 obtain ⟨⟨k0, k1⟩, ⟨f0, f1⟩, hsR⟩ := row2 h3.R
 have i0 := h3.c0
 have HCC := tZ (show ∀ W, Below W4.heap.size W4 W → Calls Tryz.prog 163 #[.agg #[namedV r], .agg #[.int .i64 2, .int .i64 1], .agg #[.int .i64 5, .string ⟨p.nm.toArray⟩, .int .i64 (p.n : Int), .slice a l c]] W (VPost (vUnless (2, 1) (v 0) (v 1)) W) from fun W hb => by
  have hbw := h3.bel.trans (hb.mono h3.bel.size)
  have := unless204 r (2, 1) p a l c W q A L C v (by omega) (by omega) (HK.out.next hbw) (HV.out.next hbw)
  rw [hpk] at this
  exact this)
 have HT := tZ (show ∀ W, Calls Tryz.prog 159 #[.bool true] W fun e w' => e = .returned (.agg #[.int .i64 2, .int .i64 1]) ∧ Below W.heap.size W w' from fun W => truth200 true W)
 clear hl hpk
 clear h3 hW4
 go_enter Tryz.func128, Tryz.ntmps128
 go_upto_region 18 with fail
 rw [← HW4.out]
 clear HW4
 go_region_with (first | (go_at_call 159; refine (HT.out _).mono ?_; rintro e w1 ⟨rfl, hb1⟩; have B1 := tZ ((Below.refl W4.heap.size W4).drew.trans hb1); have B2 := tZ (H3.out.next ((Below.refl W4.heap.size W4).drew.trans hb1)); have j0 := B2.out.c0; obtain ⟨⟨j1, j2, j3, j4⟩, _, hsj⟩ := row4 B2.out.p; clear hb1) | (go_at_call 163; refine (HCC.out _ B1.out).mono ?_; rintro e w2 ⟨rfl, hb2⟩; have B4 := tZ (B2.out.next hb2); obtain ⟨⟨m0, m1⟩, ⟨n0, n1⟩, hsm⟩ := row2 B4.out.R; clear hb2))
 all_goals go_wp2
 all_goals refine bodyPost_ret (v := .agg #[.int .i64 (vUnless (2, 1) (v 0) (v 1)).1, .int .i64 (vUnless (2, 1) (v 0) (v 1)).2]) (by simp [results, Tryz.results128, go_sem, m0, m1]) rfl ?_
 all_goals exact B4.out.fin (vUnless (2, 1) (v 0) (v 1))
end
end Go.Proofs.YtihgojcfpnhelabGreatDoor
