import Derived.Test.YtihgojcfpnhelaaGreatDoorK2Jy
set_option maxRecDepth 100000
set_option maxHeartbeats 4000000
set_option linter.unusedVariables false
set_option linter.unusedSimpArgs false
namespace Go.Proofs.YtihgojcfpnhelaaGreatDoor
open Go.RowKit
section
attribute [local go_sem] idx_eq app_eq
variable {W0 w w' W w1 w2 : World} {T T' : Nat → Prop} {e b k i n : Nat} {a a' : Ab} {s t x : By} {l : Ln} {fs fs' : List Fd} {nm : List By}
theorem row3_st3 {w : World} {g : Nat} {u0 u1 u2 : Value} {ty : TypeId} (h : w.heap[g]? = some (.cells #[u0, u1, u2] ty (0, 0))) (v0 v1 v2 : Value) : (((w.setCell ⟨g, 0, none⟩ v0).setCell ⟨g, 1, none⟩ v1).setCell ⟨g, 2, none⟩ v2).heap[g]? = some (.cells #[v0, v1, v2] ty (0, 0)) := by
 rw [setCell_block (setCell_block (setCell_block h 0 v0) 1 v1) 2 v2]
 rfl
def KS (t : By) (k n : Int) : Prop := t.length ≤ 200 ∧ ∃ p, RIp 1 t 6 p ∧ MK p ∧ ∀ ρ, Rg ρ → valP ρ p = (k, n)
theorem ks_num (d : Nat) (hd : d ≤ 3) (r : By) : KS (numK d r).1.1 1 (numK d r).1.2 := by
 obtain ⟨p, h1, h2⟩ := numK_nk d r
 exact ⟨by have := numK_len d r; omega, p, h1.le (by omega), h2⟩
theorem ks_tru (d : Nat) (hd : d ≤ 3) (r : By) : KS (truK d r).1.1 2 (truK d r).1.2 := by
 obtain ⟨p, h1, h2⟩ := truK_nk d r
 exact ⟨by have := truK_len d r; omega, p, h1.le (by omega), h2⟩
theorem nm_y' : NmOk [121] := nmOk_w ⟨by simp, by decide, by simp⟩ (by decide) (by decide)
theorem nmo_y' : NmO [121] := ⟨by simp, by simp⟩
theorem kn_d3 (r : Nat) : (((r + 1 : Nat) : Int) - 1) = (r : Int) := by omega
theorem kn_j {j : Nat} (h : j + 1 ≤ 8) : j < 8 ∧ j < 100 ∧ (j : Int) < 8 := by omega
theorem kn_m0 {j : Nat} (h : ¬ j % 3 = 2) : ((j : Int) % 3 == 2) = false := by
 simp
 omega
theorem kn_m1 {j : Nat} (h : j % 3 = 2) : ((j : Int) % 3 == 2) = true := by
 simp
 omega
theorem kn_l {j : Nat} (h : j < 8) : (numB j).length = 1 := numB_8 ⟨j, h⟩
theorem kn_b1 {j : Nat} (h : j < 8) : ¬ 9223372036854775807 < (numB j).length + 5 := by have := kn_l h; omega
theorem kn_b2 {j : Nat} (h : j < 8) : ¬ 9223372036854775807 < (numB j).length + 5 + 3 := by have := kn_l h; omega
theorem kn_b3 {j : Nat} (h : j < 8) : ¬ 9223372036854775807 < (numB j).length + 3 + 5 + (numB j).length := by have := kn_l h; omega
theorem kn_num1 {j : Nat} (hj : j < 8) (h : j % 3 = 2) (W : World) : Calls Tryz.prog 23 #[.int .i64 ((j : Int) - 1)] W fun e w' => e = .returned (.string ⟨(numB (j - 1)).toArray⟩) ∧ W = w' := by
 have e : (j : Int) - 1 = ((j - 1 : Nat) : Int) := by omega
 rw [e]
 exact keep_num (j - 1) (by omega) W
theorem kn_b4 {j : Nat} (h : j < 8) (_ : j % 3 = 2) : ¬ 9223372036854775807 < (numB (j - 1)).length + 1 := by have := kn_l (j := j - 1) (by omega); omega
theorem kn_b5 {j : Nat} (h : j < 8) (_ : j % 3 = 2) : ¬ 9223372036854775807 < (numB (j - 1)).length + 1 + 4 := by have := kn_l (j := j - 1) (by omega); omega
theorem kn_b6 {j : Nat} (h : j < 8) (_ : j % 3 = 2) : ¬ 9223372036854775807 < (numB j).length + 3 + 5 + ((numB (j - 1)).length + 4 + 1) := by have := kn_l h; have := kn_l (j := j - 1) (by omega); omega
theorem kn_line0 {j : Nat} (hj : j < 8) (h : ¬ j % 3 = 2) : IsLn (115 :: 101 :: 116 :: 32 :: 102 :: (numB j ++ 32 :: 61 :: 32 :: numB j)) (.set (fN j) (kRl j)) := by
 have h1 := isLn_dg j j (by omega) (by omega)
 have e : kRl j = dgP j := by unfold kRl; rw [if_neg h]
 have e2 : numB j = dg j := (dg_facts j (by omega)).2.2.2
 rw [e, e2]
 simpa [setN, fN, dg] using h1
theorem kn_line1 {j : Nat} (hj : j < 8) (h : j % 3 = 2) : IsLn (115 :: 101 :: 116 :: 32 :: 102 :: (numB j ++ 32 :: 61 :: 32 :: 102 :: (numB (j - 1) ++ [32, 43, 32, 49]))) (.set (fN j) (kRl j)) := by
 have h1 := isLn_add j (j - 1) (by omega) (by omega)
 have e : kRl j = .bin 12 (nmP (j - 1)) (dgP 1) := by unfold kRl; rw [if_pos h]
 have e2 : ∀ i, i < 10 → numB i = dg i := fun i hi => (dg_facts i hi).2.2.2
 rw [e, e2 j (by omega), e2 (j - 1) (by omega)]
 simpa [setN, fN, dg] using h1
theorem knownHolds (raw : By) (hlen : raw.length ≤ 9223372036854775807) (tu : Bool) (again : Int) (hw : -9223372036854775808 ≤ again ∧ again ≤ 9223372036854775807) (hE : Env W0) (hL : EnvL W0) :
  Calls Tryz.prog 5 #[.string ⟨raw.toArray⟩, .bool tu, .int .i64 again] W0 fun r w' => r = .returned (.bool true) ∧ Below W0.heap.size W0 w' := by
 have HBG := tZ ((Sts.empty W0).beginA 3 (by decide))
 have HE := tZ hE
 have HL := tZ hL
 have HRW := tZ hlen
 have HAG := tZ hw
 have HNX := tZ (fun b r W (n : Nat) (z : Int) h hz => keep_nextZ b r z n W h hz)
 have HNUM := tZ (fun b r W d z h hd hz => keep_number b d hd r z W h hz)
 have HTRU := tZ (fun b r W d z h hd hz => keep_truth b d hd r z W h hz)
 unfold SumPost at HNUM HTRU
 clear hE hL hlen hw
 go_enter Tryz.func5, Tryz.ntmps5
 go_wp2_with (first | (go_at_call 18; refine HBG.out.mono ?_; rintro r w1 ⟨e, rfl, h1⟩; have H1 := tZ h1; clear h1; refine Hid.out ?_))
 refine tZ ?_
 have HF1 := tZ (feed_new raw HRW.out w1)
 go_wp2_with (first | (go_at_call 16; refine (HNX.out w1.heap.size raw _ 4 4 HF1.out (by decide)).mono ?_; rintro r w2 ⟨rfl, hf2, hb2⟩; have F2 := tZ hf2; have K2 := tZ hb2; clear hf2 hb2; refine Hid.out ?_))
 refine tZ ?_
 obtain ⟨k0, hk0⟩ : ∃ k0, (nextB raw 4).1 = k0 := ⟨_, rfl⟩
 have hk3 : k0 ≤ 3 := by have := nextB_lt raw 4 (by decide); omega
 rw [hk0]
 go_wp2_with (first | (go_at_call 21; refine (HNUM.out w1.heap.size _ _ k0 _ F2.out hk3 rfl).mono ?_; rintro r w3 ⟨rfl, hf3, hb3⟩; have F3 := tZ hf3; have K3 := tZ (K2.out.trans hb3); clear hf3 hb3; refine Hid.out ?_))
 refine tZ ?_
 have HKS := tZ (ks_num k0 hk3 (nextB raw 4).2)
 obtain ⟨ts, hts⟩ : ∃ ts, (numK k0 (nextB raw 4).2).1.1 = ts := ⟨_, rfl⟩
 obtain ⟨ns, hns⟩ : ∃ ns, (numK k0 (nextB raw 4).2).1.2 = ns := ⟨_, rfl⟩
 rw [hts, hns] at HKS ⊢
 generalize (numK k0 (nextB raw 4).2).2 = r3 at *
 clear hts hns hk0
 have F3a := tZ (F3.out.alloc (.cells #[.string ⟨ts.toArray⟩, .int .i64 1, .int .i64 ns] 43))
 have K3a := tZ (KeepB.alloc K3.out F3.out.size (.cells #[.string ⟨ts.toArray⟩, .int .i64 1, .int .i64 ns] 43))
 have R3 := tZ (heap_alloc_new w3 (.cells #[.string ⟨ts.toArray⟩, .int .i64 1, .int .i64 ns] 43))
 have HB3 := tZ F3.out.size
 go_wp2_with (first | (go_at_call 16; refine (HNX.out w1.heap.size r3 _ 2 2 F3a.out (by decide)).mono ?_; rintro r w4 ⟨rfl, hf4, hb4⟩; have F4 := tZ hf4; have K4 := tZ (K3a.out.trans hb4); have R4 := tZ ((hb4.other w3.heap.size (by simp) (Nat.ne_of_gt HB3.out)).trans R3.out); clear hf4 hb4; refine Hid.out ?_))
 refine tZ ?_
 have h01 : (nextB r3 2).1 = 0 ∨ (nextB r3 2).1 = 1 := by have := nextB_lt r3 2 (by decide); omega
 generalize (nextB r3 2).1 = k1 at *
 generalize (nextB r3 2).2 = r4 at *
 generalize hq10 : w3.heap.size = q10 at *
 have HQ : Hid (w1.heap.size ≠ q10 ∧ w1.heap.size ≤ q10) := tZ (by have := HB3.out; omega)
 clear F3 K3 F3a K3a R3 HB3 hq10
 go_upto_if 36 with fail
 go_cut [10] (fun s10 wc => s10 = .pointer (some ⟨q10, 0, none⟩) ∧ ∃ (t : By) (k n : Int), Hid (KS t k n) ∧ Hid (wc.heap[q10]? = some (.cells #[.string ⟨t.toArray⟩, .int .i64 k, .int .i64 n] 43 (0, 0)) ∧ Below w1.heap.size w1 wc))
 case first =>
  rcases h01 with rfl | rfl
  ·go_wp2_with fail
   go_meet
   exact ⟨rfl, ts, 1, ns, HKS, tZ ⟨R4.out, K4.out.over⟩⟩
  ·go_wp2_with (first | (go_at_call 16; refine (HNX.out w1.heap.size r4 _ 4 4 F4.out (by decide)).mono ?_; rintro r w5 ⟨rfl, hf5, hb5⟩; have F5 := tZ hf5; have K5 := tZ hb5; clear hf5 hb5; refine Hid.out ?_))
   refine tZ ?_
   obtain ⟨k2, hk2⟩ : ∃ k2, (nextB r4 4).1 = k2 := ⟨_, rfl⟩
   have hk4 : k2 ≤ 3 := by have := nextB_lt r4 4 (by decide); omega
   rw [hk2]
   clear hk2
   go_wp2_with (first | (go_at_call 22; refine (HTRU.out w1.heap.size _ _ k2 _ F5.out hk4 rfl).mono ?_; rintro r w6 ⟨rfl, hf6, hb6⟩; have K6 := tZ (K5.out.trans hb6); clear hf6 hb6; refine Hid.out ?_))
   refine tZ ?_
   have HK2 := tZ (ks_tru k2 hk4 (nextB r4 4).2)
   generalize (truK k2 (nextB r4 4).2).1.1 = tt at *
   generalize (truK k2 (nextB r4 4).2).1.2 = nt at *
   have R6 := tZ ((K6.out.other q10 (Array.getElem?_eq_some_iff.1 R4.out).1 (Ne.symm HQ.out.1)).trans R4.out)
   obtain ⟨⟨m0, m1, m2⟩, ⟨z0, z1, z2⟩, hsz⟩ := rowS R6.out
   have HFIN := tZ (And.intro (row3_st3 R6.out (.string ⟨tt.toArray⟩) (.int .i64 2) (.int .i64 nt)) ((((K4.out.trans K6.out).over.setCell (p := ⟨q10, 0, none⟩) HQ.out.2 (.string ⟨tt.toArray⟩)).setCell (p := ⟨q10, 1, none⟩) HQ.out.2 (.int .i64 2)).setCell (p := ⟨q10, 2, none⟩) HQ.out.2 (.int .i64 nt)))
   go_wp2_with fail
   go_meet
   exact ⟨rfl, tt, 2, nt, HK2, HFIN⟩
 case rest =>
 obtain ⟨rfl, t, k, n, HKT, HW⟩ := hcut
 clear F4 K4 R4 h01 HKS HNX HNUM HTRU F2 K2 HF1
 generalize wc = w0 at *
 have HB1 := tZ HW.out.2
 have HR1 := tZ HW.out.1
 have HLOW := tZ (H1.out.2.next HB1.out).low
 have hq1 : q10 < w0.heap.size := (Array.getElem?_eq_some_iff.1 HR1.out).1
 have HTq : Hid (False ∨ (w1.heap.size ≤ q10 ∧ q10 < w0.heap.size)) := tZ (Or.inr ⟨HQ.out.2, hq1⟩)
 have HS0 := tZ (H1.out.2.grow HB1.out)
 have HTE : Hid (∃ T : Nat → Prop, T q10 ∧ Sts W0 T [⟨e, 0, ⟨3, [], [], [], none⟩⟩] w0) := tZ ⟨_, HTq.out, HS0.out⟩
 obtain ⟨T, hTq, hS0⟩ := HTE.out
 have HT := tZ hTq
 have HS := tZ hS0
 obtain ⟨hl2, p, hrip, hmk, hval⟩ := HKT.out
 have HMK := tZ hmk
 have HVAL := tZ hval
 have HRIP := tZ hrip
 clear HTE hTq hS0 HTq HS0 HB1 HW HQ H1 HBG HRW hrip hmk hval HKT
 obtain ⟨⟨m0, m1, m2⟩, ⟨z0, z1, z2⟩, hsz⟩ := rowS HR1.out
 have hl3 : (t.length : Int) ≤ 200 := Int.ofNat_le.2 hl2
 rcases Nat.lt_or_ge 70 t.length with h70 | h70
 ·have h70' : (70 : Int) < (t.length : Int) := Int.ofNat_lt.2 h70
  go_wp2_with fail
  exact bodyPost_ret (v := .bool true) (by simp [results, Tryz.results5, go_sem]) (by simp [go_sem]) ⟨rfl, HLOW.out⟩
 have h70' : ¬ (70 : Int) < (t.length : Int) := by have : (t.length : Int) ≤ 70 := Int.ofNat_le.2 h70; omega
 have b1 : ¬ 9223372036854775807 < t.length + 8 := by omega
 have HZL : Hid (IsLn (115 :: 101 :: 116 :: 32 :: 122 :: 32 :: 61 :: 32 :: t) (.set [122] p)) := tZ (by have h := HRIP.out.isLn (x := [122]) (by decide) ⟨by simp; omega, by omega⟩ nm_z nmo_z; simpa [setN] using h)
 have HSH : Hid (Shape p) := tZ (by obtain ⟨ts, _, hD⟩ := HRIP.out.reads _ 0 (Nat.le_refl _); exact hD.shape)
 clear h70 hl2
 go_upto_if 48 with fail
 go_cut [8] (fun s8 wd => s8 = .bool true ∧ Hid (∃ fs P, KI fs 8 (if tu = true then some p else none) ∧ Sts W0 T [⟨e, 0, ⟨3, fs, P, [], none⟩⟩] wd ∧ Kt T w0 wd))
 case first =>
  cases tu with
  | false =>
   go_wp2_with fail
   go_meet
   exact ⟨rfl, tZ ⟨[], [], ki_nil, HS.out, Kt.refl _ _⟩⟩
  | true =>
   obtain ⟨fs1, nm1, hs1, hk1⟩ := ki_z ki_nil HMK.out HSH.out (Or.inl rfl)
   have HA := tZ (lnA_ok (a := ⟨3, [], [], [], none⟩) rfl hs1)
   have HK := tZ hk1
   clear hs1 hk1
   go_wp2_with (first | (go_at_call 19; refine (oneD HS.out HE.out HL.out HZL.out HA.out rfl).mono ?_; rintro r w7 ⟨rfl, h1⟩; have H7 := tZ h1; clear h1; refine Hid.out ?_))
   refine tZ ?_
   go_wp2_with fail
   go_meet
   exact ⟨rfl, tZ ⟨fs1, _, HK.out, H7.out.2, H7.out.1⟩⟩
 case rest =>
 obtain ⟨rfl, HX1⟩ := hcut
 clear m0 m1 m2 z0 z1 z2 hsz
 generalize wc = wb at *
 obtain ⟨zp, hzp⟩ : ∃ zp, (if tu = true then some p else none) = zp := ⟨_, rfl⟩
 rw [hzp] at HX1
 have HZP := tZ hzp
 clear hzp
 go_wp2_with fail
 go_loopg [8, 12, 13, 14] 8 (fun gk s8 i _ _ wr => ∃ r : Nat, r ≤ 8 ∧ r ≤ gk ∧ s8 = .bool true ∧ i = .int .i64 ((r : Int) - 1) ∧ Hid (∃ fs P, KI fs r zp ∧ Sts W0 T [⟨e, 0, ⟨3, fs, P, [], none⟩⟩] wr ∧ Kt T w0 wr))
 case atStart => exact ⟨8, Nat.le_refl _, Nat.le_refl _, rfl, rfl, HX1⟩
 case round =>
  obtain ⟨r, hr8, hgk, rfl, hi, HX2⟩ := hrel
  cases r with
  | succ j =>
   rw [kn_d3] at hi
   subst hi
   obtain ⟨fs, P, hki, hst, hkt⟩ := HX2.out
   obtain ⟨hj8, hj9, hjz⟩ := kn_j hr8
   obtain ⟨fs', nm, hs', hk'⟩ := hki.step hj8
   have HA := tZ (lnA_ok (a := ⟨3, fs, P, [], none⟩) rfl hs')
   have HK := tZ hk'
   have HST := tZ hst
   have HKT := tZ hkt
   have HGK := tZ (Nat.lt_of_succ_le hgk)
   have HR8 := tZ (Nat.le_of_lt hj8)
   have HN := tZ (fun W => keep_num j hj9 W)
   clear hki hst hkt hs' hk' hgk hr8 HX2
   by_cases hm : j % 3 = 2
   ·have HJL := tZ (kn_line1 hj8 hm)
    have hmz := kn_m1 hm
    have HN1 := tZ (kn_num1 hj8 hm)
    have c1 := kn_b1 hj8
    have c2 := kn_b2 hj8
    have c4 := kn_b4 hj8 hm
    have c5 := kn_b5 hj8 hm
    have c6 := kn_b6 hj8 hm
    clear hm
    go_wp2_with (first | (go_at_call 23; refine (HN.out _).mono ?_; rintro rv w9 ⟨rfl, rfl⟩; refine Hid.out ?_))
    refine tZ ?_
    go_wp2_with (first | (go_at_call 23; refine (HN1.out _).mono ?_; rintro rv w9 ⟨rfl, rfl⟩; refine Hid.out ?_))
    refine tZ ?_
    go_wp2_with (first | (go_at_call 23; refine (HN.out _).mono ?_; rintro rv w9 ⟨rfl, rfl⟩; refine Hid.out ?_))
    refine tZ ?_
    go_wp2_with (first | (go_at_call 19; refine (oneD HST.out HE.out HL.out HJL.out HA.out rfl).mono ?_; rintro rv w9 ⟨rfl, h1⟩; have H9 := tZ h1; clear h1; refine Hid.out ?_))
    refine tZ ?_
    go_wp2_with fail
    go_roundg j
    case measure => exact HGK.out
    case rel => exact ⟨j, HR8.out, Nat.le_refl _, rfl, by simp, tZ ⟨fs', _, HK.out, H9.out.2, HKT.out.trans H9.out.1⟩⟩
   ·have HJL := tZ (kn_line0 hj8 hm)
    have hmz := kn_m0 hm
    have c1 := kn_b1 hj8
    have c2 := kn_b2 hj8
    have c3 := kn_b3 hj8
    clear hm
    go_wp2_with (first | (go_at_call 23; refine (HN.out _).mono ?_; rintro rv w9 ⟨rfl, rfl⟩; refine Hid.out ?_))
    refine tZ ?_
    go_wp2_with (first | (go_at_call 23; refine (HN.out _).mono ?_; rintro rv w9 ⟨rfl, rfl⟩; refine Hid.out ?_))
    refine tZ ?_
    go_wp2_with (first | (go_at_call 19; refine (oneD HST.out HE.out HL.out HJL.out HA.out rfl).mono ?_; rintro rv w9 ⟨rfl, h1⟩; have H9 := tZ h1; clear h1; refine Hid.out ?_))
    refine tZ ?_
    go_wp2_with fail
    go_roundg j
    case measure => exact HGK.out
    case rel => exact ⟨j, HR8.out, Nat.le_refl _, rfl, by simp, tZ ⟨fs', _, HK.out, H9.out.2, HKT.out.trans H9.out.1⟩⟩
  | zero =>
   subst hi
   clear hr8 hgk
   go_upto_if 79 with fail
   go_cut [8] (fun s8 wd => s8 = .bool true ∧ Hid (∃ fs P, KI fs 0 (some p) ∧ Sts W0 T [⟨e, 0, ⟨3, fs, P, [], none⟩⟩] wd ∧ Kt T w0 wd))
   case first =>
    cases tu with
    | true =>
     have HX3 : Hid (∃ fs P, KI fs 0 (some p) ∧ Sts W0 T [⟨e, 0, ⟨3, fs, P, [], none⟩⟩] wr ∧ Kt T w0 wr) := tZ (by have h := HX2.out; rw [← HZP.out] at h; exact h)
     go_wp2_with fail
     go_meet
     exact ⟨rfl, HX3⟩
    | false =>
     obtain ⟨fs, P, hki, hst, hkt⟩ := HX2.out
     obtain ⟨fs1, nm1, hs1, hk1⟩ := ki_z (by rw [← HZP.out] at hki; exact hki) HMK.out HSH.out (Or.inr rfl)
     have HA := tZ (lnA_ok (a := ⟨3, fs, P, [], none⟩) rfl hs1)
     have HK := tZ hk1
     have HST := tZ hst
     have HKT := tZ hkt
     clear hs1 hk1 hki hst hkt HX2
     go_wp2_with (first | (go_at_call 19; refine (oneD HST.out HE.out HL.out HZL.out HA.out rfl).mono ?_; rintro rv w7 ⟨rfl, h1⟩; have H7 := tZ h1; clear h1; refine Hid.out ?_))
     refine tZ ?_
     go_wp2_with fail
     go_meet
     exact ⟨rfl, tZ ⟨fs1, _, HK.out, H7.out.2, HKT.out.trans H7.out.1⟩⟩
   case rest =>
   obtain ⟨rfl, HX4⟩ := hcut
   generalize wc = we at *
   obtain ⟨fs, P, hki, hst, hkt⟩ := HX4.out
   obtain ⟨ad, had⟩ : ∃ ad, pickN again 1000 = ad := ⟨_, rfl⟩
   have hadl : ad < 1000 := had ▸ pickN_lt again 1000 (by decide)
   have HPK : Hid (∀ W, Calls Tryz.prog 25 #[.int .i64 again, .int .i64 1000] W fun r w' => r = .returned (.int .i64 (ad : Int)) ∧ w' = W) := tZ fun W => by
    have := pick_ok again 1000 HAG.out.1 HAG.out.2 (by decide) (by decide) W
    rw [had] at this
    exact this
   obtain ⟨fs1, nm1, fs2, nm2, e1, e2, v1, v2⟩ := ki_end hki HMK.out ad hadl
   have HVZ : Hid ((valA fs [122]).2 = (k, n)) := tZ (by rw [(prs_val hki.ok.gf (hki.zed p rfl)).1]; exact HVAL.out _ hki.rg)
   have HA1 := tZ (lnA_ok (a := ⟨3, fs, P, [], none⟩) rfl e1)
   have HA2 := tZ (lnA_ok (a := ⟨3, fs1, (fs :: P).take 3, [], none⟩) rfl e2)
   have HLN := tZ (show IsLn (115 :: 101 :: 116 :: 32 :: 102 :: 49 :: 32 :: 61 :: 32 :: Lib.decDigits ad) (.set (fN 1) (dgP ad)) by have h := isLn_num (fN 1) (fN_ok 1 (by decide)) (fN_o 1) ad hadl; exact h)
   have HV1 := tZ v1
   have HV2 := tZ v2
   have HST := tZ hst
   have HKT := tZ hkt
   have HNM := tZ (fun W (h : Env W) => num22 ad (by unfold top63; omega) W h)
   have hadz : (ad : Int) < 1000 := Int.ofNat_lt.2 hadl
   have hdl : ¬ 9223372036854775807 < (Lib.decDigits ad).length + 9 := by have := dd_len 2 ad (by omega); omega
   clear hki hst hkt HX4 e1 e2 v1 v2 had hadl HX2 HX1 HZP
   go_wp2_with (first | (go_at_call 24; refine (oneW HST.out HE.out HL.out rfl nm_z nmo_z).mono ?_; rintro rv w8 ⟨rfl, h1⟩; rw [HVZ.out]; have H8 := tZ h1; clear h1; refine Hid.out ?_))
   refine tZ ?_
   go_wp2_with (first | (go_at_call 25; refine (HPK.out _).mono ?_; rintro rv w9 ⟨rfl, rfl⟩; refine Hid.out ?_))
   refine tZ ?_
   go_wp2_with (first | (go_at_call 19; refine (oneD H8.out.2 HE.out HL.out isLn_y2 HA1.out rfl).mono ?_; rintro rv w9 ⟨rfl, h1⟩; have H9 := tZ h1; clear h1; refine Hid.out ?_))
   refine tZ ?_
   go_wp2_with (first | (go_at_call 23; refine (HNM.out _ (HE.out.next H9.out.2.low)).mono ?_; rintro rv w10 ⟨rfl, h1⟩; have H10 := tZ h1; clear h1; refine Hid.out ?_))
   refine tZ ?_
   have HS10 := tZ (H9.out.2.next H10.out)
   have HK10 := tZ (((HKT.out.trans H8.out.1).trans H9.out.1).below H9.out.2.tlt H10.out)
   go_wp2_with (first | (go_at_call 19; refine (oneD HS10.out HE.out HL.out HLN.out HA2.out rfl).mono ?_; rintro rv w11 ⟨rfl, h1⟩; have H11 := tZ h1; clear h1; refine Hid.out ?_))
   refine tZ ?_
   have HK11 := tZ (HK10.out.trans H11.out.1)
   obtain ⟨⟨m0, m1, m2⟩, ⟨z0, z1, z2⟩, hsz⟩ := rowS ((HK11.out.block q10 HT.out).trans HR1.out)
   have hkk : (k == k) = true := by simp
   have hnn : (n == n) = true := by simp
   go_wp2_with (first | (go_at_call 26; refine (oneI H11.out.2 HE.out HL.out rfl nm_y' nmo_y' HV1.out).mono ?_; rintro rv w12 ⟨rfl, h1⟩; have H12 := tZ h1; clear h1; refine Hid.out ?_))
   refine tZ ?_
   go_wp2_with (first | (go_at_call 26; refine (oneI H12.out.2 HE.out HL.out rfl (fN_ok 2 (by decide)) (fN_o 2) HV2.out).mono ?_; rintro rv w13 ⟨rfl, h1⟩; have H13 := tZ h1.2.low; clear h1; refine Hid.out ?_))
   refine tZ ?_
   go_wp2
   exact bodyPost_ret (v := .bool true) (by simp [results, Tryz.results5, go_sem]) (by simp [go_sem]) ⟨rfl, H13.out⟩
end
end Go.Proofs.YtihgojcfpnhelaaGreatDoor
