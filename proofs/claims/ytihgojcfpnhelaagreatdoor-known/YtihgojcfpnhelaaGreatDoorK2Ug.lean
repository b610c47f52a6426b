import Derived.Test.YtihgojcfpnhelaaGreatDoorK2Uf
set_option maxRecDepth 100000
set_option maxHeartbeats 4000000
set_option linter.unusedVariables false
set_option linter.unusedSimpArgs false
namespace Go.Proofs.YtihgojcfpnhelaaGreatDoor
open Go.RowKit
section
attribute [local go_sem] idx_eq app_eq
theorem numberS (b d : Nat) (r : By) (z : Int) (w : World) (h0 : FeedAt w b r) (hz0 : (z == 0) = false) (hd : d ≤ 2)
  (H1 : ∀ W, FeedAt W b r → Calls Tryz.prog 21 #[.pointer (some ⟨b, 0, none⟩), .int .i64 (wrap64 (z - 1))] W (SumPost b 1 (numK d r) W))
  (H2 : ∀ r W, FeedAt W b r → Calls Tryz.prog 22 #[.pointer (some ⟨b, 0, none⟩), .int .i64 (wrap64 (z - 1))] W (SumPost b 2 (truK d r) W)) :
  Calls Tryz.prog 21 #[.pointer (some ⟨b, 0, none⟩), .int .i64 z] w (SumPost b 1 (numK (d + 1) r) w) := by
 have hs0 := h0.size
 have HF0 := tZ (h0.alloc (.cells #[.string ⟨#[]⟩, .int .i64 0, .int .i64 0] 43))
 have hlen := numK_len d r
 have hin := numK_in d r
 have hl7 := nextB_lt (nextB (numK d r).2 8).2 7 (by decide)
 have hl8 := nextB_lt (numK d r).2 8 (by decide)
 have hx1 := numB_1 (numK d r).2
 have HTL := tZ (fun r => truK_len d r)
 have HT1 := tZ (fun r => truK_01 d r)
 unfold SumPost at *
 have H1 := tZ H1
 have H2 := tZ H2
 unfold numK
 rcases hK : numK d r with ⟨⟨ta, na⟩, ra⟩
 rw [hK] at H1 hlen hin hl7 hl8 hx1
 simp only at H1 hlen hin hl7 hl8 hx1 ⊢
 clear hK
 rcases hN : nextB ra 8 with ⟨n, rb⟩
 rw [hN] at hl7 hl8 hx1
 simp only at hl7 hl8 hx1 ⊢
 have HN := tZ hN
 rcases hM : nextB rb 7 with ⟨k, rc⟩
 rw [hM] at hl7
 simp only at hl7 ⊢
 have HM := tZ hM
 clear hN hM
 have hlb : ta.length ≤ 62 := by omega
 have hnb : n < 100 := by omega
 have b1 : ¬ 9223372036854775807 < ta.length + 1 := by omega
 have b2 : ¬ 9223372036854775807 < ta.length + 1 + 4 := by omega
 have b3 : ¬ 9223372036854775807 < (numB n).length + 1 := by omega
 have b4 : ¬ 9223372036854775807 < ta.length + 1 + 5 := by omega
 have b5 : ¬ 9223372036854775807 < ta.length + 1 + 4 + ((numB n).length + 1) := by omega
 have b6 : ¬ 9223372036854775807 < ta.length + 2 := by omega
 have b7 : ¬ 9223372036854775807 < ta.length + 2 + 1 := by omega
 have hk : k = 0 ∨ k = 1 ∨ k = 2 ∨ k = 3 ∨ k = 4 ∨ k = 5 ∨ k = 6 := by omega
 have hn8 : (n : Int) < 8 := by omega
 clear hlen hl7 hl8
 go_enter Tryz.func21, Tryz.ntmps21
 go_wp2_with (first | (go_at_call 21; refine (H1.out _ HF0.out).mono ?_; rintro e w1 ⟨rfl, hf1, hb1⟩; have F1 := tZ hf1; have B1 := tZ hb1; clear hf1 hb1; refine Hid.out ?_))
 refine tZ ?_
 have F1a := tZ (F1.out.alloc (.cells #[.string ⟨ta.toArray⟩, .int .i64 1, .int .i64 na] 43))
 have B1a := tZ (KeepB.alloc B1.out F1.out.size (.cells #[.string ⟨ta.toArray⟩, .int .i64 1, .int .i64 na] 43))
 have R1 := tZ (heap_alloc_new w1 (.cells #[.string ⟨ta.toArray⟩, .int .i64 1, .int .i64 na] 43))
 have HS1 := tZ F1.out.size
 go_wp2_with (first | (go_at_call 16; refine (keep_nextZ b ra 8 8 _ F1a.out (by decide)).mono ?_; rintro e w2 ⟨rfl, hf2, hb2⟩; rw [HN.out] at hf2 ⊢; have F2 := tZ hf2; have C2 := tZ hb2; clear hf2 hb2; refine Hid.out ?_))
 refine tZ ?_
 have R2 := tZ ((C2.out.other w1.heap.size (by simp) (Nat.ne_of_gt HS1.out)).trans R1.out)
 obtain ⟨⟨c0, c1, c2⟩, _, hsz1⟩ := rowS R2.out
 go_wp2_with (first | (go_at_call 23; refine (keep_num n hnb _).mono ?_; rintro e w3 ⟨rfl, rfl⟩; refine Hid.out ?_))
 refine tZ ?_
 go_wp2_with (first | (go_at_call 16; refine (keep_nextZ b rb 7 7 _ F2.out (by decide)).mono ?_; rintro e w3 ⟨rfl, hf3, hb3⟩; rw [HM.out] at hf3 ⊢; have F3 := tZ hf3; have C3 := tZ (C2.out.trans hb3); clear hf3 hb3; refine Hid.out ?_))
 refine tZ ?_
 clear c0 c1 c2 hsz1
 have B3 := tZ (B1a.out.trans C3.out)
 have R3 := tZ ((C3.out.other w1.heap.size (by simp) (Nat.ne_of_gt HS1.out)).trans R1.out)
 obtain ⟨⟨c0, c1, c2⟩, ⟨y0, y1, y2⟩, hsz1⟩ := rowS R3.out
 obtain ⟨⟨m0, m1, m2⟩, ⟨z0, z1, z2⟩, hsz⟩ := rowS ((B3.out.other w.heap.size (by simp) (Nat.ne_of_gt hs0)).trans (heap_alloc_new w (.cells #[.string ⟨#[]⟩, .int .i64 0, .int .i64 0] 43)))
 have HFIN := tZ (sum_fin hs0 (B3.out.new hs0) F3.out)
 have hqq : w.heap.size ≠ w1.heap.size := by have := B1.out.lt; simp at this; omega
 have hqq' := Ne.symm hqq
 rcases hk with rfl | rfl | rfl | rfl | rfl | rfl | rfl
 ·skip
  go_wp2_with fail
  refine bodyPost_ret (v := .agg #[.string ⟨([40] ++ ta ++ [41, 32, 45, 32] ++ (102 :: numB n)).toArray⟩, .int .i64 1, .int .i64 (wrap64 (na - (n : Int)))]) (by simp [results, Tryz.results21, go_sem, m0, m1, m2]) rfl ?_
  exact ⟨by simp [numC], (HFIN.out _ _ _).1, (HFIN.out _ _ _).2⟩
 ·skip
  go_wp2_with fail
  refine bodyPost_ret (v := .agg #[.string ⟨([40] ++ ta ++ [41, 32, 42, 32] ++ (102 :: numB n)).toArray⟩, .int .i64 1, .int .i64 (wrap64 (na * (n : Int)))]) (by simp [results, Tryz.results21, go_sem, m0, m1, m2]) rfl ?_
  exact ⟨by simp [numC], (HFIN.out _ _ _).1, (HFIN.out _ _ _).2⟩
 ·skip
  go_wp2_with fail
  refine bodyPost_ret (v := .agg #[.string ⟨([40] ++ ta ++ [41, 32, 47, 32, 51]).toArray⟩, .int .i64 1, .int .i64 (na.tdiv 3)]) (by simp [results, Tryz.results21, go_sem, m0, m1, m2]) rfl ?_
  exact ⟨by simp [numC], (HFIN.out _ _ _).1, (HFIN.out _ _ _).2⟩
 ·skip
  go_wp2_with fail
  refine bodyPost_ret (v := .agg #[.string ⟨([40] ++ ta ++ [41, 32, 37, 32, 51]).toArray⟩, .int .i64 1, .int .i64 (na.tmod 3)]) (by simp [results, Tryz.results21, go_sem, m0, m1, m2]) rfl ?_
  exact ⟨by simp [numC], (HFIN.out _ _ _).1, (HFIN.out _ _ _).2⟩
 ·skip
  go_wp2_with fail
  refine bodyPost_ret (v := .agg #[.string ⟨([45, 40] ++ ta ++ [41]).toArray⟩, .int .i64 1, .int .i64 (wrap64 (-na))]) (by simp [results, Tryz.results21, go_sem, m0, m1, m2]) rfl ?_
  exact ⟨by simp [numC], (HFIN.out _ _ _).1, (HFIN.out _ _ _).2⟩
 ·rcases hT : truK d rc with ⟨⟨tb, nb⟩, rd⟩
  have H2c := tZ (H2.out rc)
  have hb01 := HT1.out rc
  have htl := HTL.out rc
  rw [hT] at H2c hb01 htl
  simp only at H2c hb01 htl
  have HT := tZ hT
  clear hT
  have d1 : ¬ 9223372036854775807 < tb.length + 3 := by omega
  have d2 : ¬ 9223372036854775807 < tb.length + 3 + 2 := by omega
  have d3 : ¬ 9223372036854775807 < tb.length + 3 + 2 + ((numB n).length + 1) := by omega
  have d4 : ¬ 9223372036854775807 < tb.length + 3 + 2 + ((numB n).length + 1) + 9 := by omega
  have d5 : ¬ 9223372036854775807 < tb.length + 3 + 9 := by omega
  have d6 : ¬ 9223372036854775807 < tb.length + 3 + 9 + ((numB n).length + 1) := by omega
  have d7 : ¬ 9223372036854775807 < tb.length + 3 + 9 + ((numB n).length + 1) + 1 := by omega
  go_wp2_with (first | (go_at_call 22; refine (H2c.out _ F3.out).mono ?_; rintro e w4 ⟨rfl, hf4, hb4⟩; have F4 := tZ hf4; have C4 := tZ (B3.out.trans hb4); clear hf4 hb4; refine Hid.out ?_))
  refine tZ ?_
  clear c0 c1 c2 y0 y1 y2 hsz1 m0 m1 m2 z0 z1 z2 hsz
  have F4a := tZ (F4.out.alloc (.cells #[.string ⟨tb.toArray⟩, .int .i64 2, .int .i64 nb] 43))
  have B4 := tZ (KeepB.alloc C4.out F4.out.size (.cells #[.string ⟨tb.toArray⟩, .int .i64 2, .int .i64 nb] 43))
  obtain ⟨⟨c0, c1, c2⟩, ⟨y0, y1, y2⟩, hsz1⟩ := rowS (heap_alloc_new w4 (.cells #[.string ⟨tb.toArray⟩, .int .i64 2, .int .i64 nb] 43))
  obtain ⟨⟨m0, m1, m2⟩, ⟨z0, z1, z2⟩, hsz⟩ := rowS ((B4.out.other w.heap.size (by simp) (Nat.ne_of_gt hs0)).trans (heap_alloc_new w (.cells #[.string ⟨#[]⟩, .int .i64 0, .int .i64 0] 43)))
  have HFI2 := tZ (sum_fin hs0 (B4.out.new hs0) F4a.out)
  have hq4 : w.heap.size ≠ w4.heap.size := by have := C4.out.lt; simp at this; omega
  have hq4' := Ne.symm hq4
  rcases hb01 with rfl | rfl
  ·go_wp2_with fail
   refine bodyPost_ret (v := .agg #[.string ⟨([105, 102, 40] ++ tb ++ [44, 32, 49, 32, 47, 32, 48, 44, 32] ++ (102 :: numB n) ++ [41]).toArray⟩, .int .i64 1, .int .i64 (n : Int)]) (by simp [results, Tryz.results21, go_sem, m0, m1, m2]) rfl ?_
   simp only [HT.out]
   exact ⟨by simp [numI], (HFI2.out _ _ _).1, (HFI2.out _ _ _).2⟩
  ·go_wp2_with fail
   refine bodyPost_ret (v := .agg #[.string ⟨([105, 102, 40] ++ tb ++ [44, 32] ++ (102 :: numB n) ++ [44, 32, 110, 111, 98, 111, 100, 121, 41]).toArray⟩, .int .i64 1, .int .i64 (n : Int)]) (by simp [results, Tryz.results21, go_sem, m0, m1, m2]) rfl ?_
   simp only [HT.out]
   exact ⟨by simp [numI], (HFI2.out _ _ _).1, (HFI2.out _ _ _).2⟩
 ·skip
  go_wp2_with fail
  refine bodyPost_ret (v := .agg #[.string ⟨([40] ++ ta ++ [41, 32, 43, 32] ++ (102 :: numB n)).toArray⟩, .int .i64 1, .int .i64 (wrap64 (na + (n : Int)))]) (by simp [results, Tryz.results21, go_sem, m0, m1, m2]) rfl ?_
  exact ⟨by simp [numC], (HFIN.out _ _ _).1, (HFIN.out _ _ _).2⟩
end
end Go.Proofs.YtihgojcfpnhelaaGreatDoor
