import Derived.Test.YtihgojcfpnhelaaGreatDoorK2Uh
set_option maxRecDepth 100000
set_option maxHeartbeats 4000000
set_option linter.unusedVariables false
set_option linter.unusedSimpArgs false
namespace Go.Proofs.YtihgojcfpnhelaaGreatDoor
open Go.RowKit
section
attribute [local go_sem] idx_eq app_eq
theorem truthS (b d : Nat) (r : By) (z : Int) (w : World) (h0 : FeedAt w b r) (hz0 : 0 < z) (hd : d ≤ 2)
  (HT : ∀ r W, FeedAt W b r → Calls Tryz.prog 22 #[.pointer (some ⟨b, 0, none⟩), .int .i64 (wrap64 (z - 1))] W (SumPost b 2 (truK d r) W)) :
  Calls Tryz.prog 22 #[.pointer (some ⟨b, 0, none⟩), .int .i64 z] w (SumPost b 2 (truK (d + 1) r) w) := by
 have hs0 := h0.size
 have HF0 := tZ (h0.alloc (.cells #[.string ⟨#[]⟩, .int .i64 0, .int .i64 0] 43))
 have hla := num0_len r
 have hlb := num0_len (num0 r).2
 have H1 := tZ (fun r W h => number0 b r W h)
 unfold SumPost at *
 have hlc := truK_len d (num0 (num0 r).2).2
 have h01 := truK_01 d (num0 (num0 r).2).2
 have HT := tZ HT
 unfold truK
 rcases hA : num0 r with ⟨⟨ta, na⟩, ra⟩
 rw [hA] at hla hlb hlc h01
 simp only at hla hlb hlc h01 ⊢
 rcases hB : num0 ra with ⟨⟨tb, nb⟩, rb⟩
 rw [hB] at hlb hlc h01
 simp only at hlb hlc h01 ⊢
 rcases hC : truK d rb with ⟨⟨tc, nc⟩, rc⟩
 rw [hC] at hlc h01
 simp only at hlc h01 ⊢
 rcases hM : nextB rc 4 with ⟨k, rd⟩
 have hl2 : k < 4 := by have := nextB_lt rc 4 (by decide); rw [hM] at this; exact this
 simp only
 have HA := tZ hA
 have HB := tZ hB
 have HC := tZ hC
 have HM := tZ hM
 clear hA hB hC hM
 have b1 : ¬ 9223372036854775807 < tc.length + 5 := by omega
 have b2 : ¬ 9223372036854775807 < tc.length + 5 + 1 := by omega
 have b3 : ¬ 9223372036854775807 < 1 + tc.length := by omega
 have b4 : ¬ 9223372036854775807 < tc.length + 1 := by omega
 have b5 : ¬ 9223372036854775807 < tc.length + 1 + 12 := by omega
 have b6 : ¬ 9223372036854775807 < tc.length + 1 + 14 := by omega
 have b7 : ¬ 9223372036854775807 < tc.length + 1 + 6 := by omega
 have b8 : ¬ 9223372036854775807 < tc.length + 6 + 1 + ta.length := by omega
 have b9 : ¬ 9223372036854775807 < tc.length + (ta.length + 6) + 1 + 3 := by omega
 have b10 : ¬ 9223372036854775807 < tc.length + (ta.length + 3 + 6) + 1 + tb.length := by omega
 have b11 : ¬ 9223372036854775807 < tc.length + 1 + 5 := by omega
 have b12 : ¬ 9223372036854775807 < tc.length + 5 + 1 + ta.length := by omega
 have b13 : ¬ 9223372036854775807 < tc.length + (ta.length + 5) + 1 + 3 := by omega
 have b14 : ¬ 9223372036854775807 < tc.length + (ta.length + 3 + 5) + 1 + tb.length := by omega
 have hk : k = 0 ∨ k = 1 ∨ k = 2 ∨ k = 3 := by omega
 clear hla hlb hl2 hlc
 go_enter Tryz.func22, Tryz.ntmps22
 go_wp2_with (first | (go_at_call 21; refine (H1.out r _ HF0.out).mono ?_; rintro e w1 ⟨rfl, hf1, hb1⟩; rw [HA.out] at hf1 ⊢; have F1 := tZ hf1; have B1 := tZ hb1; clear hf1 hb1; refine Hid.out ?_))
 refine tZ ?_
 have F1a := tZ (F1.out.alloc (.cells #[.string ⟨ta.toArray⟩, .int .i64 1, .int .i64 na] 43))
 have B1a := tZ (KeepB.alloc B1.out F1.out.size (.cells #[.string ⟨ta.toArray⟩, .int .i64 1, .int .i64 na] 43))
 have R1 := tZ (heap_alloc_new w1 (.cells #[.string ⟨ta.toArray⟩, .int .i64 1, .int .i64 na] 43))
 have HS1 := tZ F1.out.size
 go_wp2_with (first | (go_at_call 21; refine (H1.out ra _ F1a.out).mono ?_; rintro e w2 ⟨rfl, hf2, hb2⟩; rw [HB.out] at hf2 ⊢; have F2 := tZ hf2; have C2 := tZ hb2; clear hf2 hb2; refine Hid.out ?_))
 refine tZ ?_
 have F2a := tZ (F2.out.alloc (.cells #[.string ⟨tb.toArray⟩, .int .i64 1, .int .i64 nb] 43))
 have C2a := tZ (KeepB.alloc C2.out F2.out.size (.cells #[.string ⟨tb.toArray⟩, .int .i64 1, .int .i64 nb] 43))
 have R2 := tZ (heap_alloc_new w2 (.cells #[.string ⟨tb.toArray⟩, .int .i64 1, .int .i64 nb] 43))
 have HS2 := tZ F2.out.size
 go_wp2_with (first | (go_at_call 22; refine (HT.out rb _ F2a.out).mono ?_; rintro e w3 ⟨rfl, hf3, hb3⟩; rw [HC.out] at hf3 ⊢; have F3 := tZ hf3; have C3 := tZ hb3; clear hf3 hb3; refine Hid.out ?_))
 refine tZ ?_
 have F3a := tZ (F3.out.alloc (.cells #[.string ⟨tc.toArray⟩, .int .i64 2, .int .i64 nc] 43))
 have C3a := tZ (KeepB.alloc C3.out F3.out.size (.cells #[.string ⟨tc.toArray⟩, .int .i64 2, .int .i64 nc] 43))
 have R3 := tZ (heap_alloc_new w3 (.cells #[.string ⟨tc.toArray⟩, .int .i64 2, .int .i64 nc] 43))
 have HS3 := tZ F3.out.size
 go_wp2_with (first | (go_at_call 16; refine (keep_nextZ b rc 4 4 _ F3a.out (by decide)).mono ?_; rintro e w4 ⟨rfl, hf4, hb4⟩; rw [HM.out] at hf4 ⊢; have F4 := tZ hf4; have C4 := tZ hb4; clear hf4 hb4; refine Hid.out ?_))
 refine tZ ?_
 have E4 := tZ (C3a.out.trans C4.out)
 have D4 := tZ (C2a.out.trans E4.out)
 have B4 := tZ (B1a.out.trans D4.out)
 obtain ⟨⟨c0, c1, c2⟩, ⟨y0, y1, y2⟩, hsz1⟩ := rowS ((D4.out.other w1.heap.size (by simp) (Nat.ne_of_gt HS1.out)).trans R1.out)
 obtain ⟨⟨e0, e1, e2⟩, ⟨x0, x1, x2⟩, hsz2⟩ := rowS ((E4.out.other w2.heap.size (by simp) (Nat.ne_of_gt HS2.out)).trans R2.out)
 obtain ⟨⟨g0, g1, g2⟩, ⟨v0, v1, v2⟩, hsz3⟩ := rowS ((C4.out.other w3.heap.size (by simp) (Nat.ne_of_gt HS3.out)).trans R3.out)
 obtain ⟨⟨m0, m1, m2⟩, ⟨z0, z1, z2⟩, hsz⟩ := rowS ((B4.out.other w.heap.size (by simp) (Nat.ne_of_gt hs0)).trans (heap_alloc_new w (.cells #[.string ⟨#[]⟩, .int .i64 0, .int .i64 0] 43)))
 have HFIN := tZ (sum_fin hs0 (B4.out.new hs0).drew F4.out.drew)
 have HFI2 := tZ (sum_fin hs0 (B4.out.new hs0) F4.out)
 have hq1 : w.heap.size ≠ w1.heap.size := by have := B1.out.lt; simp at this; omega
 have hq1' := Ne.symm hq1
 have hq2 : w.heap.size ≠ w2.heap.size := by have := (B1a.out.trans C2.out).lt; simp at this; omega
 have hq2' := Ne.symm hq2
 have hq3 : w.heap.size ≠ w3.heap.size := by have := (B1a.out.trans (C2a.out.trans C3.out)).lt; simp at this; omega
 have hq3' := Ne.symm hq3
 rcases hk with rfl | rfl | rfl | rfl
 ·rcases h01 with rfl | rfl
  ·go_wp2_with fail
   refine bodyPost_ret (v := .agg #[.string ⟨([110, 111, 116, 32, 40] ++ tc ++ [41]).toArray⟩, .int .i64 2, .int .i64 (1)]) (by simp [results, Tryz.results22, go_sem, m0, m1, m2]) rfl ?_
   exact ⟨by simp [truC], (HFI2.out _ _ _).1, (HFI2.out _ _ _).2⟩
  ·go_wp2_with fail
   refine bodyPost_ret (v := .agg #[.string ⟨([110, 111, 116, 32, 40] ++ tc ++ [41]).toArray⟩, .int .i64 2, .int .i64 (0)]) (by simp [results, Tryz.results22, go_sem, m0, m1, m2]) rfl ?_
   exact ⟨by simp [truC], (HFI2.out _ _ _).1, (HFI2.out _ _ _).2⟩
 ·rcases h01 with rfl | rfl
  ·go_wp2_with fail
   refine bodyPost_ret (v := .agg #[.string ⟨([40] ++ tc ++ [41, 32, 97, 110, 100, 32, 110, 111, 98, 111, 100, 121]).toArray⟩, .int .i64 2, .int .i64 (0)]) (by simp [results, Tryz.results22, go_sem, m0, m1, m2]) rfl ?_
   exact ⟨by simp [truC], (HFI2.out _ _ _).1, (HFI2.out _ _ _).2⟩
  ·go_wp2_with fail
   go_region_held3 (fun w' => w'.cell? ⟨w1.heap.size, 0, none⟩ = some (.string ⟨ta.toArray⟩) ∧ w'.cell? ⟨w1.heap.size, 2, none⟩ = some (.int .i64 na) ∧ w'.cell? ⟨w2.heap.size, 0, none⟩ = some (.string ⟨tb.toArray⟩) ∧ w'.cell? ⟨w2.heap.size, 2, none⟩ = some (.int .i64 nb) ∧ w'.cell? ⟨w3.heap.size, 0, none⟩ = some (.string ⟨tc.toArray⟩)) (first | go_keep | (go_split_ands; exact ⟨c0, c2, e0, e2, g0⟩)) (first | (go_at_call 28; refine (bit_ok _ _).mono ?_; rintro e w9 ⟨rfl, rfl⟩))
   all_goals go_wp2
   all_goals refine bodyPost_ret (v := .agg #[.string ⟨([40] ++ tc ++ [41, 32, 97, 110, 100, 32] ++ ta ++ [32, 60, 32] ++ tb).toArray⟩, .int .i64 2, .int .i64 (bitI (decide (na < nb)))]) (by simp [results, Tryz.results22, go_sem, m0, m1, m2]) rfl ?_
   all_goals exact ⟨by simp [truC], (HFIN.out _ _ _).1, (HFIN.out _ _ _).2⟩
 ·rcases h01 with rfl | rfl
  ·go_wp2_with fail
   go_region_held3 (fun w' => w'.cell? ⟨w1.heap.size, 0, none⟩ = some (.string ⟨ta.toArray⟩) ∧ w'.cell? ⟨w1.heap.size, 2, none⟩ = some (.int .i64 na) ∧ w'.cell? ⟨w2.heap.size, 0, none⟩ = some (.string ⟨tb.toArray⟩) ∧ w'.cell? ⟨w2.heap.size, 2, none⟩ = some (.int .i64 nb) ∧ w'.cell? ⟨w3.heap.size, 0, none⟩ = some (.string ⟨tc.toArray⟩)) (first | go_keep | (go_split_ands; exact ⟨c0, c2, e0, e2, g0⟩)) (first | (go_at_call 28; refine (bit_ok _ _).mono ?_; rintro e w9 ⟨rfl, rfl⟩))
   all_goals go_wp2
   all_goals refine bodyPost_ret (v := .agg #[.string ⟨([40] ++ tc ++ [41, 32, 111, 114, 32] ++ ta ++ [32, 61, 32] ++ tb).toArray⟩, .int .i64 2, .int .i64 (bitI (na == nb))]) (by simp [results, Tryz.results22, go_sem, m0, m1, m2]) rfl ?_
   all_goals exact ⟨by simp [truC], (HFIN.out _ _ _).1, (HFIN.out _ _ _).2⟩
  ·go_wp2_with fail
   refine bodyPost_ret (v := .agg #[.string ⟨([40] ++ tc ++ [41, 32, 111, 114, 32, 49, 32, 47, 32, 48, 32, 61, 32, 50]).toArray⟩, .int .i64 2, .int .i64 (1)]) (by simp [results, Tryz.results22, go_sem, m0, m1, m2]) rfl ?_
   exact ⟨by simp [truC], (HFI2.out _ _ _).1, (HFI2.out _ _ _).2⟩
 ·go_wp2_with fail
  refine bodyPost_ret (v := .agg #[.string ⟨(tc).toArray⟩, .int .i64 2, .int .i64 (nc)]) (by simp [results, Tryz.results22, go_sem, m0, m1, m2]) rfl ?_
  exact ⟨by simp [truC], (HFI2.out _ _ _).1, (HFI2.out _ _ _).2⟩
end
end Go.Proofs.YtihgojcfpnhelaaGreatDoor
