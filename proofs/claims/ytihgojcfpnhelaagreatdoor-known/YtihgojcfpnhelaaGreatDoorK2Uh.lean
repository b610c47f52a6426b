import Derived.Test.YtihgojcfpnhelaaGreatDoorK2Ug
set_option maxRecDepth 100000
set_option maxHeartbeats 4000000
set_option linter.unusedVariables false
set_option linter.unusedSimpArgs false
namespace Go.Proofs.YtihgojcfpnhelaaGreatDoor
open Go.RowKit
section
attribute [local go_sem] idx_eq app_eq
theorem bit_ok (x : Bool) (W : World) : Calls Tryz.prog 28 #[.bool x] W fun e w' => e = .returned (.int .i64 (bitI x)) ∧ w' = W := by
 cases x
 ·go_enter Tryz.func28, Tryz.ntmps28
  go_wp2
  refine bodyPost_ret (v := .int .i64 0) (by simp [results, Tryz.results28, go_sem]) rfl ?_
  exact ⟨rfl, rfl⟩
 ·go_enter Tryz.func28, Tryz.ntmps28
  go_wp2
  refine bodyPost_ret (v := .int .i64 1) (by simp [results, Tryz.results28, go_sem]) rfl ?_
  exact ⟨rfl, rfl⟩
theorem truth0 (b : Nat) (r : By) (w : World) (h0 : FeedAt w b r) : Calls Tryz.prog 22 #[.pointer (some ⟨b, 0, none⟩), .int .i64 0] w (SumPost b 2 (truK 0 r) w) := by
 have hs0 := h0.size
 have HF0 := tZ (h0.alloc (.cells #[.string ⟨#[]⟩, .int .i64 0, .int .i64 0] 43))
 have hla := num0_len r
 have hlb := num0_len (num0 r).2
 have H1 := tZ (fun r W h => number0 b r W h)
 unfold SumPost at *
 unfold truK
 rcases hA : num0 r with ⟨⟨ta, na⟩, ra⟩
 rw [hA] at hla hlb
 simp only at hla hlb ⊢
 rcases hB : num0 ra with ⟨⟨tb, nb⟩, rb⟩
 rw [hB] at hlb
 simp only at hlb ⊢
 rcases hM : nextB rb 2 with ⟨k, rc⟩
 have hl2 : k < 2 := by have := nextB_lt rb 2 (by decide); rw [hM] at this; exact this
 simp only
 have HA := tZ hA
 have HB := tZ hB
 have HM := tZ hM
 clear hA hB hM
 have b1 : ¬ 9223372036854775807 < ta.length + 3 := by omega
 have b2 : ¬ 9223372036854775807 < ta.length + 3 + tb.length := by omega
 have hk : k = 0 ∨ k = 1 := by omega
 clear hla hlb hl2
 go_enter Tryz.func22, Tryz.ntmps22
 go_wp2_with (first | (go_at_call 21; refine (H1.out r _ HF0.out).mono ?_; rintro e w1 ⟨rfl, hf1, hb1⟩; rw [HA.out] at hf1 ⊢; have F1 := tZ hf1; have B1 := tZ hb1; clear hf1 hb1; refine Hid.out ?_))
 refine tZ ?_
 have F1a := tZ (F1.out.alloc (.cells #[.string ⟨ta.toArray⟩, .int .i64 1, .int .i64 na] 43))
 have B1a := tZ (KeepB.alloc B1.out F1.out.size (.cells #[.string ⟨ta.toArray⟩, .int .i64 1, .int .i64 na] 43))
 have R1 := tZ (heap_alloc_new w1 (.cells #[.string ⟨ta.toArray⟩, .int .i64 1, .int .i64 na] 43))
 have HS1 := tZ F1.out.size
 go_wp2_with (first | (go_at_call 21; refine (H1.out ra _ F1a.out).mono ?_; rintro e w2 ⟨rfl, hf2, hb2⟩; rw [HB.out] at hf2 ⊢; have F2 := tZ hf2; have C2 := tZ hb2; clear hf2 hb2; refine Hid.out ?_))
 refine tZ ?_
 have F2a := tZ (F2.out.alloc (.cells #[.string ⟨tb.toArray⟩, .int .i64 1, .int .i64 nb] 43))
 have C2a := tZ (KeepB.alloc C2.out F2.out.size (.cells #[.string ⟨tb.toArray⟩, .int .i64 1, .int .i64 nb] 43))
 have R2 := tZ (heap_alloc_new w2 (.cells #[.string ⟨tb.toArray⟩, .int .i64 1, .int .i64 nb] 43))
 have HS2 := tZ F2.out.size
 go_wp2_with (first | (go_at_call 16; refine (keep_nextZ b rb 2 2 _ F2a.out (by decide)).mono ?_; rintro e w3 ⟨rfl, hf3, hb3⟩; rw [HM.out] at hf3 ⊢; have F3 := tZ hf3; have C3 := tZ hb3; clear hf3 hb3; refine Hid.out ?_))
 refine tZ ?_
 have D3 := tZ (C2a.out.trans C3.out)
 have B3 := tZ (B1a.out.trans D3.out)
 obtain ⟨⟨c0, c1, c2⟩, ⟨y0, y1, y2⟩, hsz1⟩ := rowS ((D3.out.other w1.heap.size (by simp) (Nat.ne_of_gt HS1.out)).trans R1.out)
 obtain ⟨⟨e0, e1, e2⟩, ⟨x0, x1, x2⟩, hsz2⟩ := rowS ((C3.out.other w2.heap.size (by simp) (Nat.ne_of_gt HS2.out)).trans R2.out)
 obtain ⟨⟨m0, m1, m2⟩, ⟨z0, z1, z2⟩, hsz⟩ := rowS ((B3.out.other w.heap.size (by simp) (Nat.ne_of_gt hs0)).trans (heap_alloc_new w (.cells #[.string ⟨#[]⟩, .int .i64 0, .int .i64 0] 43)))
 have HFIN := tZ (sum_fin hs0 (B3.out.new hs0).drew F3.out.drew)
 have hq1 : w.heap.size ≠ w1.heap.size := by have := B1.out.lt; simp at this; omega
 have hq1' := Ne.symm hq1
 have hq2 : w.heap.size ≠ w2.heap.size := by have := (B1a.out.trans C2.out).lt; simp at this; omega
 have hq2' := Ne.symm hq2
 rcases hk with rfl | rfl
 ·go_wp2_with fail
  go_region_held3 (fun w' => w'.cell? ⟨w1.heap.size, 0, none⟩ = some (.string ⟨ta.toArray⟩) ∧ w'.cell? ⟨w1.heap.size, 2, none⟩ = some (.int .i64 na) ∧ w'.cell? ⟨w2.heap.size, 0, none⟩ = some (.string ⟨tb.toArray⟩) ∧ w'.cell? ⟨w2.heap.size, 2, none⟩ = some (.int .i64 nb)) (first | go_keep | (go_split_ands; exact ⟨c0, c2, e0, e2⟩)) (first | (go_at_call 28; refine (bit_ok _ _).mono ?_; rintro e w9 ⟨rfl, rfl⟩))
  all_goals go_wp2
  all_goals refine bodyPost_ret (v := .agg #[.string ⟨(ta ++ [32, 61, 32] ++ tb).toArray⟩, .int .i64 2, .int .i64 (bitI (na == nb))]) (by simp [results, Tryz.results22, go_sem, m0, m1, m2]) rfl ?_
  all_goals exact ⟨by simp, (HFIN.out _ _ _).1, (HFIN.out _ _ _).2⟩
 ·go_wp2_with fail
  go_region_held3 (fun w' => w'.cell? ⟨w1.heap.size, 0, none⟩ = some (.string ⟨ta.toArray⟩) ∧ w'.cell? ⟨w1.heap.size, 2, none⟩ = some (.int .i64 na) ∧ w'.cell? ⟨w2.heap.size, 0, none⟩ = some (.string ⟨tb.toArray⟩) ∧ w'.cell? ⟨w2.heap.size, 2, none⟩ = some (.int .i64 nb)) (first | go_keep | (go_split_ands; exact ⟨c0, c2, e0, e2⟩)) (first | (go_at_call 28; refine (bit_ok _ _).mono ?_; rintro e w9 ⟨rfl, rfl⟩))
  all_goals go_wp2
  all_goals refine bodyPost_ret (v := .agg #[.string ⟨(ta ++ [32, 60, 32] ++ tb).toArray⟩, .int .i64 2, .int .i64 (bitI (decide (na < nb)))]) (by simp [results, Tryz.results22, go_sem, m0, m1, m2]) rfl ?_
  all_goals exact ⟨by simp, (HFIN.out _ _ _).1, (HFIN.out _ _ _).2⟩
end
end Go.Proofs.YtihgojcfpnhelaaGreatDoor
