import Derived.Test.YtihgojcfpnhelabGreatDoorS2Kd
set_option maxRecDepth 100000
set_option maxHeartbeats 4000000
set_option linter.unusedVariables false
set_option linter.unusedSimpArgs false
namespace Go.Proofs.YtihgojcfpnhelabGreatDoor
open Go.RowKit
section
attribute [local go_sem] idx_eq app_eq
theorem ruleS_sum0 (b : Nat) (z : Int) (w : World) (sa fx r r1 q q2 q3 : By) (h0 : FeedAt w b r) (hz0 : (z == 0) = false) (la : sa.length ≤ 300) (lf : fx.length ≤ 3)
  (h1 : Fd1 b (.string ⟨sa.toArray⟩) r r1 21 #[.pointer (some ⟨b, 0, none⟩), .int .i64 (wrap64 (z - 1))])
  (kk : Int) (x0 : (kk == 0) = false) (x1 : (kk == 1) = false) (x2 : (kk == 2) = false) (x3 : (kk == 3) = false) (x4 : (kk == 4) = false) (h2 : Fd1 b (.int .i64 kk) r1 q 19 #[.pointer (some ⟨b, 0, none⟩), .int .i64 8])
  (h3 : Fd1 b (.int .i64 0) q q2 19 #[.pointer (some ⟨b, 0, none⟩), .int .i64 5])
  (h4 : Fd1 b (.string ⟨fx.toArray⟩) q2 q3 20 #[.pointer (some ⟨b, 0, none⟩)]) :
  Calls Tryz.prog 21 #[.pointer (some ⟨b, 0, none⟩), .int .i64 z] w (RulePost b ([40] ++ sa ++ [41, 32] ++ [43] ++ [32] ++ fx, q3) w) := by
 have H1 := tZ h1
 have H2 := tZ h2
 have H3 := tZ h3
 have H4 := tZ h4
 clear h1 h2 h3 h4
 have HPO := tZ (show ∀ W, FeedAt W b q3 → KeepB b w W → RulePost b ([40] ++ sa ++ [41, 32] ++ [43] ++ [32] ++ fx, q3) w (.returned (.string ⟨([40] ++ sa ++ [41, 32] ++ [43] ++ [32] ++ fx).toArray⟩)) W from fun W h1 h2 => ⟨rfl, h1, h2⟩)
 generalize hpo : RulePost b ([40] ++ sa ++ [41, 32] ++ [43] ++ [32] ++ fx, q3) w = PO at *
 go_enter Tryz.func21, Tryz.ntmps21
 go_wp2_with (first | (go_at_call 21; refine (H1.out _ h0).mono ?_; rintro e w1 ⟨rfl, hf1, hb1⟩; refine Hid.out ?_))
 have HB1 := tZ hb1
 clear hb1 H1
 refine tZ ?_
 go_wp2_with (first | (go_at_call 19; refine (H2.out _ hf1).mono ?_; rintro e w2 ⟨rfl, hf2, hb2⟩; refine Hid.out ?_))
 have HB2 := tZ (HB1.out.trans hb2)
 have HF2 := tZ hf2
 have hs2 := hf2.size
 clear hb2 H2 hf1 hf2 HB1
 refine tZ ?_
 go_wp2_with fail
 have hqb : w2.heap.size ≠ b := by omega
 have m0 : ¬ 9223372036854775807 < 1 + sa.length := by omega
 have m1 : ¬ 9223372036854775807 < sa.length + 1 + 2 := by omega
 have m2 : ¬ 9223372036854775807 < sa.length + 2 + 1 + 1 := by omega
 have m3 : ¬ 9223372036854775807 < sa.length + 3 + 1 + 1 := by omega
 have m4 : ¬ 9223372036854775807 < sa.length + 4 + 1 + fx.length := by omega
 clear la lf
 go_region_with (first
   | (go_at_call 19; refine (H3.out _ ?_).mono ?_; (repeat first | with_reducible exact HF2.out | with_reducible refine FeedAt.drew ?_ | with_reducible refine FeedAt.alloc ?_ _); rintro e w3 ⟨rfl, hf3, hb3⟩; have HF3 := tZ hf3; have hs3 := hf3.size; (first | (have ht3 := KeepB.litLD (w := w2) (cs := [.string ⟨#[43]⟩, .string ⟨#[45]⟩, .string ⟨#[42]⟩, .string ⟨#[47]⟩, .string ⟨#[37]⟩]) hb3 hs2; have HT3 := tZ ht3; have x3 := ht3.2 0; simp only [List.getElem?_cons_zero, List.getElem?_cons_succ] at x3; clear ht3) | skip); have HB3 := tZ hb3; clear hb3 hf3)
   | (go_at_call 20; refine (H4.out _ ?_).mono ?_; (repeat first | with_reducible exact HF3.out | with_reducible refine FeedAt.drew ?_ | with_reducible refine FeedAt.alloc ?_ _); rintro e w4 ⟨rfl, hf4, hb4⟩; have hs4 := hf4.size; (first | (have ht4 := KeepB.litL (w := w3) (cs := [.string ⟨#[43]⟩, .string ⟨#[45]⟩, .string ⟨#[42]⟩, .string ⟨#[47]⟩, .string ⟨#[37]⟩]) hb4 hs3; have x4 := ht4.2 0; simp only [List.getElem?_cons_zero, List.getElem?_cons_succ] at x4; clear ht4) | (have ht4 := hb4.two HT3.out hqb; have x4 := ht4.2 0; simp only [List.getElem?_cons_zero, List.getElem?_cons_succ] at x4; clear ht4) | skip); have HB4 := tZ hb4; have HF4 := tZ hf4; clear hb4 hf4))
 all_goals go_wp2
 all_goals refine bodyPost_ret (v := .string ⟨([40] ++ sa ++ [41, 32] ++ [43] ++ [32] ++ fx).toArray⟩) (by simp [results, Tryz.results21, go_sem]) rfl ?_
 all_goals refine HPO.out _ ?_ ?_
 all_goals (repeat first | with_reducible exact HF4.out | with_reducible refine FeedAt.drew ?_ | with_reducible refine FeedAt.alloc ?_ _)
 all_goals (repeat first | with_reducible exact HB2.out | with_reducible refine KeepB.trans ?_ HB4.out | with_reducible refine KeepB.trans ?_ HB3.out | with_reducible refine KeepB.drew ?_ | (refine KeepB.alloc ?_ (by assumption) _))
theorem ruleS_sum1 (b : Nat) (z : Int) (w : World) (sa fx r r1 q q2 q3 : By) (h0 : FeedAt w b r) (hz0 : (z == 0) = false) (la : sa.length ≤ 300) (lf : fx.length ≤ 3)
  (h1 : Fd1 b (.string ⟨sa.toArray⟩) r r1 21 #[.pointer (some ⟨b, 0, none⟩), .int .i64 (wrap64 (z - 1))])
  (kk : Int) (x0 : (kk == 0) = false) (x1 : (kk == 1) = false) (x2 : (kk == 2) = false) (x3 : (kk == 3) = false) (x4 : (kk == 4) = false) (h2 : Fd1 b (.int .i64 kk) r1 q 19 #[.pointer (some ⟨b, 0, none⟩), .int .i64 8])
  (h3 : Fd1 b (.int .i64 1) q q2 19 #[.pointer (some ⟨b, 0, none⟩), .int .i64 5])
  (h4 : Fd1 b (.string ⟨fx.toArray⟩) q2 q3 20 #[.pointer (some ⟨b, 0, none⟩)]) :
  Calls Tryz.prog 21 #[.pointer (some ⟨b, 0, none⟩), .int .i64 z] w (RulePost b ([40] ++ sa ++ [41, 32] ++ [45] ++ [32] ++ fx, q3) w) := by
 have H1 := tZ h1
 have H2 := tZ h2
 have H3 := tZ h3
 have H4 := tZ h4
 clear h1 h2 h3 h4
 have HPO := tZ (show ∀ W, FeedAt W b q3 → KeepB b w W → RulePost b ([40] ++ sa ++ [41, 32] ++ [45] ++ [32] ++ fx, q3) w (.returned (.string ⟨([40] ++ sa ++ [41, 32] ++ [45] ++ [32] ++ fx).toArray⟩)) W from fun W h1 h2 => ⟨rfl, h1, h2⟩)
 generalize hpo : RulePost b ([40] ++ sa ++ [41, 32] ++ [45] ++ [32] ++ fx, q3) w = PO at *
 go_enter Tryz.func21, Tryz.ntmps21
 go_wp2_with (first | (go_at_call 21; refine (H1.out _ h0).mono ?_; rintro e w1 ⟨rfl, hf1, hb1⟩; refine Hid.out ?_))
 have HB1 := tZ hb1
 clear hb1 H1
 refine tZ ?_
 go_wp2_with (first | (go_at_call 19; refine (H2.out _ hf1).mono ?_; rintro e w2 ⟨rfl, hf2, hb2⟩; refine Hid.out ?_))
 have HB2 := tZ (HB1.out.trans hb2)
 have HF2 := tZ hf2
 have hs2 := hf2.size
 clear hb2 H2 hf1 hf2 HB1
 refine tZ ?_
 go_wp2_with fail
 have hqb : w2.heap.size ≠ b := by omega
 have m0 : ¬ 9223372036854775807 < 1 + sa.length := by omega
 have m1 : ¬ 9223372036854775807 < sa.length + 1 + 2 := by omega
 have m2 : ¬ 9223372036854775807 < sa.length + 2 + 1 + 1 := by omega
 have m3 : ¬ 9223372036854775807 < sa.length + 3 + 1 + 1 := by omega
 have m4 : ¬ 9223372036854775807 < sa.length + 4 + 1 + fx.length := by omega
 clear la lf
 go_region_with (first
   | (go_at_call 19; refine (H3.out _ ?_).mono ?_; (repeat first | with_reducible exact HF2.out | with_reducible refine FeedAt.drew ?_ | with_reducible refine FeedAt.alloc ?_ _); rintro e w3 ⟨rfl, hf3, hb3⟩; have HF3 := tZ hf3; have hs3 := hf3.size; (first | (have ht3 := KeepB.litLD (w := w2) (cs := [.string ⟨#[43]⟩, .string ⟨#[45]⟩, .string ⟨#[42]⟩, .string ⟨#[47]⟩, .string ⟨#[37]⟩]) hb3 hs2; have HT3 := tZ ht3; have x3 := ht3.2 1; simp only [List.getElem?_cons_zero, List.getElem?_cons_succ] at x3; clear ht3) | skip); have HB3 := tZ hb3; clear hb3 hf3)
   | (go_at_call 20; refine (H4.out _ ?_).mono ?_; (repeat first | with_reducible exact HF3.out | with_reducible refine FeedAt.drew ?_ | with_reducible refine FeedAt.alloc ?_ _); rintro e w4 ⟨rfl, hf4, hb4⟩; have hs4 := hf4.size; (first | (have ht4 := KeepB.litL (w := w3) (cs := [.string ⟨#[43]⟩, .string ⟨#[45]⟩, .string ⟨#[42]⟩, .string ⟨#[47]⟩, .string ⟨#[37]⟩]) hb4 hs3; have x4 := ht4.2 1; simp only [List.getElem?_cons_zero, List.getElem?_cons_succ] at x4; clear ht4) | (have ht4 := hb4.two HT3.out hqb; have x4 := ht4.2 1; simp only [List.getElem?_cons_zero, List.getElem?_cons_succ] at x4; clear ht4) | skip); have HB4 := tZ hb4; have HF4 := tZ hf4; clear hb4 hf4))
 all_goals go_wp2
 all_goals refine bodyPost_ret (v := .string ⟨([40] ++ sa ++ [41, 32] ++ [45] ++ [32] ++ fx).toArray⟩) (by simp [results, Tryz.results21, go_sem]) rfl ?_
 all_goals refine HPO.out _ ?_ ?_
 all_goals (repeat first | with_reducible exact HF4.out | with_reducible refine FeedAt.drew ?_ | with_reducible refine FeedAt.alloc ?_ _)
 all_goals (repeat first | with_reducible exact HB2.out | with_reducible refine KeepB.trans ?_ HB4.out | with_reducible refine KeepB.trans ?_ HB3.out | with_reducible refine KeepB.drew ?_ | (refine KeepB.alloc ?_ (by assumption) _))
theorem ruleS_sum2 (b : Nat) (z : Int) (w : World) (sa fx r r1 q q2 q3 : By) (h0 : FeedAt w b r) (hz0 : (z == 0) = false) (la : sa.length ≤ 300) (lf : fx.length ≤ 3)
  (h1 : Fd1 b (.string ⟨sa.toArray⟩) r r1 21 #[.pointer (some ⟨b, 0, none⟩), .int .i64 (wrap64 (z - 1))])
  (kk : Int) (x0 : (kk == 0) = false) (x1 : (kk == 1) = false) (x2 : (kk == 2) = false) (x3 : (kk == 3) = false) (x4 : (kk == 4) = false) (h2 : Fd1 b (.int .i64 kk) r1 q 19 #[.pointer (some ⟨b, 0, none⟩), .int .i64 8])
  (h3 : Fd1 b (.int .i64 2) q q2 19 #[.pointer (some ⟨b, 0, none⟩), .int .i64 5])
  (h4 : Fd1 b (.string ⟨fx.toArray⟩) q2 q3 20 #[.pointer (some ⟨b, 0, none⟩)]) :
  Calls Tryz.prog 21 #[.pointer (some ⟨b, 0, none⟩), .int .i64 z] w (RulePost b ([40] ++ sa ++ [41, 32] ++ [42] ++ [32] ++ fx, q3) w) := by
 have H1 := tZ h1
 have H2 := tZ h2
 have H3 := tZ h3
 have H4 := tZ h4
 clear h1 h2 h3 h4
 have HPO := tZ (show ∀ W, FeedAt W b q3 → KeepB b w W → RulePost b ([40] ++ sa ++ [41, 32] ++ [42] ++ [32] ++ fx, q3) w (.returned (.string ⟨([40] ++ sa ++ [41, 32] ++ [42] ++ [32] ++ fx).toArray⟩)) W from fun W h1 h2 => ⟨rfl, h1, h2⟩)
 generalize hpo : RulePost b ([40] ++ sa ++ [41, 32] ++ [42] ++ [32] ++ fx, q3) w = PO at *
 go_enter Tryz.func21, Tryz.ntmps21
 go_wp2_with (first | (go_at_call 21; refine (H1.out _ h0).mono ?_; rintro e w1 ⟨rfl, hf1, hb1⟩; refine Hid.out ?_))
 have HB1 := tZ hb1
 clear hb1 H1
 refine tZ ?_
 go_wp2_with (first | (go_at_call 19; refine (H2.out _ hf1).mono ?_; rintro e w2 ⟨rfl, hf2, hb2⟩; refine Hid.out ?_))
 have HB2 := tZ (HB1.out.trans hb2)
 have HF2 := tZ hf2
 have hs2 := hf2.size
 clear hb2 H2 hf1 hf2 HB1
 refine tZ ?_
 go_wp2_with fail
 have hqb : w2.heap.size ≠ b := by omega
 have m0 : ¬ 9223372036854775807 < 1 + sa.length := by omega
 have m1 : ¬ 9223372036854775807 < sa.length + 1 + 2 := by omega
 have m2 : ¬ 9223372036854775807 < sa.length + 2 + 1 + 1 := by omega
 have m3 : ¬ 9223372036854775807 < sa.length + 3 + 1 + 1 := by omega
 have m4 : ¬ 9223372036854775807 < sa.length + 4 + 1 + fx.length := by omega
 clear la lf
 go_region_with (first
   | (go_at_call 19; refine (H3.out _ ?_).mono ?_; (repeat first | with_reducible exact HF2.out | with_reducible refine FeedAt.drew ?_ | with_reducible refine FeedAt.alloc ?_ _); rintro e w3 ⟨rfl, hf3, hb3⟩; have HF3 := tZ hf3; have hs3 := hf3.size; (first | (have ht3 := KeepB.litLD (w := w2) (cs := [.string ⟨#[43]⟩, .string ⟨#[45]⟩, .string ⟨#[42]⟩, .string ⟨#[47]⟩, .string ⟨#[37]⟩]) hb3 hs2; have HT3 := tZ ht3; have x3 := ht3.2 2; simp only [List.getElem?_cons_zero, List.getElem?_cons_succ] at x3; clear ht3) | skip); have HB3 := tZ hb3; clear hb3 hf3)
   | (go_at_call 20; refine (H4.out _ ?_).mono ?_; (repeat first | with_reducible exact HF3.out | with_reducible refine FeedAt.drew ?_ | with_reducible refine FeedAt.alloc ?_ _); rintro e w4 ⟨rfl, hf4, hb4⟩; have hs4 := hf4.size; (first | (have ht4 := KeepB.litL (w := w3) (cs := [.string ⟨#[43]⟩, .string ⟨#[45]⟩, .string ⟨#[42]⟩, .string ⟨#[47]⟩, .string ⟨#[37]⟩]) hb4 hs3; have x4 := ht4.2 2; simp only [List.getElem?_cons_zero, List.getElem?_cons_succ] at x4; clear ht4) | (have ht4 := hb4.two HT3.out hqb; have x4 := ht4.2 2; simp only [List.getElem?_cons_zero, List.getElem?_cons_succ] at x4; clear ht4) | skip); have HB4 := tZ hb4; have HF4 := tZ hf4; clear hb4 hf4))
 all_goals go_wp2
 all_goals refine bodyPost_ret (v := .string ⟨([40] ++ sa ++ [41, 32] ++ [42] ++ [32] ++ fx).toArray⟩) (by simp [results, Tryz.results21, go_sem]) rfl ?_
 all_goals refine HPO.out _ ?_ ?_
 all_goals (repeat first | with_reducible exact HF4.out | with_reducible refine FeedAt.drew ?_ | with_reducible refine FeedAt.alloc ?_ _)
 all_goals (repeat first | with_reducible exact HB2.out | with_reducible refine KeepB.trans ?_ HB4.out | with_reducible refine KeepB.trans ?_ HB3.out | with_reducible refine KeepB.drew ?_ | (refine KeepB.alloc ?_ (by assumption) _))
end
end Go.Proofs.YtihgojcfpnhelabGreatDoor
