import Derived.Test.YtihgojcfpnhelaaGreatDoorKe
import Derived.Test.YtihgojcfpnhelaaGreatDoorKf
import Derived.Test.YtihgojcfpnhelaaGreatDoorKg
set_option linter.unusedVariables false
set_option linter.unusedSimpArgs false
namespace Go.Proofs.YtihgojcfpnhelaaGreatDoor
open Go.RowKit
attribute [local go_sem] idx_eq app_eq

set_option maxRecDepth 100000 in
set_option maxHeartbeats 8000000 in
theorem ruleS_logic0 (b : Nat) (z : Int) (w : World) (sa fx r r1 q q2 q3 : By) (h0 : FeedAt w b r) (hz0 : (z == 0) = false) (la : sa.length ≤ 300) (lf : fx.length ≤ 300)
    (h1 : Fd1 b (.string ⟨sa.toArray⟩) r r1 15 #[.pointer (some ⟨b, 0, none⟩), .int .i64 (wrap64 (z - 1))])
    (h2 : Fd1 b (.int .i64 3) r1 q 16 #[.pointer (some ⟨b, 0, none⟩), .int .i64 8])
    (h3 : Fd1 b (.int .i64 0) q q2 16 #[.pointer (some ⟨b, 0, none⟩), .int .i64 2])
    (h4 : Fd1 b (.string ⟨fx.toArray⟩) q2 q3 15 #[.pointer (some ⟨b, 0, none⟩), .int .i64 (IntKind.i64.wrap (z - 1))]) :
    Calls Tryz.prog 15 #[.pointer (some ⟨b, 0, none⟩), .int .i64 z] w (RulePost b ([40] ++ sa ++ [41, 32] ++ [97, 110, 100] ++ [32, 40] ++ fx ++ [41], q3) w) := by
  have H1 := toHid h1
  have H2 := toHid h2
  have H3 := toHid h3
  have H4 := toHid h4
  clear h1 h2 h3 h4
  have HPO := toHid (show ∀ W, FeedAt W b q3 → KeepB b w W → RulePost b ([40] ++ sa ++ [41, 32] ++ [97, 110, 100] ++ [32, 40] ++ fx ++ [41], q3) w (.returned (.string ⟨([40] ++ sa ++ [41, 32] ++ [97, 110, 100] ++ [32, 40] ++ fx ++ [41]).toArray⟩)) W from fun W h1 h2 => ⟨rfl, h1, h2⟩)
  generalize hpo : RulePost b ([40] ++ sa ++ [41, 32] ++ [97, 110, 100] ++ [32, 40] ++ fx ++ [41], q3) w = PO at *
  go_enter Tryz.func15, Tryz.ntmps15
  go_wp2_with (first | (go_at_call 15; refine (H1.out _ h0).mono ?_; rintro e w1 ⟨rfl, hf1, hb1⟩; refine Hid.out ?_))
  have HB1 := toHid hb1
  clear hb1 H1
  refine toHid ?_
  go_wp2_with (first | (go_at_call 16; refine (H2.out _ hf1).mono ?_; rintro e w2 ⟨rfl, hf2, hb2⟩; refine Hid.out ?_))
  have HB2 := toHid (HB1.out.trans hb2)
  have HF2 := toHid hf2
  have hs2 := hf2.size
  clear hb2 H2 hf1 hf2 HB1
  refine toHid ?_
  go_wp2_with fail
  have hqb : w2.heap.size ≠ b := by omega
  have m0 : ¬ 9223372036854775807 < 1 + sa.length := by omega
  have m1 : ¬ 9223372036854775807 < sa.length + 1 + 2 := by omega
  have m2 : ¬ 9223372036854775807 < sa.length + 2 + 1 + 3 := by omega
  have m3 : ¬ 9223372036854775807 < sa.length + 5 + 1 + 2 := by omega
  have m4 : ¬ 9223372036854775807 < sa.length + 7 + 1 + fx.length := by omega
  have m5 : ¬ 9223372036854775807 < sa.length + (fx.length + 1 + 1 + 1 + 1 + 1 + 1 + 1) + 1 + 1 := by omega
  clear la lf
  go_region_with (first
      | (go_at_call 16; refine (H3.out _ ?_).mono ?_; (repeat first | with_reducible exact HF2.out | with_reducible refine FeedAt.drew ?_ | with_reducible refine FeedAt.alloc ?_ _); rintro e w3 ⟨rfl, hf3, hb3⟩; have HF3 := toHid hf3; have hs3 := hf3.size; (first | (have ht3 := KeepB.litLD (w := w2) (cs := [.string ⟨#[97, 110, 100]⟩, .string ⟨#[111, 114]⟩]) hb3 hs2; have HT3 := toHid ht3; have x3 := ht3.2 0; simp only [List.getElem?_cons_zero, List.getElem?_cons_succ] at x3; clear ht3) | skip); have HB3 := toHid hb3; clear hb3 hf3)
      | (go_at_call 15; refine (H4.out _ ?_).mono ?_; (repeat first | with_reducible exact HF3.out | with_reducible refine FeedAt.drew ?_ | with_reducible refine FeedAt.alloc ?_ _); rintro e w4 ⟨rfl, hf4, hb4⟩; have hs4 := hf4.size; (first | (have ht4 := KeepB.litL (w := w3) (cs := [.string ⟨#[97, 110, 100]⟩, .string ⟨#[111, 114]⟩]) hb4 hs3; have x4 := ht4.2 0; simp only [List.getElem?_cons_zero, List.getElem?_cons_succ] at x4; clear ht4) | (have ht4 := hb4.two HT3.out hqb; have x4 := ht4.2 0; simp only [List.getElem?_cons_zero, List.getElem?_cons_succ] at x4; clear ht4) | skip); have HB4 := toHid hb4; have HF4 := toHid hf4; clear hb4 hf4))
  all_goals go_wp2
  all_goals refine bodyPost_ret (v := .string ⟨([40] ++ sa ++ [41, 32] ++ [97, 110, 100] ++ [32, 40] ++ fx ++ [41]).toArray⟩) (by simp [results, Tryz.results15, go_sem]) rfl ?_
  all_goals refine HPO.out _ ?_ ?_
  all_goals (repeat first | with_reducible exact HF4.out | with_reducible refine FeedAt.drew ?_ | with_reducible refine FeedAt.alloc ?_ _)
  all_goals (repeat first | with_reducible exact HB2.out | with_reducible refine KeepB.trans ?_ HB4.out | with_reducible refine KeepB.trans ?_ HB3.out | with_reducible refine KeepB.drew ?_ | (refine KeepB.alloc ?_ (by assumption) _))

set_option maxRecDepth 100000 in
set_option maxHeartbeats 8000000 in
theorem ruleS_logic1 (b : Nat) (z : Int) (w : World) (sa fx r r1 q q2 q3 : By) (h0 : FeedAt w b r) (hz0 : (z == 0) = false) (la : sa.length ≤ 300) (lf : fx.length ≤ 300)
    (h1 : Fd1 b (.string ⟨sa.toArray⟩) r r1 15 #[.pointer (some ⟨b, 0, none⟩), .int .i64 (wrap64 (z - 1))])
    (h2 : Fd1 b (.int .i64 3) r1 q 16 #[.pointer (some ⟨b, 0, none⟩), .int .i64 8])
    (h3 : Fd1 b (.int .i64 1) q q2 16 #[.pointer (some ⟨b, 0, none⟩), .int .i64 2])
    (h4 : Fd1 b (.string ⟨fx.toArray⟩) q2 q3 15 #[.pointer (some ⟨b, 0, none⟩), .int .i64 (IntKind.i64.wrap (z - 1))]) :
    Calls Tryz.prog 15 #[.pointer (some ⟨b, 0, none⟩), .int .i64 z] w (RulePost b ([40] ++ sa ++ [41, 32] ++ [111, 114] ++ [32, 40] ++ fx ++ [41], q3) w) := by
  have H1 := toHid h1
  have H2 := toHid h2
  have H3 := toHid h3
  have H4 := toHid h4
  clear h1 h2 h3 h4
  have HPO := toHid (show ∀ W, FeedAt W b q3 → KeepB b w W → RulePost b ([40] ++ sa ++ [41, 32] ++ [111, 114] ++ [32, 40] ++ fx ++ [41], q3) w (.returned (.string ⟨([40] ++ sa ++ [41, 32] ++ [111, 114] ++ [32, 40] ++ fx ++ [41]).toArray⟩)) W from fun W h1 h2 => ⟨rfl, h1, h2⟩)
  generalize hpo : RulePost b ([40] ++ sa ++ [41, 32] ++ [111, 114] ++ [32, 40] ++ fx ++ [41], q3) w = PO at *
  go_enter Tryz.func15, Tryz.ntmps15
  go_wp2_with (first | (go_at_call 15; refine (H1.out _ h0).mono ?_; rintro e w1 ⟨rfl, hf1, hb1⟩; refine Hid.out ?_))
  have HB1 := toHid hb1
  clear hb1 H1
  refine toHid ?_
  go_wp2_with (first | (go_at_call 16; refine (H2.out _ hf1).mono ?_; rintro e w2 ⟨rfl, hf2, hb2⟩; refine Hid.out ?_))
  have HB2 := toHid (HB1.out.trans hb2)
  have HF2 := toHid hf2
  have hs2 := hf2.size
  clear hb2 H2 hf1 hf2 HB1
  refine toHid ?_
  go_wp2_with fail
  have hqb : w2.heap.size ≠ b := by omega
  have m0 : ¬ 9223372036854775807 < 1 + sa.length := by omega
  have m1 : ¬ 9223372036854775807 < sa.length + 1 + 2 := by omega
  have m2 : ¬ 9223372036854775807 < sa.length + 2 + 1 + 2 := by omega
  have m3 : ¬ 9223372036854775807 < sa.length + 4 + 1 + 2 := by omega
  have m4 : ¬ 9223372036854775807 < sa.length + 6 + 1 + fx.length := by omega
  have m5 : ¬ 9223372036854775807 < sa.length + (fx.length + 1 + 1 + 1 + 1 + 1 + 1) + 1 + 1 := by omega
  clear la lf
  go_region_with (first
      | (go_at_call 16; refine (H3.out _ ?_).mono ?_; (repeat first | with_reducible exact HF2.out | with_reducible refine FeedAt.drew ?_ | with_reducible refine FeedAt.alloc ?_ _); rintro e w3 ⟨rfl, hf3, hb3⟩; have HF3 := toHid hf3; have hs3 := hf3.size; (first | (have ht3 := KeepB.litLD (w := w2) (cs := [.string ⟨#[97, 110, 100]⟩, .string ⟨#[111, 114]⟩]) hb3 hs2; have HT3 := toHid ht3; have x3 := ht3.2 1; simp only [List.getElem?_cons_zero, List.getElem?_cons_succ] at x3; clear ht3) | skip); have HB3 := toHid hb3; clear hb3 hf3)
      | (go_at_call 15; refine (H4.out _ ?_).mono ?_; (repeat first | with_reducible exact HF3.out | with_reducible refine FeedAt.drew ?_ | with_reducible refine FeedAt.alloc ?_ _); rintro e w4 ⟨rfl, hf4, hb4⟩; have hs4 := hf4.size; (first | (have ht4 := KeepB.litL (w := w3) (cs := [.string ⟨#[97, 110, 100]⟩, .string ⟨#[111, 114]⟩]) hb4 hs3; have x4 := ht4.2 1; simp only [List.getElem?_cons_zero, List.getElem?_cons_succ] at x4; clear ht4) | (have ht4 := hb4.two HT3.out hqb; have x4 := ht4.2 1; simp only [List.getElem?_cons_zero, List.getElem?_cons_succ] at x4; clear ht4) | skip); have HB4 := toHid hb4; have HF4 := toHid hf4; clear hb4 hf4))
  all_goals go_wp2
  all_goals refine bodyPost_ret (v := .string ⟨([40] ++ sa ++ [41, 32] ++ [111, 114] ++ [32, 40] ++ fx ++ [41]).toArray⟩) (by simp [results, Tryz.results15, go_sem]) rfl ?_
  all_goals refine HPO.out _ ?_ ?_
  all_goals (repeat first | with_reducible exact HF4.out | with_reducible refine FeedAt.drew ?_ | with_reducible refine FeedAt.alloc ?_ _)
  all_goals (repeat first | with_reducible exact HB2.out | with_reducible refine KeepB.trans ?_ HB4.out | with_reducible refine KeepB.trans ?_ HB3.out | with_reducible refine KeepB.drew ?_ | (refine KeepB.alloc ?_ (by assumption) _))

end Go.Proofs.YtihgojcfpnhelaaGreatDoor
namespace Go.Proofs.YtihgojcfpnhelaaGreatDoor
open Go.RowKit

theorem ruleB_len3 (d : Nat) (hd : d ≤ 3) (r : By) : (ruleB d r).1.length ≤ 117 := by
  have h1 := ruleB_len d r
  have h2 : 2 ^ d ≤ 2 ^ 3 := Nat.pow_le_pow_right (by decide) hd
  omega

/-- The builder of rules. -/
theorem keep_rule (b : Nat) : ∀ (d : Nat), d ≤ 3 → ∀ (r : By) (z : Int) (w : World), FeedAt w b r → z = (d : Int) → Calls Tryz.prog 15 #[.pointer (some ⟨b, 0, none⟩), .int .i64 z] w (RulePost b (ruleB d r) w)
  | 0, _, r, z, w, h, hz => by
    subst hz
    unfold ruleB
    split
    · rename_i hx
      exact rule0_num b r w h hx
    · rename_i hx
      split
      · rename_i hx1
        have hl := nextB_lt (nextB r 5).2 2 (by decide)
        rcases (show (nextB (nextB r 5).2 2).1 = 0 ∨ (nextB (nextB r 5).2 2).1 = 1 by omega) with hy | hy
        · have := rule0_word0 b r w h hx1 hy
          rw [hy]
          exact this
        · have := rule0_word1 b r w h hx1 hy
          rw [hy]
          exact this
      · rename_i hx1
        exact rule0_few b r w h hx hx1
  | d + 1, hd, r, z, w, h, hz => by
    have hi := keep_rule b d (by omega)
    have hz' : z = (d : Int) + 1 := by omega
    have hz0 : (z == 0) = false := by simp; omega
    have hw : wrap64 (z - 1) = (d : Int) := by unfold wrap64; omega
    have H1 : ∀ r, Fd1 b (.string ⟨((ruleB d r).1).toArray⟩) r (ruleB d r).2 15 #[.pointer (some ⟨b, 0, none⟩), .int .i64 (wrap64 (z - 1))] := fun r W hW => hi r _ W hW hw
    have hw2 : IntKind.i64.wrap (z - 1) = (d : Int) := by
      rw [show IntKind.i64.wrap (z - 1) = wrap64 (z - 1) by simp only [IntKind.wrap_i64, wrap64]]
      exact hw
    have H1' : ∀ r, Fd1 b (.string ⟨((ruleB d r).1).toArray⟩) r (ruleB d r).2 15 #[.pointer (some ⟨b, 0, none⟩), .int .i64 (IntKind.i64.wrap (z - 1))] := fun r W hW => hi r _ W hW hw2
    have N : ∀ (r : By) (n : Nat) (k : Nat), 0 < n → n ≤ 1000 → (nextB r n).1 = k → Fd1 b (.int .i64 (k : Int)) r (nextB r n).2 16 #[.pointer (some ⟨b, 0, none⟩), .int .i64 (n : Int)] := fun r n k h0 h1 hk W hW => by
      subst hk
      exact keep_next b r n W h0 h1 hW
    have F : ∀ r, Fd1 b (.string ⟨((fewB r).1).toArray⟩) r (fewB r).2 41 #[.pointer (some ⟨b, 0, none⟩)] := fun r W hW => keep_few b r W hW
    have la : ∀ r, (ruleB d r).1.length ≤ 300 := fun r => by have := ruleB_len3 d (by omega) r; omega
    have lf := fun r => fewB_len r
    have hk8 := nextB_lt (ruleB d r).2 8 (by decide)
    unfold ruleB
    simp only
    split
    · rename_i hx
      exact ruleS_if b d r z w h hz' (by omega) hi hx
    · split
      · rename_i hx
        exact ruleS_not b d r z w h hz' (by omega) hi hx
      · split
        · rename_i hx
          exact ruleS_neg b d r z w h hz' (by omega) hi hx
        · split
          · rename_i hx
            have hl := nextB_lt (nextB (ruleB d r).2 8).2 2 (by decide)
            rcases (show (nextB (nextB (ruleB d r).2 8).2 2).1 = 0 ∨ (nextB (nextB (ruleB d r).2 8).2 2).1 = 1 by omega) with hy | hy
            · have := ruleS_logic0 b z w _ _ r _ _ _ _ h hz0 (la _) (la (nextB (nextB (ruleB d r).2 8).2 2).2) (H1 r) (N _ 8 3 (by decide) (by decide) hx) (N _ 2 0 (by decide) (by decide) hy) (H1' _)
              rw [hy]
              exact this
            · have := ruleS_logic1 b z w _ _ r _ _ _ _ h hz0 (la _) (la (nextB (nextB (ruleB d r).2 8).2 2).2) (H1 r) (N _ 8 3 (by decide) (by decide) hx) (N _ 2 1 (by decide) (by decide) hy) (H1' _)
              rw [hy]
              exact this
          · split
            · rename_i hx
              have hl := nextB_lt (nextB (ruleB d r).2 8).2 2 (by decide)
              rcases (show (nextB (nextB (ruleB d r).2 8).2 2).1 = 0 ∨ (nextB (nextB (ruleB d r).2 8).2 2).1 = 1 by omega) with hy | hy
              · have := ruleS_test0 b z w _ _ r _ _ _ _ h hz0 (la _) (lf (nextB (nextB (ruleB d r).2 8).2 2).2) (H1 r) (N _ 8 4 (by decide) (by decide) hx) (N _ 2 0 (by decide) (by decide) hy) (F _)
                rw [hy]
                exact this
              · have := ruleS_test1 b z w _ _ r _ _ _ _ h hz0 (la _) (lf (nextB (nextB (ruleB d r).2 8).2 2).2) (H1 r) (N _ 8 4 (by decide) (by decide) hx) (N _ 2 1 (by decide) (by decide) hy) (F _)
                rw [hy]
                exact this
            · rename_i x0 x1 x2 x3 x4
              have hl := nextB_lt (nextB (ruleB d r).2 8).2 5 (by decide)
              have e0 : (((nextB (ruleB d r).2 8).1 : Int) == 0) = false := by simp; omega
              have e1 : (((nextB (ruleB d r).2 8).1 : Int) == 1) = false := by simp; omega
              have e2 : (((nextB (ruleB d r).2 8).1 : Int) == 2) = false := by simp; omega
              have e3 : (((nextB (ruleB d r).2 8).1 : Int) == 3) = false := by simp; omega
              have e4 : (((nextB (ruleB d r).2 8).1 : Int) == 4) = false := by simp; omega
              rcases (show (nextB (nextB (ruleB d r).2 8).2 5).1 = 0 ∨ (nextB (nextB (ruleB d r).2 8).2 5).1 = 1 ∨ (nextB (nextB (ruleB d r).2 8).2 5).1 = 2 ∨ (nextB (nextB (ruleB d r).2 8).2 5).1 = 3 ∨ (nextB (nextB (ruleB d r).2 8).2 5).1 = 4 by omega) with hy | hy | hy | hy | hy
              · have := ruleS_sum0 b z w _ _ r _ _ _ _ h hz0 (la _) (lf (nextB (nextB (ruleB d r).2 8).2 5).2) (H1 r) _ e0 e1 e2 e3 e4 (N _ 8 _ (by decide) (by decide) rfl) (N _ 5 0 (by decide) (by decide) hy) (F _)
                rw [hy]
                exact this
              · have := ruleS_sum1 b z w _ _ r _ _ _ _ h hz0 (la _) (lf (nextB (nextB (ruleB d r).2 8).2 5).2) (H1 r) _ e0 e1 e2 e3 e4 (N _ 8 _ (by decide) (by decide) rfl) (N _ 5 1 (by decide) (by decide) hy) (F _)
                rw [hy]
                exact this
              · have := ruleS_sum2 b z w _ _ r _ _ _ _ h hz0 (la _) (lf (nextB (nextB (ruleB d r).2 8).2 5).2) (H1 r) _ e0 e1 e2 e3 e4 (N _ 8 _ (by decide) (by decide) rfl) (N _ 5 2 (by decide) (by decide) hy) (F _)
                rw [hy]
                exact this
              · have := ruleS_sum3 b z w _ _ r _ _ _ _ h hz0 (la _) (lf (nextB (nextB (ruleB d r).2 8).2 5).2) (H1 r) _ e0 e1 e2 e3 e4 (N _ 8 _ (by decide) (by decide) rfl) (N _ 5 3 (by decide) (by decide) hy) (F _)
                rw [hy]
                exact this
              · have := ruleS_sum4 b z w _ _ r _ _ _ _ h hz0 (la _) (lf (nextB (nextB (ruleB d r).2 8).2 5).2) (H1 r) _ e0 e1 e2 e3 e4 (N _ 8 _ (by decide) (by decide) rfl) (N _ 5 4 (by decide) (by decide) hy) (F _)
                rw [hy]
                exact this
end Go.Proofs.YtihgojcfpnhelaaGreatDoor
