import Derived.Test.YtihgojcfpnhelaaGreatDoorMq
import Derived.Test.YtihgojcfpnhelaaGreatDoorJc
import Derived.Deep.CutBlock
set_option linter.unusedVariables false
set_option linter.unusedSimpArgs false
namespace Go.Proofs.YtihgojcfpnhelaaGreatDoor
open Go.RowKit
attribute [local go_sem] idx_eq app_eq

theorem rg_ge {j fr dt : Nat} (h : fr + dt < j) : ¬ (j : Int) ≤ (fr : Int) + (dt : Int) := by omega
theorem rg_lt {i L : Nat} (h : i + 1 < L) : i < L := by omega
theorem rg_L (L : Nat) : L ≤ 0 + L + 1 := by omega
theorem rg_at (fr dt : Nat) : fr ≤ fr + dt + 1 ∧ fr + dt + 1 ≤ fr + (dt + 1) := by omega
theorem rg_sz {a b c d : Nat} (h : a < b) (h1 : b ≤ c) (h2 : c ≤ d) : a < d := by omega
theorem dgt_sub : ∀ m, m < 9 → (((dgt m).toNat : Int) - 48) % 256 = (m : Int) := by decide
theorem rg_beq {m fr dt : Nat} (h : m = fr + dt) : ((m : Int) == (fr : Int) + (dt : Int)) = true := by simp; omega
theorem rg_bne {m fr dt : Nat} (h : ¬ m = fr + dt) : ((m : Int) == (fr : Int) + (dt : Int)) = false := by simp; omega
theorem rg_d0 {fr dt : Nat} (h : dt = 0) : ((fr : Int) == (fr : Int) + (dt : Int)) = true := by simp; omega
theorem rg_d1 {fr dt : Nat} (h : 0 < dt) : ((fr : Int) == (fr : Int) + (dt : Int)) = false := by simp; omega
theorem rg_pk {fr dt : Nat} : (fr : Int) + (dt : Int) - (fr : Int) = (dt : Int) := by omega
theorem rg_gap {fr dt gp : Nat} (h : gp < dt) (h9 : fr + dt < 9) : fr + gp < 10 ∧ fr + gp + 1 < 10 := by omega
theorem rg_nlt {i L : Nat} (h : L ≤ i + 1) : ¬ (i : Int) + 1 < (L : Int) := by omega
theorem rg_le {fr dt : Nat} (h : fr + dt < 9) : dt ≤ 1000 := by omega
def KtZ (T : Nat → Prop) (w w' : World) : Prop := w.heap.size ≤ w'.heap.size ∧ ∀ q, T q → w'.heap[q]? = w.heap[q]?
theorem rg_len {L fr dt : Nat} (h : L = dt + 1) : ¬ (L : Int) ≠ (fr : Int) + (dt : Int) - (fr : Int) + 1 := by omega
theorem rg_is {k : Nat} : (5 : Int) + (2 + (k : Int)) - 1 = (k : Int) + 6 := by omega

set_option maxRecDepth 100000 in
set_option maxHeartbeats 4000000 in
/-- Ring's code, by what it calls. -/
theorem ring_walk (n a b c : Int) (w : World) (pk : Int → Nat → Nat) (hpk : ∀ c n, 0 < n → pk c n < n) (k fr dt L : Nat) (ms : List Nat) (tx : By) (hk : pk n 7 = k) (hfr : pk a (k + 2) = fr) (hdt : pk b (k + 2 - fr) = dt) (hLd : L = dt + 1)
  (P0 : Nat → World → Prop) (Q : Nat → Nat → World → Prop) (R : Nat → (Nat → Prop) → Nat → World → Prop)
  (HMS : Hid (∀ j, j + 1 < L → ms.getD j 0 < 9 ∧ ms.getD (j + 1) 0 = if ms.getD j 0 = fr + dt then fr else ms.getD j 0 + 1))
  (HB : Hid (Calls Tryz.prog 18 #[.int .i64 6] w fun r w' => ∃ e, r = .returned (.tuple #[.pointer (some ⟨e, 0, none⟩), .bool true]) ∧ P0 e w'))
  (I : Int → Prop) (HI0 : Hid (I n)) (HI1 : Hid (I a)) (HI2 : Hid (I b)) (HI3 : Hid (I c))
  (HP : Hid (∀ c z w (n : Nat), I c → z = (n : Int) ∧ 0 < n ∧ n ≤ 1000 → Calls Tryz.prog 25 #[.int .i64 c, .int .i64 z] w fun r w' => r = .returned (.int .i64 (pk c n : Int)) ∧ w' = w))
  (HQ : Hid (∀ e w, P0 e w → Q e 0 w))
  (HN : Hid (∀ z w (n : Nat), z = (n : Int) ∧ n < 10 → Calls Tryz.prog 23 #[.int .i64 z] w fun r w' => r = .returned (.string ⟨#[dgt n]⟩) ∧ w' = w))
  (HD1 : Hid (∀ e w j, j < k + 1 → Q e j w → Calls Tryz.prog 19 #[.pointer (some ⟨e, 0, none⟩), .string ⟨#[115, 101, 116, 32, 102, dgt j, 32, 61, 32, 102, dgt (j + 1), 32, 43, 32, 49]⟩] w fun r w' => r = .returned (.bool true) ∧ Q e (j + 1) w'))
  (HD2 : Hid (∀ e w, Q e (k + 1) w → Calls Tryz.prog 19 #[.pointer (some ⟨e, 0, none⟩), .string ⟨#[115, 101, 116, 32, 102, dgt (k + 1), 32, 61, 32, 53]⟩] w fun r w' => r = .returned (.bool true) ∧ R e (fun _ => False) 0 w'))
  (HT : Hid (∀ e w T, R e T 0 w → Calls Tryz.prog 30 #[.pointer (some ⟨e, 0, none⟩)] w fun r w' => r = .returned (.string ⟨tx.toArray⟩) ∧ KtZ T w w' ∧ R e T 0 w'))
  (HI : Hid (∀ e w T z, z = (k : Int) + 6 → R e T 0 w → Calls Tryz.prog 26 #[.pointer (some ⟨e, 0, none⟩), .string ⟨#[102, 48]⟩, .int .i64 z] w fun r w' => r = .returned (.bool true) ∧ KtZ T w w' ∧ R e T 0 w'))
  (HC : Hid (∀ e w T, R e T 0 w → Calls Tryz.prog 20 #[.pointer (some ⟨e, 0, none⟩), .string ⟨#[115, 101, 116, 32, 102, dgt (fr + dt), 32, 61, 32, 102, dgt fr, 32, 42, 32, 50]⟩] w fun r w' => ∃ g cn, r = .returned (.agg #[.int .i64 8, .int .i64 0, .string ⟨#[]⟩, .slice (some ⟨g, 0, none⟩) L cn, .int .i64 0, .int .i64 0]) ∧ g < w'.heap.size ∧ (∀ j, j < L → w'.cell? ⟨g, j, none⟩ = some (.string ⟨#[102, dgt (ms.getD j 0)]⟩)) ∧ (∀ W, W.heap[g]? = w'.heap[g]? → ∀ x, fr ≤ x → x ≤ fr + dt → Calls Tryz.prog 31 #[.slice (some ⟨g, 0, none⟩) L cn, .string ⟨#[102, dgt x]⟩] W fun r w'' => r = .returned (.int .i64 1) ∧ w'' = W) ∧ R e (fun q => T q ∨ q = g) 0 w'))
  (HD3 : Hid (∀ e w T gp, gp < dt → R e T 0 w → Calls Tryz.prog 19 #[.pointer (some ⟨e, 0, none⟩), .string ⟨#[115, 101, 116, 32, 102, dgt (fr + gp), 32, 61, 32, 55]⟩] w fun r w' => r = .returned (.bool true) ∧ R e T (1 + gp) w'))
  (HC2 : Hid (∀ e w T gp, gp < dt → R e T (1 + gp) w → Calls Tryz.prog 20 #[.pointer (some ⟨e, 0, none⟩), .string ⟨#[115, 101, 116, 32, 102, dgt (fr + dt), 32, 61, 32, 102, dgt fr, 32, 42, 32, 50]⟩] w fun r w' => ∃ bn L cn, r = .returned (.agg #[.int .i64 0, .int .i64 0, .string ⟨#[]⟩, .slice bn L cn, .int .i64 0, .int .i64 0]) ∧ R e T (20 + gp) w'))
  (HC3 : Hid (∀ e w T gp, gp < dt → R e T (20 + gp) w → Calls Tryz.prog 20 #[.pointer (some ⟨e, 0, none⟩), .string ⟨#[115, 101, 116, 32, 102, dgt (fr + gp), 32, 61, 32, 49, 32, 45, 32, 102, dgt (fr + gp + 1)]⟩] w fun r w' => ∃ bn L cn, r = .returned (.agg #[.int .i64 8, .int .i64 0, .string ⟨#[]⟩, .slice bn L cn, .int .i64 0, .int .i64 0]) ∧ KtZ T w w' ∧ R e T (20 + gp) w' ∧ ∀ W, Below w'.heap.size w' W → Calls Tryz.prog 31 #[.slice bn L cn, .string ⟨#[102, dgt (fr + gp)]⟩] W fun r w' => r = .returned (.int .i64 1) ∧ w' = W))
  (HNX : Hid (∀ e w w' T j, R e T j w → Below w.heap.size w w' → R e T j w'))
  (HG : Hid (∀ e w w' T j, R e T j w → Below w.heap.size w w' → R e (fun q => T q ∨ (w.heap.size ≤ q ∧ q < w'.heap.size)) j w')) :
  Calls Tryz.prog 7 #[.int .i64 n, .int .i64 a, .int .i64 b, .int .i64 c] w fun r w' => r = .returned (.bool true) ∧ ∃ e T j, R e T j w' := by
  have hk7 : k < 7 := hk ▸ hpk n 7 (by omega)
  have hfn : fr < k + 2 := hfr ▸ hpk a (k + 2) (by omega)
  have hdn : dt < k + 2 - fr := hdt ▸ hpk b (k + 2 - fr) (by omega)
  have h9 : fr + dt < 9 := by omega
  have HNF := toHid (fun W => HN.out (fr : Int) W fr ⟨rfl, by omega⟩)
  have HA2 : Hid (∀ j : Nat, j ≤ fr + dt → j < 10 ∧ ((j : Int) ≤ (fr : Int) + (dt : Int)) ∧ j + 1 ≤ fr + dt + 1 ∧ fr + dt + 1 ≤ j + 1 + (fr + dt + 1 - (j + 1)) ∧ ∀ gk, fr + dt + 1 ≤ j + gk → fr + dt + 1 - (j + 1) < gk) := toHid (fun j hj => ⟨by omega, by omega, by omega, by omega, fun gk h => by omega⟩)
  have HA3 : Hid (∀ j : Nat, j + 1 < L → j < 9 ∧ ((j : Int) + 1 < (L : Int)) ∧ (∀ gk, L ≤ j + gk + 1 → L - (j + 2) < gk) ∧ L ≤ j + 1 + (L - (j + 2)) + 1) := toHid (fun j hj => ⟨by omega, by omega, fun gk h => by omega, by omega⟩)
  have HLD := toHid (rg_len (fr := fr) hLd)
  clear hLd
  go_enter Tryz.func7, Tryz.ntmps7
  go_wp2_with (first | (go_at_call 18; refine HB.out.mono ?_; rintro r w1 ⟨e, rfl, h1⟩) | (go_at_call 25; refine (HP.out _ _ _ 7 HI0.out ⟨rfl, by omega, by omega⟩).mono ?_; rintro r w2 ⟨rfl, rfl⟩; rw [hk]; refine Hid.out ?_))
  refine toHid ?_
  go_wp2_with (first | (go_at_call 25; refine (HP.out _ _ _ (k + 2) HI1.out ⟨by omega, by omega, by omega⟩).mono ?_; rintro r w3 ⟨rfl, rfl⟩; rw [hfr]; refine Hid.out ?_))
  refine toHid ?_
  go_wp2_with (first | (go_at_call 25; refine (HP.out _ _ _ (k + 2 - fr) HI2.out ⟨by omega, by omega, by omega⟩).mono ?_; rintro r w4 ⟨rfl, rfl⟩; rw [hdt]; refine Hid.out ?_))
  refine toHid ?_
  go_wp2_with fail
  have HQ0 := toHid (HQ.out e w4 h1)
  clear hfr hdt hk h1
  go_loopg [10, 11, 12] (k + 1) (fun gk ok i d wr => ∃ j : Nat, j ≤ k + 1 ∧ k + 1 ≤ j + gk ∧ i = .int .i64 (j : Int) ∧ ok = .bool true ∧ Hid (Q e j wr))
  case atStart => exact ⟨0, by omega, by omega, rfl, rfl, HQ0⟩
  case round =>
    obtain ⟨j, hj, hgk, rfl, rfl, HQ1⟩ := hrel
    by_cases hjn : j < k + 1
    · have hl1 : (j : Int) < 2 + (k : Int) - 1 := by omega
      go_wp2_with (first | (go_at_call 23; refine (HN.out _ _ j ⟨rfl, by omega⟩).mono ?_; rintro r w5 ⟨rfl, rfl⟩; refine Hid.out ?_))
      refine toHid ?_
      go_wp2_with (first | (go_at_call 23; refine (HN.out _ _ (j + 1) ⟨by omega, by omega⟩).mono ?_; rintro r w6 ⟨rfl, rfl⟩; refine Hid.out ?_))
      refine toHid ?_
      go_wp2_with (first | (go_at_call 19; refine (HD1.out e _ j hjn HQ1.out).mono ?_; rintro r w7 ⟨rfl, hq⟩; have HQ2 := toHid hq; clear hq; refine Hid.out ?_))
      refine toHid ?_
      go_wp2
      go_roundg (k + 1 - (j + 1))
      case measure => omega
      case rel => exact ⟨j + 1, by omega, by omega, by simp, rfl, HQ2⟩
    · obtain rfl : j = k + 1 := by omega
      have hl1 : ¬ ((k + 1 : Nat) : Int) < 2 + (k : Int) - 1 := by omega
      go_wp2_with (first | (go_at_call 23; refine (HN.out _ _ (k + 1) ⟨by omega, by omega⟩).mono ?_; rintro r w5 ⟨rfl, rfl⟩; refine Hid.out ?_))
      refine toHid ?_
      go_wp2_with (first | (go_at_call 19; refine (HD2.out e _ HQ1.out).mono ?_; rintro r w7 ⟨rfl, hq⟩; have HR1 := toHid hq; clear hq; refine Hid.out ?_))
      refine toHid ?_
      clear HQ1
      go_wp2_with (first | (go_at_call 30; refine (HT.out e _ _ HR1.out).mono ?_; rintro r w8 ⟨rfl, hk8, hq⟩; have HR2 := toHid hq; clear hq hk8; refine Hid.out ?_))
      refine toHid ?_
      go_wp2_with (first | (go_at_call 23; refine (HN.out _ _ (fr + dt) ⟨by omega, by omega⟩).mono ?_; rintro r w9 ⟨rfl, rfl⟩; refine Hid.out ?_))
      refine toHid ?_
      go_wp2_with (first | (go_at_call 23; refine (HN.out _ _ fr ⟨by omega, by omega⟩).mono ?_; rintro r w9 ⟨rfl, rfl⟩; refine Hid.out ?_))
      refine toHid ?_
      go_wp2_with (first | (go_at_call 20; refine (HC.out e _ _ HR2.out).mono ?_; rintro r w10 ⟨g, cn, rfl, hg10, hn10, hh10, hq⟩; have HR3 := toHid hq; have HN10 := toHid hn10; have HH10 := toHid hh10; clear hq hn10 hh10; refine Hid.out ?_))
      refine toHid ?_
      have hL := HLD.out
      have HR4 := toHid (HG.out _ _ _ _ _ HR3.out ((Below.refl _ _).alloc (Nat.le_refl _) (.cells #[.int .i64 8, .int .i64 0, .string ⟨#[]⟩, .slice (some ⟨g, 0, none⟩) L cn, .int .i64 0, .int .i64 0] 39)))
      have HB0 := toHid (heap_alloc_new w10 (.cells #[.int .i64 8, .int .i64 0, .string ⟨#[]⟩, .slice (some ⟨g, 0, none⟩) L cn, .int .i64 0, .int .i64 0] 39))
      go_wp2_with (first | (go_at_call 30; refine (HT.out e _ _ HR4.out).mono ?_; rintro r w11 ⟨rfl, hk11, hq⟩; have HK11 := toHid hk11; have HR5 := toHid hq; clear hq hk11; refine Hid.out ?_))
      refine toHid ?_
      obtain ⟨⟨m0, m1, m2, m3, m4, m5⟩, ⟨z0, z1, z2, z3, z4, z5⟩, hsz⟩ := row6 ((HK11.out.2 w10.heap.size (Or.inr ⟨Nat.le_refl _, by simp⟩)).trans HB0.out)
      have htx : (tx == tx) = true := by simp
      go_wp2_with (first | (go_at_call 26; refine (HI.out e _ _ _ rg_is HR5.out).mono ?_; rintro r w12 ⟨rfl, hk12, hq⟩; have HK12 := toHid hk12; have HR6 := toHid hq; clear hq hk12; refine Hid.out ?_))
      refine toHid ?_
      have HROW := toHid ((HK12.out.2 w10.heap.size (Or.inr ⟨Nat.le_refl _, by simp⟩)).trans ((HK11.out.2 w10.heap.size (Or.inr ⟨Nat.le_refl _, by simp⟩)).trans HB0.out))
      have hB12 : w10.heap.size < w12.heap.size := rg_sz (by simp) HK11.out.1 HK12.out.1
      have HGB := toHid ((HK12.out.2 g (Or.inl (Or.inr rfl))).trans ((HK11.out.2 g (Or.inl (Or.inr rfl))).trans (((Below.refl _ _).alloc (Nat.le_refl _) _).block g hg10)))
      have hg12 : g < w12.heap.size := rg_sz (by simp; exact Nat.lt_succ_of_lt hg10) HK11.out.1 HK12.out.1
      have HHAS : Hid (∀ W x, Below w12.heap.size w12 W → fr ≤ x → x ≤ fr + dt → Calls Tryz.prog 31 #[.slice (some ⟨g, 0, none⟩) L cn, .string ⟨#[102, dgt x]⟩] W fun r w' => r = .returned (.int .i64 1) ∧ w' = W) := toHid fun W x hW h1 h2 => HH10.out W ((hW.block g hg12).trans HGB.out) x h1 h2
      have HNM : Hid (∀ j, j < L → w12.cell? ⟨g, j, none⟩ = some (.string ⟨#[102, dgt (ms.getD j 0)]⟩)) := toHid fun j hj => (World.cell?_of_block (a := ⟨g, j, none⟩) HGB.out).trans (HN10.out j hj)
      clear hL m0 m1 m2 m3 m4 m5 z0 z1 z2 z3 z4 z5 hsz HK11 HK12 HB0 HR1 HR2 HR3 HR4 HR5
      generalize w10.heap.size = B at *
      go_wp2_with fail
      go_loopg [17] (dt + 1) (fun gk i wr => ∃ j : Nat, fr ≤ j ∧ j ≤ fr + dt + 1 ∧ fr + dt + 1 ≤ j + gk ∧ i = .int .i64 (j : Int) ∧ Hid (Below w12.heap.size w12 wr))
      case atStart => exact ⟨fr, Nat.le_refl _, (rg_at fr dt).1, (rg_at fr dt).2, rfl, toHid (Below.refl _ _)⟩
      case round =>
        obtain ⟨j, hj0, hj, hgk, rfl, HBW⟩ := hrel
        obtain ⟨⟨m0, m1, m2, m3, m4, m5⟩, ⟨z0, z1, z2, z3, z4, z5⟩, hsz⟩ := row6 ((HBW.out.block B hB12).trans HROW.out)
        rcases Nat.lt_or_ge (fr + dt) j with hjn | hjn
        · have hl2 : ¬ (j : Int) ≤ (fr : Int) + (dt : Int) := rg_ge hjn
          clear m0 m1 m2 m3 m4 m5 z0 z1 z2 z3 z4 z5 hsz
          obtain ⟨⟨m0, m1, m2, m3, m4, m5⟩, ⟨z0, z1, z2, z3, z4, z5⟩, hsz⟩ := row6 ((HBW.out.block B hB12).trans HROW.out)
          go_wp2_with fail
          go_loopg [18, 19, 20] L (fun gk i _ _ ws => ∃ j : Nat, j ≤ 9 ∧ L ≤ j + gk + 1 ∧ i = .int .i64 (j : Int) ∧ Hid (Below w12.heap.size w12 ws))
          case atStart => exact ⟨0, Nat.zero_le _, rg_L L, rfl, HBW⟩
          case round =>
            clear m0 m1 m2 m3 m4 m5 z0 z1 z2 z3 z4 z5 hsz
            obtain ⟨i, hi9, hgk2, rfl, HBW2⟩ := hrel
            obtain ⟨⟨m0, m1, m2, m3, m4, m5⟩, ⟨z0, z1, z2, z3, z4, z5⟩, hsz⟩ := row6 ((HBW2.out.block B hB12).trans HROW.out)
            rcases Nat.lt_or_ge (i + 1) L with hin | hin
            · obtain ⟨h3a, h3b, h3d, h3e⟩ := HA3.out i hin
              have hc0 := (HBW2.out.cell (p := ⟨g, i, none⟩) hg12).trans (HNM.out i (rg_lt hin))
              have hc1 := (HBW2.out.cell (p := ⟨g, i + 1, none⟩) hg12).trans (HNM.out (i + 1) hin)
              have H3 := toHid (And.intro h3d h3e)
              obtain ⟨hm9, hmx⟩ := HMS.out i hin
              rw [hmx] at hc1
              generalize ms.getD i 0 = m at *
              have hdm := dgt_sub m hm9
              have HN1 := toHid (fun W => HN.out ((m : Int) + 1) W (m + 1) ⟨rfl, Nat.succ_lt_succ hm9⟩)
              clear m0 m1 m2 m4 m5 z0 z1 z2 z3 z4 z5 h3d h3e hmx
              by_cases hmt : m = fr + dt
              · rw [if_pos hmt] at hc1
                have HMT := toHid (rg_beq hmt)
                clear hmt
                go_upto_region 28 with (first | (go_at_call 23; with_reducible refine (HN1.out _).mono ?_; rintro r w13 ⟨rfl, rfl⟩))
                have hmb := HMT.out
                go_wp2_with (first | (go_at_call 23; with_reducible refine (HNF.out _).mono ?_; rintro r w13 ⟨rfl, rfl⟩))
                go_roundg (L - (i + 2))
                case measure => exact H3.out.1 _ hgk2
                case rel => exact ⟨i + 1, h3a, H3.out.2, by simp, HBW2⟩
              · rw [if_neg hmt] at hc1
                have HMT := toHid (rg_bne hmt)
                clear hmt
                go_upto_region 28 with (first | (go_at_call 23; with_reducible refine (HN1.out _).mono ?_; rintro r w13 ⟨rfl, rfl⟩))
                have hmb := HMT.out
                go_wp2_with fail
                go_roundg (L - (i + 2))
                case measure => exact H3.out.1 _ hgk2
                case rel => exact ⟨i + 1, h3a, H3.out.2, by simp, HBW2⟩
            · have hni : ¬ (i : Int) + 1 < (L : Int) := rg_nlt hin
              clear m0 m1 m2 m4 m5 z0 z1 z2 z3 z4 z5
              have HRW := toHid (HNX.out _ _ _ _ _ HR6.out HBW2.out)
              rcases Nat.eq_zero_or_pos dt with hd0 | hd0
              · have hfb : ((fr : Int) == (fr : Int) + (dt : Int)) = true := rg_d0 hd0
                go_wp2
                exact bodyPost_ret (v := .bool true) (by simp [results, Tryz.results7, go_sem]) (by simp [go_sem]) ⟨rfl, e, _, 0, HRW.out⟩
              · have HFB := toHid (rg_d1 (fr := fr) hd0)
                obtain ⟨gp, hgp⟩ : ∃ gp, pk c dt = gp := ⟨_, rfl⟩
                have hgd : gp < dt := hgp ▸ hpk c dt hd0
                have HPD := toHid (fun z W (h : z = (dt : Int)) => HP.out c z W dt HI3.out ⟨h, hd0, rg_le h9⟩)
                rw [hgp] at HPD
                obtain ⟨hg9, hg10⟩ := rg_gap hgd h9
                have HNG := toHid (fun W => HN.out ((fr : Int) + (gp : Int)) W (fr + gp) ⟨rfl, hg9⟩)
                have HNH := toHid (fun W => HN.out ((fr : Int) + (gp : Int) + 1) W (fr + gp + 1) ⟨rfl, hg10⟩)
                clear hpk hgp hgk2 hin
                go_upto_region 32 with fail
                have hfb := HFB.out
                go_wp2_with (first | (go_at_call 25; refine (HPD.out _ _ rg_pk).mono ?_; rintro r w14 ⟨rfl, rfl⟩; refine Hid.out ?_))
                refine toHid ?_
                clear hfb
                go_wp2_with (first | (go_at_call 23; with_reducible refine (HNG.out _).mono ?_; rintro r w14 ⟨rfl, rfl⟩; refine Hid.out ?_))
                refine toHid ?_
                clear m3 hsz
                go_wp2_with (first | (go_at_call 19; refine (HD3.out e _ _ gp hgd HRW.out).mono ?_; rintro r w15 ⟨rfl, hq⟩; have HR7 := toHid hq; clear hq; refine Hid.out ?_))
                refine toHid ?_
                go_wp2_with (first | (go_at_call 20; refine (HC2.out e _ _ gp hgd HR7.out).mono ?_; rintro r w16 ⟨bn2, L2, cn2, rfl, hq⟩; have HR8 := toHid hq; clear hq; refine Hid.out ?_))
                refine toHid ?_
                go_wp2_with (first | (go_at_call 23; with_reducible refine (HNG.out _).mono ?_; rintro r w17 ⟨rfl, rfl⟩; refine Hid.out ?_))
                refine toHid ?_
                go_wp2_with (first | (go_at_call 23; with_reducible refine (HNH.out _).mono ?_; rintro r w17 ⟨rfl, rfl⟩; refine Hid.out ?_))
                refine toHid ?_
                have HR9 := toHid (HG.out _ _ _ _ _ HR8.out ((Below.refl _ _).alloc (Nat.le_refl _) (.cells #[.int .i64 0, .int .i64 0, .string ⟨#[]⟩, .slice bn2 L2 cn2, .int .i64 0, .int .i64 0] 39)))
                go_wp2_with (first | (go_at_call 20; refine (HC3.out e _ _ gp hgd HR9.out).mono ?_; rintro r w18 ⟨bn3, L3, cn3, rfl, hk18, hr18, hq⟩; have HAS := toHid hq; have HK18 := toHid hk18; have HR10 := toHid hr18; clear hq hk18 hr18; refine Hid.out ?_))
                refine toHid ?_
                obtain ⟨⟨n0, n1, n2, n3, n4, n5⟩, ⟨y0, y1, y2, y3, y4, y5⟩, hsz2⟩ := row6 ((HK18.out.2 w16.heap.size (Or.inr ⟨Nat.le_refl _, by simp⟩)).trans (heap_alloc_new w16 (.cells #[.int .i64 0, .int .i64 0, .string ⟨#[]⟩, .slice bn2 L2 cn2, .int .i64 0, .int .i64 0] 39)))
                clear y0 y1 y2 y3 y4 y5
                go_wp2_with fail
                go_region_with (first | (go_at_call 23; with_reducible refine (HNG.out _).mono ?_; rintro r w19 ⟨rfl, rfl⟩) | (go_at_call 31; refine (HAS.out _ ((Below.refl _ _).alloc (Nat.le_refl _) _).drew).mono ?_; rintro r w20 ⟨rfl, rfl⟩))
                all_goals go_wp2
                all_goals exact bodyPost_ret (v := .bool true) (by simp [results, Tryz.results7, go_sem]) (by simp [go_sem]) ⟨rfl, e, _, _, HNX.out _ _ _ _ _ HR10.out ((Below.refl _ _).alloc (Nat.le_refl _) _).drew⟩
        · obtain ⟨hA, hB, hD, hF, hG⟩ := HA2.out j hjn
          have HNJ := toHid (fun W => HN.out (j : Int) W j ⟨rfl, hA⟩)
          go_wp2_with fail
          go_region_with (first | (go_at_call 23; refine (HNJ.out _).mono ?_; rintro r w13 ⟨rfl, rfl⟩) | (go_at_call 31; refine (HHAS.out _ j (HBW.out.drew) hj0 hjn).mono ?_; rintro r w14 ⟨rfl, rfl⟩))
          all_goals go_wp2
          all_goals go_roundg (fr + dt + 1 - (j + 1))
          all_goals try (case measure => exact hG _ hgk)
          all_goals exact ⟨j + 1, Nat.le_succ_of_le hj0, hD, hF, by simp, toHid HBW.out.drew⟩
end Go.Proofs.YtihgojcfpnhelaaGreatDoor
