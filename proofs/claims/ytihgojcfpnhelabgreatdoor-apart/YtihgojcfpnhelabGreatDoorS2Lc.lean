import Derived.Test.YtihgojcfpnhelabGreatDoorS2Ke
import Derived.Test.YtihgojcfpnhelabGreatDoorS2Kf
import Derived.Test.YtihgojcfpnhelabGreatDoorS2Kg
import Derived.Test.YtihgojcfpnhelabGreatDoorS2Kh
set_option maxRecDepth 100000
set_option maxHeartbeats 4000000
set_option linter.unusedVariables false
set_option linter.unusedSimpArgs false
namespace Go.Proofs.YtihgojcfpnhelabGreatDoor
open Go.RowKit
section
theorem ruleB_len3 (d : Nat) (hd : d ≤ 3) (r : By) : (ruleB d r).1.length ≤ 117 := by
 have h1 := ruleB_len d r
 have h2 : 2 ^ d ≤ 2 ^ 3 := Nat.pow_le_pow_right (by decide) hd
 omega
theorem keep_rule (b : Nat) : ∀ (d : Nat), d ≤ 3 → ∀ (r : By) (z : Int) (w : World), FeedAt w b r → z = (d : Int) → Calls Tryz.prog 21 #[.pointer (some ⟨b, 0, none⟩), .int .i64 z] w (RulePost b (ruleB d r) w)
 | 0, _, r, z, w, h, hz => by
  subst hz
  unfold ruleB
  split
  ·rename_i hx
   exact rule0_num b r w h hx
  ·rename_i hx
   split
   ·rename_i hx1
    have hl := nextB_lt (nextB r 5).2 2 (by decide)
    rcases (show (nextB (nextB r 5).2 2).1 = 0 ∨ (nextB (nextB r 5).2 2).1 = 1 by omega) with hy | hy
    ·have := rule0_word0 b r w h hx1 hy
     rw [hy]
     exact this
    ·have := rule0_word1 b r w h hx1 hy
     rw [hy]
     exact this
   ·rename_i hx1
    exact rule0_few b r w h hx hx1
 | d + 1, hd, r, z, w, h, hz => by
  have hi := keep_rule b d (by omega)
  have hz' : z = (d : Int) + 1 := by omega
  have hz0 : (z == 0) = false := by simp; omega
  have hw : wrap64 (z - 1) = (d : Int) := by unfold wrap64; omega
  have H1 : ∀ r, Fd1 b (.string ⟨((ruleB d r).1).toArray⟩) r (ruleB d r).2 21 #[.pointer (some ⟨b, 0, none⟩), .int .i64 (wrap64 (z - 1))] := fun r W hW => hi r _ W hW hw
  have hw2 : IntKind.i64.wrap (z - 1) = (d : Int) := by
   rw [show IntKind.i64.wrap (z - 1) = wrap64 (z - 1) by simp only [IntKind.wrap_i64, wrap64]]
   exact hw
  have H1' : ∀ r, Fd1 b (.string ⟨((ruleB d r).1).toArray⟩) r (ruleB d r).2 21 #[.pointer (some ⟨b, 0, none⟩), .int .i64 (IntKind.i64.wrap (z - 1))] := fun r W hW => hi r _ W hW hw2
  have N : ∀ (r : By) (n : Nat) (k : Nat), 0 < n → n ≤ 1000 → (nextB r n).1 = k → Fd1 b (.int .i64 (k : Int)) r (nextB r n).2 19 #[.pointer (some ⟨b, 0, none⟩), .int .i64 (n : Int)] := fun r n k h0 h1 hk W hW => by
   subst hk
   exact keep_next b r n W h0 h1 hW
  have F : ∀ r, Fd1 b (.string ⟨((fewB r).1).toArray⟩) r (fewB r).2 20 #[.pointer (some ⟨b, 0, none⟩)] := fun r W hW => keep_few b r W hW
  have la : ∀ r, (ruleB d r).1.length ≤ 300 := fun r => by have := ruleB_len3 d (by omega) r; omega
  have lf := fun r => fewB_len r
  have hk8 := nextB_lt (ruleB d r).2 8 (by decide)
  unfold ruleB
  simp only
  split
  ·rename_i hx
   exact ruleS_if b d r z w h hz' (by omega) hi hx
  ·split
   ·rename_i hx
    exact ruleS_not b d r z w h hz' (by omega) hi hx
   ·split
    ·rename_i hx
     exact ruleS_neg b d r z w h hz' (by omega) hi hx
    ·split
     ·rename_i hx
      have hl := nextB_lt (nextB (ruleB d r).2 8).2 2 (by decide)
      rcases (show (nextB (nextB (ruleB d r).2 8).2 2).1 = 0 ∨ (nextB (nextB (ruleB d r).2 8).2 2).1 = 1 by omega) with hy | hy
      ·have := ruleS_logic0 b z w _ _ r _ _ _ _ h hz0 (la _) (la (nextB (nextB (ruleB d r).2 8).2 2).2) (H1 r) (N _ 8 3 (by decide) (by decide) hx) (N _ 2 0 (by decide) (by decide) hy) (H1' _)
       rw [hy]
       exact this
      ·have := ruleS_logic1 b z w _ _ r _ _ _ _ h hz0 (la _) (la (nextB (nextB (ruleB d r).2 8).2 2).2) (H1 r) (N _ 8 3 (by decide) (by decide) hx) (N _ 2 1 (by decide) (by decide) hy) (H1' _)
       rw [hy]
       exact this
     ·split
      ·rename_i hx
       have hl := nextB_lt (nextB (ruleB d r).2 8).2 2 (by decide)
       rcases (show (nextB (nextB (ruleB d r).2 8).2 2).1 = 0 ∨ (nextB (nextB (ruleB d r).2 8).2 2).1 = 1 by omega) with hy | hy
       ·have := ruleS_test0 b z w _ _ r _ _ _ _ h hz0 (la _) (lf (nextB (nextB (ruleB d r).2 8).2 2).2) (H1 r) (N _ 8 4 (by decide) (by decide) hx) (N _ 2 0 (by decide) (by decide) hy) (F _)
        rw [hy]
        exact this
       ·have := ruleS_test1 b z w _ _ r _ _ _ _ h hz0 (la _) (lf (nextB (nextB (ruleB d r).2 8).2 2).2) (H1 r) (N _ 8 4 (by decide) (by decide) hx) (N _ 2 1 (by decide) (by decide) hy) (F _)
        rw [hy]
        exact this
      ·rename_i x0 x1 x2 x3 x4
       have hl := nextB_lt (nextB (ruleB d r).2 8).2 5 (by decide)
       have e0 : (((nextB (ruleB d r).2 8).1 : Int) == 0) = false := by simp; omega
       have e1 : (((nextB (ruleB d r).2 8).1 : Int) == 1) = false := by simp; omega
       have e2 : (((nextB (ruleB d r).2 8).1 : Int) == 2) = false := by simp; omega
       have e3 : (((nextB (ruleB d r).2 8).1 : Int) == 3) = false := by simp; omega
       have e4 : (((nextB (ruleB d r).2 8).1 : Int) == 4) = false := by simp; omega
       rcases (show (nextB (nextB (ruleB d r).2 8).2 5).1 = 0 ∨ (nextB (nextB (ruleB d r).2 8).2 5).1 = 1 ∨ (nextB (nextB (ruleB d r).2 8).2 5).1 = 2 ∨ (nextB (nextB (ruleB d r).2 8).2 5).1 = 3 ∨ (nextB (nextB (ruleB d r).2 8).2 5).1 = 4 by omega) with hy | hy | hy | hy | hy
       ·have := ruleS_sum0 b z w _ _ r _ _ _ _ h hz0 (la _) (lf (nextB (nextB (ruleB d r).2 8).2 5).2) (H1 r) _ e0 e1 e2 e3 e4 (N _ 8 _ (by decide) (by decide) rfl) (N _ 5 0 (by decide) (by decide) hy) (F _)
        rw [hy]
        exact this
       ·have := ruleS_sum1 b z w _ _ r _ _ _ _ h hz0 (la _) (lf (nextB (nextB (ruleB d r).2 8).2 5).2) (H1 r) _ e0 e1 e2 e3 e4 (N _ 8 _ (by decide) (by decide) rfl) (N _ 5 1 (by decide) (by decide) hy) (F _)
        rw [hy]
        exact this
       ·have := ruleS_sum2 b z w _ _ r _ _ _ _ h hz0 (la _) (lf (nextB (nextB (ruleB d r).2 8).2 5).2) (H1 r) _ e0 e1 e2 e3 e4 (N _ 8 _ (by decide) (by decide) rfl) (N _ 5 2 (by decide) (by decide) hy) (F _)
        rw [hy]
        exact this
       ·have := ruleS_sum3 b z w _ _ r _ _ _ _ h hz0 (la _) (lf (nextB (nextB (ruleB d r).2 8).2 5).2) (H1 r) _ e0 e1 e2 e3 e4 (N _ 8 _ (by decide) (by decide) rfl) (N _ 5 3 (by decide) (by decide) hy) (F _)
        rw [hy]
        exact this
       ·have := ruleS_sum4 b z w _ _ r _ _ _ _ h hz0 (la _) (lf (nextB (nextB (ruleB d r).2 8).2 5).2) (H1 r) _ e0 e1 e2 e3 e4 (N _ 8 _ (by decide) (by decide) rfl) (N _ 5 4 (by decide) (by decide) hy) (F _)
        rw [hy]
        exact this
end
section
attribute [local go_sem] idx_eq app_eq
def lineB (r : By) : By :=
 if (nextB r 8).1 = 0 then [100, 101, 108, 101, 116, 101, 32] ++ (fewB (nextB r 8).2).1
 else if (nextB r 8).1 = 1 then [114, 101, 110, 97, 109, 101, 32] ++ (fewB (nextB r 8).2).1 ++ [32] ++ (fewB (fewB (nextB r 8).2).2).1
 else [115, 101, 116, 32] ++ (fewB (nextB r 8).2).1 ++ [32, 61, 32] ++ (ruleB (nextB (fewB (nextB r 8).2).2 3).1 (nextB (fewB (nextB r 8).2).2 3).2).1
theorem line_del (b : Nat) (r : By) (w : World) (h0 : FeedAt w b r) (hx : (nextB r 8).1 = 0) :
  Calls Tryz.prog 11 #[.pointer (some ⟨b, 0, none⟩)] w fun e w' => e = .returned (.string ⟨([100, 101, 108, 101, 116, 101, 32] ++ (fewB (nextB r 8).2).1).toArray⟩) ∧ KeepB b w w' := by
 have lf := fewB_len (nextB r 8).2
 have HX := tZ hx
 clear hx
 go_enter Tryz.func11, Tryz.ntmps11
 go_wp2_with (first | (go_at_call 19; refine (keep_nextZ b _ 8 8 w h0 (by decide)).mono ?_; rintro e w1 ⟨rfl, hf1, hb1⟩; rw [HX.out]; refine Hid.out ?_))
 refine tZ ?_
 go_wp2_with (first | (go_at_call 20; refine (keep_few b _ w1 hf1).mono ?_; rintro e w2 ⟨rfl, hf2, hb2⟩))
 go_ret
 refine ⟨?_, hb1.trans hb2⟩
 first | rfl | (simp; done)
theorem line_ren (b : Nat) (r : By) (w : World) (h0 : FeedAt w b r) (hx : (nextB r 8).1 = 1) :
  Calls Tryz.prog 11 #[.pointer (some ⟨b, 0, none⟩)] w fun e w' => e = .returned (.string ⟨([114, 101, 110, 97, 109, 101, 32] ++ (fewB (nextB r 8).2).1 ++ [32] ++ (fewB (fewB (nextB r 8).2).2).1).toArray⟩) ∧ KeepB b w w' := by
 have lf := fewB_len (nextB r 8).2
 have lg := fewB_len (fewB (nextB r 8).2).2
 have HX := tZ hx
 clear hx
 go_enter Tryz.func11, Tryz.ntmps11
 go_wp2_with (first | (go_at_call 19; refine (keep_nextZ b _ 8 8 w h0 (by decide)).mono ?_; rintro e w1 ⟨rfl, hf1, hb1⟩; rw [HX.out]; refine Hid.out ?_))
 refine tZ ?_
 go_wp2_with (first | (go_at_call 20; refine (keep_few b _ w1 hf1).mono ?_; rintro e w2 ⟨rfl, hf2, hb2⟩; refine Hid.out ?_))
 refine tZ ?_
 go_wp2_with (first | (go_at_call 20; refine (keep_few b _ w2 hf2).mono ?_; rintro e w3 ⟨rfl, hf3, hb3⟩))
 go_ret
 refine ⟨?_, (hb1.trans hb2).trans hb3⟩
 first | rfl | (simp; done)
theorem line_sets (b : Nat) (r : By) (w : World) (h0 : FeedAt w b r) (hx : (nextB r 8).1 ≠ 0) (hx1 : (nextB r 8).1 ≠ 1) :
  Calls Tryz.prog 11 #[.pointer (some ⟨b, 0, none⟩)] w fun e w' => e = .returned (.string ⟨([115, 101, 116, 32] ++ (fewB (nextB r 8).2).1 ++ [32, 61, 32] ++ (ruleB (nextB (fewB (nextB r 8).2).2 3).1 (nextB (fewB (nextB r 8).2).2 3).2).1).toArray⟩) ∧ KeepB b w w' := by
 have lf := fewB_len (nextB r 8).2
 have hb0 : (((nextB r 8).1 : Int) == 0) = false := by simp; omega
 have hb1' : (((nextB r 8).1 : Int) == 1) = false := by simp; omega
 have hd : (nextB (fewB (nextB r 8).2).2 3).1 ≤ 3 := by have := nextB_lt (fewB (nextB r 8).2).2 3 (by decide); omega
 have lr : (ruleB (nextB (fewB (nextB r 8).2).2 3).1 (nextB (fewB (nextB r 8).2).2 3).2).1.length ≤ 300 := by
  have h1 := ruleB_len (nextB (fewB (nextB r 8).2).2 3).1 (nextB (fewB (nextB r 8).2).2 3).2
  have h2 : 2 ^ (nextB (fewB (nextB r 8).2).2 3).1 ≤ 2 ^ 3 := Nat.pow_le_pow_right (by decide) hd
  omega
 have HR := tZ (fun (W : World) (h : FeedAt W b (nextB (fewB (nextB r 8).2).2 3).2) => keep_rule b (nextB (fewB (nextB r 8).2).2 3).1 hd (nextB (fewB (nextB r 8).2).2 3).2 _ W h rfl)
 unfold RulePost at HR
 clear hx hx1 hd
 go_enter Tryz.func11, Tryz.ntmps11
 go_wp2_with (first | (go_at_call 19; refine (keep_nextZ b _ 8 8 w h0 (by decide)).mono ?_; rintro e w1 ⟨rfl, hf1, hb1⟩; refine Hid.out ?_))
 refine tZ ?_
 go_wp2_with (first | (go_at_call 20; refine (keep_few b _ w1 hf1).mono ?_; rintro e w2 ⟨rfl, hf2, hb2⟩; refine Hid.out ?_))
 refine tZ ?_
 go_wp2_with (first | (go_at_call 19; refine (keep_nextZ b _ 3 3 w2 hf2 (by decide)).mono ?_; rintro e w3 ⟨rfl, hf3, hb3⟩; refine Hid.out ?_))
 refine tZ ?_
 go_wp2_with (first | (go_at_call 21; refine (HR.out w3 hf3).mono ?_; rintro e w4 ⟨rfl, hf4, hb4⟩))
 go_ret
 refine ⟨?_, ((hb1.trans hb2).trans hb3).trans hb4⟩
 first | rfl | (simp; done)
theorem keep_line (b : Nat) (r : By) (w : World) (h0 : FeedAt w b r) :
  Calls Tryz.prog 11 #[.pointer (some ⟨b, 0, none⟩)] w fun e w' => e = .returned (.string ⟨(lineB r).toArray⟩) ∧ KeepB b w w' := by
 unfold lineB
 split
 ·rename_i h; exact line_del b r w h0 h
 ·rename_i h
  split
  ·rename_i h1; exact line_ren b r w h0 h1
  ·rename_i h1; exact line_sets b r w h0 h h1
end
section
theorem L_notD {c : UInt8} (h : isL c = true) : isD c = false := by
 simp only [isL, letB, decide_eq_true_eq] at h
 simp only [isD, digB, decide_eq_false_iff_not]
 omega
def GI (x : By) : Prop := x = [32] ∨ inB x signW = true ∨ (∃ d, x = [d] ∧ isD d = true) ∨ (x ≠ [] ∧ (∀ y, y ∈ x → isL y = true) ∧ x.length ≤ 6) ∨ (∃ d, x = [102, d] ∧ isD d = true)
theorem GI.ti {x : By} (h : GI x) (hx : x ≠ [32]) : TI x := by
 rcases h with h | h | ⟨d, rfl, hd⟩ | ⟨h0, h1, h2⟩ | ⟨d, rfl, hd⟩
 ·exact absurd h hx
 ·simp only [inB, signW, List.contains_iff_mem, List.mem_cons, List.not_mem_nil, or_false] at h
  rcases h with rfl | rfl | rfl | rfl | rfl | rfl | rfl | rfl | rfl | rfl <;> exact ⟨_, [], rfl, by decide, by decide, fun _ y hy => by simp at hy, fun _ _ y hy => by simp at hy, fun _ _ => rfl⟩
 ·refine ⟨d, [], rfl, ?_, ?_, fun _ y hy => by simp at hy, fun _ _ y hy => by simp at hy, fun _ _ => rfl⟩
  ·rintro rfl
   revert hd; decide
  ·have := d.toNat_lt
   simp [tokOK, headD, hd, valD, top63]
   omega
 ·obtain ⟨c, r, rfl⟩ : ∃ c r, x = c :: r := by
   cases x with
   | nil => exact absurd rfl h0
   | cons c r => exact ⟨c, r, rfl⟩
  have hc := h1 c (by simp)
  refine ⟨c, r, rfl, ?_, ?_, fun _ y hy => isLD_L (h1 y (by simp [hy])), fun h => ?_, fun h => ?_⟩
  ·rintro rfl
   revert hc; decide
  ·simp only [List.length_cons] at h2
   simp [tokOK, headD, headL, hc, L_notD hc]
   omega
  ·rw [hc] at h; cases h
  ·rw [hc] at h; cases h
 ·refine ⟨102, [d], rfl, by decide, ?_, fun _ y hy => ?_, fun h => ?_, fun h => ?_⟩
  ·simp [tokOK, headD, headL, show isL 102 = true from by decide, show isD 102 = false from by decide]
  ·simp at hy
   rw [hy]
   exact isLD_D hd
  ·exact absurd h (by decide)
  ·exact absurd h (by decide)
def MF (p : Pt) : Prop := ∀ x, mentP x p = true → ∃ d, isD d = true ∧ x = [102, d]
def RI (n : Nat) (s : By) (m : Nat) : Prop := ∃ (its : List By) (p : Pt), its.flatten = s ∧ (∀ x, x ∈ its → GI x) ∧ (∀ rest, noLD rest → OkI its rest) ∧ Der (z0 (tks its)) n 0 (tks its).length p ∧ txt p = s ∧ opn p ≤ m ∧ MF p
def RIp (n : Nat) (s : By) (m : Nat) (p : Pt) : Prop := ∃ its : List By, its.flatten = s ∧ (∀ x, x ∈ its → GI x) ∧ (∀ rest, noLD rest → OkI its rest) ∧ Der (z0 (tks its)) n 0 (tks its).length p ∧ txt p = s ∧ opn p ≤ m
theorem RIp.ri {n m : Nat} {s : By} {p : Pt} (h : RIp n s m p) (hm : MF p) : RI n s m := by
 obtain ⟨its, a, b, c, d, e, f⟩ := h
 exact ⟨its, p, a, b, c, d, e, f, hm⟩
theorem RI.rip {n m : Nat} {s : By} (h : RI n s m) : ∃ p, RIp n s m p ∧ MF p := by
 obtain ⟨its, p, a, b, c, d, e, f, hm⟩ := h
 exact ⟨p, ⟨its, a, b, c, d, e, f⟩, hm⟩
theorem noLD_c (c : UInt8) (r : By) (h : isLD c = false) : noLD (c :: r) := Or.inr ⟨c, r, rfl, h⟩
theorem RIp.up {n m : Nat} {s : By} {p : Pt} (h : RIp n s m p) (k : Nat) (h1 : 1 ≤ k) (h2 : k ≤ n) (h6 : n ≤ 6) : RIp k s m p := by
 obtain ⟨its, a, b, c, d, e⟩ := h
 refine ⟨its, a, b, c, ?_, e⟩
 have e : k + (n - k) = n := by omega
 exact Der.ups (n - k) k (by rw [e]; exact d) h1 (by omega)
theorem RI.up {n m : Nat} {s : By} (h : RI n s m) (k : Nat) (h1 : 1 ≤ k) (h2 : k ≤ n) (h6 : n ≤ 6) : RI k s m := by
 obtain ⟨p, h, hm⟩ := h.rip
 exact (h.up k h1 h2 h6).ri hm
theorem RI.le {n m m' : Nat} {s : By} (h : RI n s m) (hm : m ≤ m') : RI n s m' := by
 obtain ⟨its, p, a, b, c, d, e, f, g⟩ := h
 exact ⟨its, p, a, b, c, d, e, by omega, g⟩
theorem RIp.one (x : By) (k : Nat) (hx : GI x) (h32 : x ≠ [32]) (hc : Cls x k) (hk : k = 1 ∨ k = 2 ∨ k = 7 ∨ k = 8) (ht : txt (.atom k (nmB x) (nuB x)) = x) : RIp 6 x 0 (.atom k (nmB x) (nuB x)) := by
 have e : tks [x] = [x] := by simp [tks, h32]
 refine ⟨[x], by simp, fun y hy => by rw [List.mem_singleton.1 hy]; exact hx, fun rest hr => ⟨Or.inr ⟨hx.ti h32, fun _ => by simpa using hr⟩, trivial⟩, ?_, ht, Nat.le_refl _⟩
 rw [e]
 exact .atom (ts := z0 [x]) 0 k (by simp [z0]) hc hk
theorem RI.one (x : By) (k : Nat) (hx : GI x) (h32 : x ≠ [32]) (hc : Cls x k) (hk : k = 1 ∨ k = 2 ∨ k = 7 ∨ k = 8) (ht : txt (.atom k (nmB x) (nuB x)) = x) (hm : MF (.atom k (nmB x) (nuB x))) : RI 6 x 0 := (RIp.one x k hx h32 hc hk ht).ri hm
theorem g40 : GI [40] := Or.inr (Or.inl (by decide))
theorem g41 : GI [41] := Or.inr (Or.inl (by decide))
theorem g44 : GI [44] := Or.inr (Or.inl (by decide))
theorem g45 : GI [45] := Or.inr (Or.inl (by decide))
theorem g32 : GI [32] := Or.inl rfl
theorem gif : GI [105, 102] := Or.inr (Or.inr (Or.inr (Or.inl ⟨by simp, by decide, by simp⟩)))
theorem gnot : GI [110, 111, 116] := Or.inr (Or.inr (Or.inr (Or.inl ⟨by simp, by decide, by simp⟩)))
theorem OkI.sign {x : By} {l : List By} {rest : By} (hx : GI x) (h : hLD x = false) (hl : OkI l rest) : OkI (x :: l) rest := by
 refine ⟨?_, hl⟩
 by_cases e : x = [32]
 ·exact Or.inl e
 ·exact Or.inr ⟨hx.ti e, fun h' => by rw [h] at h'; cases h'⟩
theorem OkI.wordy {x : By} {l : List By} {rest : By} (hx : GI x) (h : noLD (l.flatten ++ rest)) (hl : OkI l rest) : OkI (x :: l) rest := by
 refine ⟨?_, hl⟩
 by_cases e : x = [32]
 ·exact Or.inl e
 ·exact Or.inr ⟨hx.ti e, fun _ => h⟩
theorem RIp.br {s : By} {m : Nat} {p : Pt} (h : RIp 1 s m p) : RIp 6 ([40] ++ s ++ [41]) (m + 1) (.un 9 p) := by
 obtain ⟨its, rfl, hg, ho, hD, ht, hop⟩ := h
 refine ⟨[40] :: (its ++ [[41]]), by simp, ?_, ?_, ?_, ?_, by simp only [opn]; omega⟩
 ·intro x hx
  simp at hx
  rcases hx with rfl | hx | rfl
  ·exact g40
  ·exact hg x hx
  ·exact g41
 ·intro rest hr
  refine .sign g40 (by decide) (.app (ho _ ?_) (.sign g41 (by decide) trivial))
  exact noLD_c 41 _ (by decide)
 ·have e : tks ([40] :: (its ++ [[41]])) = ([[40]] : List By) ++ tks its ++ [[41]] := by simp [tks]
  rw [e]
  have := Der.br (ts := z0 (([[40]] : List By) ++ tks its ++ [[41]])) 0 (1 + (tks its).length) p ?_ (hD.sub [[40]] [[41]]) ?_
  ·rw [show (([[40]] : List By) ++ tks its ++ [[41]] : List By).length = 1 + (tks its).length + 1 by simp; omega]
   exact this
  ·rw [tAt_z0]; rfl
  ·rw [tAt_z0, gd_right _ _ _ (by simp; omega)]
   rw [show 1 + (tks its).length - (([[40]] : List By) ++ tks its).length = 0 by simp; omega]
   rfl
 ·simp [txt, ahd, bhd, btw, ahdW, bhdW, btwW, numT, jn, ht]
theorem RI.br {s : By} {m : Nat} (h : RI 1 s m) : RI 6 ([40] ++ s ++ [41]) (m + 1) := by
 obtain ⟨p, h, hm⟩ := h.rip
 refine h.br.ri ?_
 intro x hx
 simp [mentP] at hx
 exact hm x hx
theorem RIp.nots {s : By} {m : Nat} {p : Pt} (h : RIp 3 s m p) : RIp 3 ([110, 111, 116, 32] ++ s) (m + 1) (.un 6 p) := by
 obtain ⟨its, rfl, hg, ho, hD, ht, hop⟩ := h
 refine ⟨[110, 111, 116] :: [32] :: its, by simp, ?_, ?_, ?_, ?_, by simp only [opn]; omega⟩
 ·intro x hx
  simp at hx
  rcases hx with rfl | rfl | hx
  ·exact gnot
  ·exact g32
  ·exact hg x hx
 ·intro rest hr
  exact .wordy gnot (noLD_c 32 _ (by decide)) (.sign g32 (by decide) (ho rest hr))
 ·have e : tks ([110, 111, 116] :: [32] :: its) = ([[110, 111, 116]] : List By) ++ tks its ++ [] := by simp [tks]
  rw [e]
  have := Der.nots (ts := z0 (([[110, 111, 116]] : List By) ++ tks its ++ [])) 0 (1 + (tks its).length) p ?_ (hD.sub [[110, 111, 116]] [])
  ·rw [show (([[110, 111, 116]] : List By) ++ tks its ++ [] : List By).length = 1 + (tks its).length by simp; omega]
   exact this
  ·rw [tAt_z0]; rfl
 ·simp [txt, ahd, bhd, btw, ahdW, bhdW, btwW, numT, jn, ht]
theorem RI.nots {s : By} {m : Nat} (h : RI 3 s m) : RI 3 ([110, 111, 116, 32] ++ s) (m + 1) := by
 obtain ⟨p, h, hm⟩ := h.rip
 refine h.nots.ri ?_
 intro x hx
 simp [mentP] at hx
 exact hm x hx
theorem RIp.neg {s : By} {m : Nat} {p : Pt} (h : RIp 6 s m p) : RIp 6 ([45] ++ s) (m + 1) (.un 14 p) := by
 obtain ⟨its, rfl, hg, ho, hD, ht, hop⟩ := h
 refine ⟨[45] :: its, by simp, ?_, ?_, ?_, ?_, by simp only [opn]; omega⟩
 ·intro x hx
  simp at hx
  rcases hx with rfl | hx
  ·exact g45
  ·exact hg x hx
 ·intro rest hr
  exact .sign g45 (by decide) (ho rest hr)
 ·have e : tks ([45] :: its) = ([[45]] : List By) ++ tks its ++ [] := by simp [tks]
  rw [e]
  have := Der.neg (ts := z0 (([[45]] : List By) ++ tks its ++ [])) 0 (1 + (tks its).length) p ?_ (hD.sub [[45]] [])
  ·rw [show (([[45]] : List By) ++ tks its ++ [] : List By).length = 1 + (tks its).length by simp; omega]
   exact this
  ·rw [tAt_z0]; rfl
 ·simp [txt, ahd, bhd, btw, ahdW, bhdW, btwW, numT, jn, ht]
theorem RI.neg {s : By} {m : Nat} (h : RI 6 s m) : RI 6 ([45] ++ s) (m + 1) := by
 obtain ⟨p, h, hm⟩ := h.rip
 refine h.neg.ri ?_
 intro x hx
 simp [mentP] at hx
 exact hm x hx
theorem RIp.two {n k : Nat} {a b op : By} {ma mb : Nat} {pa pb : Pt} (h1 : 1 ≤ n) (h5 : n ≤ 5) (ha : RIp (if n = 3 then 4 else n) a ma pa) (hb : RIp (n + 1) b mb pb) (hg : GI op) (h32 : op ≠ [32]) (hs : inB op (sgn n) = true) (hc : Cls op k) (hbt : btw k = 32 :: op ++ [32] ∧ ahd k = [] ∧ bhd k = [] ∧ k ≠ 1) : RIp n (a ++ [32] ++ op ++ [32] ++ b) (max ma mb) (.bin k pa pb) := by
 obtain ⟨ia, rfl, ga, oa, Da, ta, ha'⟩ := ha
 obtain ⟨ib, rfl, gb, ob, Db, tb, hb'⟩ := hb
 refine ⟨ia ++ ([32] :: op :: [32] :: ib), by simp, ?_, ?_, ?_, ?_, by simp only [opn]; omega⟩
 ·intro x hx
  simp at hx
  rcases hx with hx | rfl | rfl | rfl | hx
  ·exact ga x hx
  ·exact g32
  ·exact hg
  ·exact g32
  ·exact gb x hx
 ·intro rest hr
  exact .app (oa _ (noLD_c 32 _ (by decide))) (.sign g32 (by decide) (.wordy hg (noLD_c 32 _ (by decide)) (.sign g32 (by decide) (ob rest hr))))
 ·have e : tks (ia ++ ([32] :: op :: [32] :: ib)) = tks ia ++ [op] ++ tks ib := by simp [tks, h32]
  rw [e]
  have d1 : Der (z0 (tks ia ++ [op] ++ tks ib)) (if n = 3 then 4 else n) 0 (tks ia).length pa := by
   have := Da.sub [] ([op] ++ tks ib)
   simpa [z0] using this
  have d2 : Der (z0 (tks ia ++ [op] ++ tks ib)) (n + 1) ((tks ia).length + 1) ((tks ia).length + 1 + (tks ib).length) pb := by
   have := Db.sub (tks ia ++ [op]) []
   simpa [z0] using this
  have hop : tAt (z0 (tks ia ++ [op] ++ tks ib)) (tks ia).length = op := by
   rw [tAt_z0, List.append_assoc, gd_right _ _ _ (Nat.le_refl _), Nat.sub_self]
   rfl
  rw [show (tks ia ++ [op] ++ tks ib).length = (tks ia).length + 1 + (tks ib).length by simp; omega]
  exact .more n 0 (tks ia).length _ k pa pb h1 h5 d1 (by rw [hop]; exact hs) (by rw [hop]; exact hc) d2
 ·simp [txt, hbt, numT, jn, ta, tb]
theorem RI.two {n k : Nat} {a b op : By} {ma mb : Nat} (h1 : 1 ≤ n) (h5 : n ≤ 5) (ha : RI (if n = 3 then 4 else n) a ma) (hb : RI (n + 1) b mb) (hg : GI op) (h32 : op ≠ [32]) (hs : inB op (sgn n) = true) (hc : Cls op k) (hk : k ≠ 2) (hbt : btw k = 32 :: op ++ [32] ∧ ahd k = [] ∧ bhd k = [] ∧ k ≠ 1) : RI n (a ++ [32] ++ op ++ [32] ++ b) (max ma mb) := by
 obtain ⟨pa, ha, fa⟩ := ha.rip
 obtain ⟨pb, hb, fb⟩ := hb.rip
 refine (RIp.two h1 h5 ha hb hg h32 hs hc hbt).ri ?_
 intro x hx
 simp [mentP, hk] at hx
 rcases hx with hx | hx
 ·exact fa x hx
 ·exact fb x hx
theorem RIp.ifs {a b c : By} {ma mb mc : Nat} {pa pb pc : Pt} (ha : RIp 1 a ma pa) (hb : RIp 1 b mb pb) (hc : RIp 1 c mc pc) : RIp 6 ([105, 102, 40] ++ a ++ [44, 32] ++ b ++ [44, 32] ++ c ++ [41]) (max ma (max mb mc) + 1) (.ifs pa pb pc) := by
 obtain ⟨ia, rfl, ga, oa, Da, ta, ha'⟩ := ha
 obtain ⟨ib, rfl, gb, ob, Db, tb, hb'⟩ := hb
 obtain ⟨ic, rfl, gc, oc, Dc, tc, hc'⟩ := hc
 refine ⟨[105, 102] :: [40] :: (ia ++ ([44] :: [32] :: (ib ++ ([44] :: [32] :: (ic ++ [[41]]))))), by simp, ?_, ?_, ?_, ?_, by simp only [opn]; omega⟩
 ·intro x hx
  simp at hx
  rcases hx with rfl | rfl | hx | rfl | rfl | hx | rfl | rfl | hx | rfl
  ·exact gif
  ·exact g40
  ·exact ga x hx
  ·exact g44
  ·exact g32
  ·exact gb x hx
  ·exact g44
  ·exact g32
  ·exact gc x hx
  ·exact g41
 ·intro rest hr
  exact .wordy gif (noLD_c 40 _ (by decide)) (.sign g40 (by decide) (.app (oa _ (noLD_c 44 _ (by decide))) (.sign g44 (by decide) (.sign g32 (by decide) (.app (ob _ (noLD_c 44 _ (by decide))) (.sign g44 (by decide) (.sign g32 (by decide) (.app (oc _ (noLD_c 41 _ (by decide))) (.sign g41 (by decide) trivial)))))))))
 ·have e : tks ([105, 102] :: [40] :: (ia ++ ([44] :: [32] :: (ib ++ ([44] :: [32] :: (ic ++ [[41]])))))) = ([[105, 102], [40]] : List By) ++ tks ia ++ [[44]] ++ tks ib ++ [[44]] ++ tks ic ++ [[41]] := by simp [tks]
  rw [e]
  have d1 := Da.sub [[105, 102], [40]] ([[44]] ++ tks ib ++ [[44]] ++ tks ic ++ [[41]])
  have d2 := Db.sub (([[105, 102], [40]] : List By) ++ tks ia ++ [[44]]) ([[44]] ++ tks ic ++ [[41]])
  have d3 := Dc.sub (([[105, 102], [40]] : List By) ++ tks ia ++ [[44]] ++ tks ib ++ [[44]]) [[41]]
  rw [show ([[105, 102], [40]] : List By) ++ tks ia ++ ([[44]] ++ tks ib ++ [[44]] ++ tks ic ++ [[41]]) = ([[105, 102], [40]] : List By) ++ tks ia ++ [[44]] ++ tks ib ++ [[44]] ++ tks ic ++ [[41]] by simp] at d1
  rw [show ([[105, 102], [40]] : List By) ++ tks ia ++ [[44]] ++ tks ib ++ ([[44]] ++ tks ic ++ [[41]]) = ([[105, 102], [40]] : List By) ++ tks ia ++ [[44]] ++ tks ib ++ [[44]] ++ tks ic ++ [[41]] by simp] at d2
  have q1 : tAt (z0 (([[105, 102], [40]] : List By) ++ tks ia ++ [[44]] ++ tks ib ++ [[44]] ++ tks ic ++ [[41]])) (2 + (tks ia).length) = [44] := by
   rw [tAt_z0, show ([[105, 102], [40]] : List By) ++ tks ia ++ [[44]] ++ tks ib ++ [[44]] ++ tks ic ++ [[41]] = (([[105, 102], [40]] : List By) ++ tks ia) ++ ([44] :: (tks ib ++ [[44]] ++ tks ic ++ [[41]])) by simp, gd_right _ _ _ (by simp; omega)]
   rw [show 2 + (tks ia).length - (([[105, 102], [40]] : List By) ++ tks ia : List By).length = 0 by simp; omega]
   rfl
  have q2 : tAt (z0 (([[105, 102], [40]] : List By) ++ tks ia ++ [[44]] ++ tks ib ++ [[44]] ++ tks ic ++ [[41]])) (2 + (tks ia).length + 1 + (tks ib).length) = [44] := by
   rw [tAt_z0, show ([[105, 102], [40]] : List By) ++ tks ia ++ [[44]] ++ tks ib ++ [[44]] ++ tks ic ++ [[41]] = (([[105, 102], [40]] : List By) ++ tks ia ++ [[44]] ++ tks ib) ++ ([44] :: (tks ic ++ [[41]])) by simp, gd_right _ _ _ (by simp; omega)]
   rw [show 2 + (tks ia).length + 1 + (tks ib).length - (([[105, 102], [40]] : List By) ++ tks ia ++ [[44]] ++ tks ib : List By).length = 0 by simp; omega]
   rfl
  have q3 : tAt (z0 (([[105, 102], [40]] : List By) ++ tks ia ++ [[44]] ++ tks ib ++ [[44]] ++ tks ic ++ [[41]])) (2 + (tks ia).length + 1 + (tks ib).length + 1 + (tks ic).length) = [41] := by
   rw [tAt_z0, gd_right _ _ _ (by simp; omega)]
   rw [show 2 + (tks ia).length + 1 + (tks ib).length + 1 + (tks ic).length - (([[105, 102], [40]] : List By) ++ tks ia ++ [[44]] ++ tks ib ++ [[44]] ++ tks ic : List By).length = 0 by simp; omega]
   rfl
  rw [show ([[105, 102], [40]] : List By).length = 2 from rfl] at d1
  rw [show (([[105, 102], [40]] : List By) ++ tks ia ++ [[44]] : List By).length = 2 + (tks ia).length + 1 by simp; omega] at d2
  rw [show (([[105, 102], [40]] : List By) ++ tks ia ++ [[44]] ++ tks ib ++ [[44]] : List By).length = 2 + (tks ia).length + 1 + (tks ib).length + 1 by simp; omega] at d3
  rw [show (([[105, 102], [40]] : List By) ++ tks ia ++ [[44]] ++ tks ib ++ [[44]] ++ tks ic ++ [[41]] : List By).length = 2 + (tks ia).length + 1 + (tks ib).length + 1 + (tks ic).length + 1 by simp; omega]
  exact .ifs 0 _ _ _ pa pb pc (by rw [tAt_z0]; rfl) (by rw [tAt_z0]; rfl) d1 q1 d2 q2 d3 q3
 ·simp [txt, ahd, bhd, btw, ahdW, bhdW, btwW, numT, jn, ta, tb, tc]
theorem RI.ifs {a b c : By} {ma mb mc : Nat} (ha : RI 1 a ma) (hb : RI 1 b mb) (hc : RI 1 c mc) : RI 6 ([105, 102, 40] ++ a ++ [44, 32] ++ b ++ [44, 32] ++ c ++ [41]) (max ma (max mb mc) + 1) := by
 obtain ⟨pa, ha, fa⟩ := ha.rip
 obtain ⟨pb, hb, fb⟩ := hb.rip
 obtain ⟨pc, hc, fc⟩ := hc.rip
 refine (RIp.ifs ha hb hc).ri ?_
 intro x hx
 simp [mentP] at hx
 rcases hx with hx | hx | hx
 ·exact fa x hx
 ·exact fb x hx
 ·exact fc x hx
end
section
theorem few_facts : ∀ n : Fin 8, numB n.1 = [UInt8.ofNat (48 + n.1)] ∧ isD (UInt8.ofNat (48 + n.1)) = true ∧ headD (102 :: numB n.1) = false ∧ nameB (102 :: numB n.1) = true ∧ nmB (102 :: numB n.1) = 102 :: numB n.1 ∧ nuB (102 :: numB n.1) = 0 := by decide +kernel
theorem num_facts : ∀ n : Fin 10, numB n.1 = [UInt8.ofNat (48 + n.1)] ∧ isD (UInt8.ofNat (48 + n.1)) = true ∧ headD (numB n.1) = true ∧ nmB (numB n.1) = [] ∧ nuB (numB n.1) = n.1 := by decide +kernel
theorem RI.few (r : By) : RI 6 (fewB r).1 0 := by
 have hl := nextB_lt r 8 (by decide)
 obtain ⟨a1, a2, a3, a4, a5, a6⟩ := few_facts ⟨(nextB r 8).1, hl⟩
 simp only [fewB]
 simp only at a1 a2 a3 a4 a5 a6
 refine RI.one _ 2 (Or.inr (Or.inr (Or.inr (Or.inr ⟨_, by rw [a1], a2⟩)))) (by rw [a1]; simp) (Or.inr (Or.inl ⟨a3, a4, rfl⟩)) (by omega) ?_ ?_
 ·rw [a5, a6]
  simp [txt, ahd, bhd, btw, ahdW, bhdW, btwW, numT, jn]
 ·intro x hx
  rw [a5] at hx
  simp [mentP] at hx
  exact ⟨_, a2, by rw [← hx, a1]⟩
theorem RI.num (n : Nat) (hn : n < 10) : RI 6 (numB n) 0 := by
 obtain ⟨a1, a2, a3, a4, a5⟩ := num_facts ⟨n, hn⟩
 simp only at a1 a2 a3 a4 a5
 refine RI.one _ 1 (Or.inr (Or.inr (Or.inl ⟨_, a1, a2⟩))) ?_ (Or.inl ⟨a3, rfl⟩) (by omega) ?_ ?_
 ·intro e
  rw [e] at a3
  revert a3; decide
 ·rw [a4, a5]
  simp [txt, ahd, bhd, btw, ahdW, bhdW, btwW, numT, jn, numB]
 ·intro x hx
  simp [mentP] at hx
theorem RI.bool (k : Nat) (hk : k < 2) : RI 6 (pickB [[116, 114, 117, 101], [102, 97, 108, 115, 101]] k) 0 := by
 rcases (show k = 0 ∨ k = 1 by omega) with rfl | rfl
 ·refine RI.one [116, 114, 117, 101] 7 (Or.inr (Or.inr (Or.inr (Or.inl ⟨by simp, by decide, by simp⟩)))) (by decide) (Or.inr (Or.inr (Or.inr (by decide)))) (by omega) (by decide) ?_
  intro x hx
  simp [mentP] at hx
 ·refine RI.one [102, 97, 108, 115, 101] 8 (Or.inr (Or.inr (Or.inr (Or.inl ⟨by simp, by decide, by simp⟩)))) (by decide) (Or.inr (Or.inr (Or.inr (by decide)))) (by omega) (by decide) ?_
  intro x hx
  simp [mentP] at hx
theorem gword {x : By} (h : x ≠ [] ∧ (∀ y, y ∈ x → isL y = true) ∧ x.length ≤ 6) : GI x := Or.inr (Or.inr (Or.inr (Or.inl h)))
theorem gsign {x : By} (h : inB x signW = true) : GI x := Or.inr (Or.inl h)
theorem cmean {x : By} {k : Nat} (h : (x, k) ∈ meanN) : Cls x k := Or.inr (Or.inr (Or.inr h))
theorem ruleI : ∀ (d : Nat) (r : By), RI 1 (ruleB d r).1 (2 * d)
 | 0, r => by
  unfold ruleB
  split
  ·exact (RI.num _ (nextB_lt _ _ (by decide))).up 1 (by decide) (by decide) (by decide)
  ·split
   ·exact (RI.bool _ (nextB_lt _ _ (by decide))).up 1 (by decide) (by decide) (by decide)
   ·exact (RI.few _).up 1 (by decide) (by decide) (by decide)
 | d + 1, r => by
  unfold ruleB
  have ia := ruleI d r
  simp only
  generalize (nextB (ruleB d r).2 8).1 = k
  generalize (nextB (ruleB d r).2 8).2 = q
  have fq := fun q => RI.few q
  have iq := fun q => ruleI d q
  split
  ·exact ((RI.ifs ia ((fq q).up 1 (by decide) (by decide) (by decide)) (iq _)).up 1 (by decide) (by decide) (by decide)).le (by omega)
  ·split
   ·have := ((ia.br.up 3 (by decide) (by decide) (by decide)).nots).up 1 (by decide) (by decide) (by decide)
    simp only [List.append_assoc, List.cons_append, List.nil_append] at this ⊢
    exact this.le (by omega)
   ·split
    ·exact ((fq q).neg.up 1 (by decide) (by decide) (by decide)).le (by omega)
    ·split
     ·have hl := nextB_lt q 2 (by decide)
      rcases (show (nextB q 2).1 = 0 ∨ (nextB q 2).1 = 1 by omega) with h | h <;> rw [h]
      ·have := (RI.two (n := 2) (k := 4) (op := [97, 110, 100]) (by decide) (by decide) (ia.br.up 2 (by decide) (by decide) (by decide)) ((iq (nextB q 2).2).br.up 3 (by decide) (by decide) (by decide)) (gword ⟨by simp, by decide, by simp⟩) (by decide) (by decide) (cmean (by decide)) (by decide) (by decide)).up 1 (by decide) (by decide) (by decide)
       simp only [List.append_assoc, List.cons_append, List.nil_append, pickB, List.getD_cons_zero] at this ⊢
       exact this.le (by omega)
      ·have := (RI.two (n := 1) (k := 5) (op := [111, 114]) (by decide) (by decide) (ia.br.up 1 (by decide) (by decide) (by decide)) ((iq (nextB q 2).2).br.up 2 (by decide) (by decide) (by decide)) (gword ⟨by simp, by decide, by simp⟩) (by decide) (by decide) (cmean (by decide)) (by decide) (by decide))
       simp only [List.append_assoc, List.cons_append, List.nil_append, pickB, List.getD_cons_zero, List.getD_cons_succ] at this ⊢
       exact this.le (by omega)
     ·split
      ·have hl := nextB_lt q 2 (by decide)
       rcases (show (nextB q 2).1 = 0 ∨ (nextB q 2).1 = 1 by omega) with h | h <;> rw [h]
       ·have := (RI.two (n := 3) (k := 18) (op := [61]) (by decide) (by decide) (ia.br.up 4 (by decide) (by decide) (by decide)) ((fq (nextB q 2).2).up 4 (by decide) (by decide) (by decide)) (gsign (by decide)) (by decide) (by decide) (cmean (by decide)) (by decide) (by decide)).up 1 (by decide) (by decide) (by decide)
        simp only [List.append_assoc, List.cons_append, List.nil_append, pickB, List.getD_cons_zero] at this ⊢
        exact this.le (by omega)
       ·have := (RI.two (n := 3) (k := 19) (op := [60]) (by decide) (by decide) (ia.br.up 4 (by decide) (by decide) (by decide)) ((fq (nextB q 2).2).up 4 (by decide) (by decide) (by decide)) (gsign (by decide)) (by decide) (by decide) (cmean (by decide)) (by decide) (by decide)).up 1 (by decide) (by decide) (by decide)
        simp only [List.append_assoc, List.cons_append, List.nil_append, pickB, List.getD_cons_zero, List.getD_cons_succ] at this ⊢
        exact this.le (by omega)
      ·have hl := nextB_lt q 5 (by decide)
       have tw : ∀ (n k : Nat) (op : By), 4 ≤ n → n ≤ 5 → GI op → op ≠ [32] → inB op (sgn n) = true → Cls op k → k ≠ 2 → (btw k = 32 :: op ++ [32] ∧ ahd k = [] ∧ bhd k = [] ∧ k ≠ 1) → RI 1 ([40] ++ (ruleB d r).1 ++ [41, 32] ++ op ++ [32] ++ (fewB (nextB q 5).2).1) (2 * (d + 1)) := by
        intro n k op h4 h5 hg h32 hs hc hk hbt
        have := (RI.two (n := n) (k := k) (op := op) (by omega) h5 (by rw [if_neg (by omega)]; exact ia.br.up n (by omega) (by omega) (by decide)) ((fq (nextB q 5).2).up (n + 1) (by omega) (by omega) (by decide)) hg h32 hs hc hk hbt).up 1 (by decide) (by omega) (by omega)
        simp only [List.append_assoc, List.cons_append, List.nil_append] at this ⊢
        exact this.le (by omega)
       rcases (show (nextB q 5).1 = 0 ∨ (nextB q 5).1 = 1 ∨ (nextB q 5).1 = 2 ∨ (nextB q 5).1 = 3 ∨ (nextB q 5).1 = 4 by omega) with h | h | h | h | h <;> rw [h]
       ·exact tw 4 12 [43] (by decide) (by decide) (gsign (by decide)) (by decide) (by decide) (cmean (by decide)) (by decide) (by decide)
       ·exact tw 4 13 [45] (by decide) (by decide) (gsign (by decide)) (by decide) (by decide) (cmean (by decide)) (by decide) (by decide)
       ·exact tw 5 15 [42] (by decide) (by decide) (gsign (by decide)) (by decide) (by decide) (cmean (by decide)) (by decide) (by decide)
       ·exact tw 5 16 [47] (by decide) (by decide) (gsign (by decide)) (by decide) (by decide) (cmean (by decide)) (by decide) (by decide)
       ·exact tw 5 17 [37] (by decide) (by decide) (gsign (by decide)) (by decide) (by decide) (cmean (by decide)) (by decide) (by decide)
end
end Go.Proofs.YtihgojcfpnhelabGreatDoor
