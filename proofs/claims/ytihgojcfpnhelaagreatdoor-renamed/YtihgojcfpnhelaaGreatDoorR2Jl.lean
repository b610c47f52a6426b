import Derived.Test.YtihgojcfpnhelaaGreatDoorR2Ke
import Derived.Test.YtihgojcfpnhelaaGreatDoorR2Kf
import Derived.Test.YtihgojcfpnhelaaGreatDoorR2Kg
import Derived.Test.YtihgojcfpnhelaaGreatDoorR2Kh
import Derived.Test.YtihgojcfpnhelaaGreatDoorR2Mj
import Derived.Test.YtihgojcfpnhelaaGreatDoorR2Jc
set_option maxRecDepth 100000
set_option maxHeartbeats 4000000
set_option linter.unusedVariables false
set_option linter.unusedSimpArgs false
namespace Go.Proofs.YtihgojcfpnhelaaGreatDoor
open Go.RowKit
section
theorem ruleB_len3 (d : Nat) (hd : d ≤ 3) (r : By) : (ruleB d r).1.length ≤ 117 := by
 have h1 := ruleB_len d r
 have h2 : 2 ^ d ≤ 2 ^ 3 := Nat.pow_le_pow_right (by decide) hd
 omega
theorem keep_rule (b : Nat) : ∀ (d : Nat), d ≤ 3 → ∀ (r : By) (z : Int) (w : World), FeedAt w b r → z = (d : Int) → Calls Tryz.prog 15 #[.pointer (some ⟨b, 0, none⟩), .int .i64 z] w (RulePost b (ruleB d r) w)
 | 0, _, r, z, w, h, hz => by
  subst hz
  unfold ruleB
  split
  ·rename_i hx
   exact rule0_num b r w h hx
  ·rename_i hx
   split
   ·rename_i hx1
    have hl := nextB_lt (nextB r 5).2 2 (by decide)
    rcases (show (nextB (nextB r 5).2 2).1 = 0 ∨ (nextB (nextB r 5).2 2).1 = 1 by omega) with hy | hy
    ·have := rule0_word0 b r w h hx1 hy
     rw [hy]
     exact this
    ·have := rule0_word1 b r w h hx1 hy
     rw [hy]
     exact this
   ·rename_i hx1
    exact rule0_few b r w h hx hx1
 | d + 1, hd, r, z, w, h, hz => by
  have hi := keep_rule b d (by omega)
  have hz' : z = (d : Int) + 1 := by omega
  have hz0 : (z == 0) = false := by simp; omega
  have hw : wrap64 (z - 1) = (d : Int) := by unfold wrap64; omega
  have H1 : ∀ r, Fd1 b (.string ⟨((ruleB d r).1).toArray⟩) r (ruleB d r).2 15 #[.pointer (some ⟨b, 0, none⟩), .int .i64 (wrap64 (z - 1))] := fun r W hW => hi r _ W hW hw
  have hw2 : IntKind.i64.wrap (z - 1) = (d : Int) := by
   rw [show IntKind.i64.wrap (z - 1) = wrap64 (z - 1) by simp only [IntKind.wrap_i64, wrap64]]
   exact hw
  have H1' : ∀ r, Fd1 b (.string ⟨((ruleB d r).1).toArray⟩) r (ruleB d r).2 15 #[.pointer (some ⟨b, 0, none⟩), .int .i64 (IntKind.i64.wrap (z - 1))] := fun r W hW => hi r _ W hW hw2
  have N : ∀ (r : By) (n : Nat) (k : Nat), 0 < n → n ≤ 1000 → (nextB r n).1 = k → Fd1 b (.int .i64 (k : Int)) r (nextB r n).2 16 #[.pointer (some ⟨b, 0, none⟩), .int .i64 (n : Int)] := fun r n k h0 h1 hk W hW => by
   subst hk
   exact keep_next b r n W h0 h1 hW
  have F : ∀ r, Fd1 b (.string ⟨((fewB r).1).toArray⟩) r (fewB r).2 41 #[.pointer (some ⟨b, 0, none⟩)] := fun r W hW => keep_few b r W hW
  have la : ∀ r, (ruleB d r).1.length ≤ 300 := fun r => by have := ruleB_len3 d (by omega) r; omega
  have lf := fun r => fewB_len r
  have hk8 := nextB_lt (ruleB d r).2 8 (by decide)
  unfold ruleB
  simp only
  split
  ·rename_i hx
   exact ruleS_if b d r z w h hz' (by omega) hi hx
  ·split
   ·rename_i hx
    exact ruleS_not b d r z w h hz' (by omega) hi hx
   ·split
    ·rename_i hx
     exact ruleS_neg b d r z w h hz' (by omega) hi hx
    ·split
     ·rename_i hx
      have hl := nextB_lt (nextB (ruleB d r).2 8).2 2 (by decide)
      rcases (show (nextB (nextB (ruleB d r).2 8).2 2).1 = 0 ∨ (nextB (nextB (ruleB d r).2 8).2 2).1 = 1 by omega) with hy | hy
      ·have := ruleS_logic0 b z w _ _ r _ _ _ _ h hz0 (la _) (la (nextB (nextB (ruleB d r).2 8).2 2).2) (H1 r) (N _ 8 3 (by decide) (by decide) hx) (N _ 2 0 (by decide) (by decide) hy) (H1' _)
       rw [hy]
       exact this
      ·have := ruleS_logic1 b z w _ _ r _ _ _ _ h hz0 (la _) (la (nextB (nextB (ruleB d r).2 8).2 2).2) (H1 r) (N _ 8 3 (by decide) (by decide) hx) (N _ 2 1 (by decide) (by decide) hy) (H1' _)
       rw [hy]
       exact this
     ·split
      ·rename_i hx
       have hl := nextB_lt (nextB (ruleB d r).2 8).2 2 (by decide)
       rcases (show (nextB (nextB (ruleB d r).2 8).2 2).1 = 0 ∨ (nextB (nextB (ruleB d r).2 8).2 2).1 = 1 by omega) with hy | hy
       ·have := ruleS_test0 b z w _ _ r _ _ _ _ h hz0 (la _) (lf (nextB (nextB (ruleB d r).2 8).2 2).2) (H1 r) (N _ 8 4 (by decide) (by decide) hx) (N _ 2 0 (by decide) (by decide) hy) (F _)
        rw [hy]
        exact this
       ·have := ruleS_test1 b z w _ _ r _ _ _ _ h hz0 (la _) (lf (nextB (nextB (ruleB d r).2 8).2 2).2) (H1 r) (N _ 8 4 (by decide) (by decide) hx) (N _ 2 1 (by decide) (by decide) hy) (F _)
        rw [hy]
        exact this
      ·rename_i x0 x1 x2 x3 x4
       have hl := nextB_lt (nextB (ruleB d r).2 8).2 5 (by decide)
       have e0 : (((nextB (ruleB d r).2 8).1 : Int) == 0) = false := by simp; omega
       have e1 : (((nextB (ruleB d r).2 8).1 : Int) == 1) = false := by simp; omega
       have e2 : (((nextB (ruleB d r).2 8).1 : Int) == 2) = false := by simp; omega
       have e3 : (((nextB (ruleB d r).2 8).1 : Int) == 3) = false := by simp; omega
       have e4 : (((nextB (ruleB d r).2 8).1 : Int) == 4) = false := by simp; omega
       rcases (show (nextB (nextB (ruleB d r).2 8).2 5).1 = 0 ∨ (nextB (nextB (ruleB d r).2 8).2 5).1 = 1 ∨ (nextB (nextB (ruleB d r).2 8).2 5).1 = 2 ∨ (nextB (nextB (ruleB d r).2 8).2 5).1 = 3 ∨ (nextB (nextB (ruleB d r).2 8).2 5).1 = 4 by omega) with hy | hy | hy | hy | hy
       ·have := ruleS_sum0 b z w _ _ r _ _ _ _ h hz0 (la _) (lf (nextB (nextB (ruleB d r).2 8).2 5).2) (H1 r) _ e0 e1 e2 e3 e4 (N _ 8 _ (by decide) (by decide) rfl) (N _ 5 0 (by decide) (by decide) hy) (F _)
        rw [hy]
        exact this
       ·have := ruleS_sum1 b z w _ _ r _ _ _ _ h hz0 (la _) (lf (nextB (nextB (ruleB d r).2 8).2 5).2) (H1 r) _ e0 e1 e2 e3 e4 (N _ 8 _ (by decide) (by decide) rfl) (N _ 5 1 (by decide) (by decide) hy) (F _)
        rw [hy]
        exact this
       ·have := ruleS_sum2 b z w _ _ r _ _ _ _ h hz0 (la _) (lf (nextB (nextB (ruleB d r).2 8).2 5).2) (H1 r) _ e0 e1 e2 e3 e4 (N _ 8 _ (by decide) (by decide) rfl) (N _ 5 2 (by decide) (by decide) hy) (F _)
        rw [hy]
        exact this
       ·have := ruleS_sum3 b z w _ _ r _ _ _ _ h hz0 (la _) (lf (nextB (nextB (ruleB d r).2 8).2 5).2) (H1 r) _ e0 e1 e2 e3 e4 (N _ 8 _ (by decide) (by decide) rfl) (N _ 5 3 (by decide) (by decide) hy) (F _)
        rw [hy]
        exact this
       ·have := ruleS_sum4 b z w _ _ r _ _ _ _ h hz0 (la _) (lf (nextB (nextB (ruleB d r).2 8).2 5).2) (H1 r) _ e0 e1 e2 e3 e4 (N _ 8 _ (by decide) (by decide) rfl) (N _ 5 4 (by decide) (by decide) hy) (F _)
        rw [hy]
        exact this
end
section
attribute [local go_sem] idx_eq app_eq
def lineB (r : By) : By :=
 if (nextB r 8).1 = 0 then [100, 101, 108, 101, 116, 101, 32] ++ (fewB (nextB r 8).2).1
 else if (nextB r 8).1 = 1 then [114, 101, 110, 97, 109, 101, 32] ++ (fewB (nextB r 8).2).1 ++ [32] ++ (fewB (fewB (nextB r 8).2).2).1
 else [115, 101, 116, 32] ++ (fewB (nextB r 8).2).1 ++ [32, 61, 32] ++ (ruleB (nextB (fewB (nextB r 8).2).2 3).1 (nextB (fewB (nextB r 8).2).2 3).2).1
theorem line_del (b : Nat) (r : By) (w : World) (h0 : FeedAt w b r) (hx : (nextB r 8).1 = 0) :
  Calls Tryz.prog 34 #[.pointer (some ⟨b, 0, none⟩)] w fun e w' => e = .returned (.string ⟨([100, 101, 108, 101, 116, 101, 32] ++ (fewB (nextB r 8).2).1).toArray⟩) ∧ KeepB b w w' := by
 have lf := fewB_len (nextB r 8).2
 have HX := tZ hx
 clear hx
 go_enter Tryz.func34, Tryz.ntmps34
 go_wp2_with (first | (go_at_call 16; refine (keep_nextZ b _ 8 8 w h0 (by decide)).mono ?_; rintro e w1 ⟨rfl, hf1, hb1⟩; rw [HX.out]; refine Hid.out ?_))
 refine tZ ?_
 go_wp2_with (first | (go_at_call 41; refine (keep_few b _ w1 hf1).mono ?_; rintro e w2 ⟨rfl, hf2, hb2⟩))
 go_ret
 refine ⟨?_, hb1.trans hb2⟩
 first | rfl | (simp; done)
theorem line_ren (b : Nat) (r : By) (w : World) (h0 : FeedAt w b r) (hx : (nextB r 8).1 = 1) :
  Calls Tryz.prog 34 #[.pointer (some ⟨b, 0, none⟩)] w fun e w' => e = .returned (.string ⟨([114, 101, 110, 97, 109, 101, 32] ++ (fewB (nextB r 8).2).1 ++ [32] ++ (fewB (fewB (nextB r 8).2).2).1).toArray⟩) ∧ KeepB b w w' := by
 have lf := fewB_len (nextB r 8).2
 have lg := fewB_len (fewB (nextB r 8).2).2
 have HX := tZ hx
 clear hx
 go_enter Tryz.func34, Tryz.ntmps34
 go_wp2_with (first | (go_at_call 16; refine (keep_nextZ b _ 8 8 w h0 (by decide)).mono ?_; rintro e w1 ⟨rfl, hf1, hb1⟩; rw [HX.out]; refine Hid.out ?_))
 refine tZ ?_
 go_wp2_with (first | (go_at_call 41; refine (keep_few b _ w1 hf1).mono ?_; rintro e w2 ⟨rfl, hf2, hb2⟩; refine Hid.out ?_))
 refine tZ ?_
 go_wp2_with (first | (go_at_call 41; refine (keep_few b _ w2 hf2).mono ?_; rintro e w3 ⟨rfl, hf3, hb3⟩))
 go_ret
 refine ⟨?_, (hb1.trans hb2).trans hb3⟩
 first | rfl | (simp; done)
theorem line_sets (b : Nat) (r : By) (w : World) (h0 : FeedAt w b r) (hx : (nextB r 8).1 ≠ 0) (hx1 : (nextB r 8).1 ≠ 1) :
  Calls Tryz.prog 34 #[.pointer (some ⟨b, 0, none⟩)] w fun e w' => e = .returned (.string ⟨([115, 101, 116, 32] ++ (fewB (nextB r 8).2).1 ++ [32, 61, 32] ++ (ruleB (nextB (fewB (nextB r 8).2).2 3).1 (nextB (fewB (nextB r 8).2).2 3).2).1).toArray⟩) ∧ KeepB b w w' := by
 have lf := fewB_len (nextB r 8).2
 have hb0 : (((nextB r 8).1 : Int) == 0) = false := by simp; omega
 have hb1' : (((nextB r 8).1 : Int) == 1) = false := by simp; omega
 have hd : (nextB (fewB (nextB r 8).2).2 3).1 ≤ 3 := by have := nextB_lt (fewB (nextB r 8).2).2 3 (by decide); omega
 have lr : (ruleB (nextB (fewB (nextB r 8).2).2 3).1 (nextB (fewB (nextB r 8).2).2 3).2).1.length ≤ 300 := by
  have h1 := ruleB_len (nextB (fewB (nextB r 8).2).2 3).1 (nextB (fewB (nextB r 8).2).2 3).2
  have h2 : 2 ^ (nextB (fewB (nextB r 8).2).2 3).1 ≤ 2 ^ 3 := Nat.pow_le_pow_right (by decide) hd
  omega
 have HR := tZ (fun (W : World) (h : FeedAt W b (nextB (fewB (nextB r 8).2).2 3).2) => keep_rule b (nextB (fewB (nextB r 8).2).2 3).1 hd (nextB (fewB (nextB r 8).2).2 3).2 _ W h rfl)
 unfold RulePost at HR
 clear hx hx1 hd
 go_enter Tryz.func34, Tryz.ntmps34
 go_wp2_with (first | (go_at_call 16; refine (keep_nextZ b _ 8 8 w h0 (by decide)).mono ?_; rintro e w1 ⟨rfl, hf1, hb1⟩; refine Hid.out ?_))
 refine tZ ?_
 go_wp2_with (first | (go_at_call 41; refine (keep_few b _ w1 hf1).mono ?_; rintro e w2 ⟨rfl, hf2, hb2⟩; refine Hid.out ?_))
 refine tZ ?_
 go_wp2_with (first | (go_at_call 16; refine (keep_nextZ b _ 3 3 w2 hf2 (by decide)).mono ?_; rintro e w3 ⟨rfl, hf3, hb3⟩; refine Hid.out ?_))
 refine tZ ?_
 go_wp2_with (first | (go_at_call 15; refine (HR.out w3 hf3).mono ?_; rintro e w4 ⟨rfl, hf4, hb4⟩))
 go_ret
 refine ⟨?_, ((hb1.trans hb2).trans hb3).trans hb4⟩
 first | rfl | (simp; done)
theorem keep_line (b : Nat) (r : By) (w : World) (h0 : FeedAt w b r) :
  Calls Tryz.prog 34 #[.pointer (some ⟨b, 0, none⟩)] w fun e w' => e = .returned (.string ⟨(lineB r).toArray⟩) ∧ KeepB b w w' := by
 unfold lineB
 split
 ·rename_i h; exact line_del b r w h0 h
 ·rename_i h
  split
  ·rename_i h1; exact line_ren b r w h0 h1
  ·rename_i h1; exact line_sets b r w h0 h h1
end
section
theorem fewB_fN (r : By) : (fewB r).1 = fN (nextB r 8).1 := by
 have h := nextB_lt r 8 (by decide)
 have := (dg_facts (nextB r 8).1 (by omega)).2.2.2
 simp only [fewB, numB, this]
 rfl
theorem RIp.reads {s : By} {m : Nat} {p : Pt} (h : RIp 1 s m p) (f k : Nat) (hf : s.length ≤ f) : ∃ ts, toks f s k = (ts, none) ∧ Der ts 1 0 ts.length p := by
 obtain ⟨its, rfl, hg, ho, hD, ht, hop⟩ := h
 refine ⟨_, toks_items its f k (ho [] (Or.inl rfl)) hf, ?_⟩
 have hlen : (tokI its k).length = (tks its).length := by rw [← tokI_fst its k, List.length_map]
 rw [hlen]
 have := hD.like (ts' := tokI its k) 0 (fun i _ _ => ?_) (by omega)
 ·exact this
 ·rw [tAt_z0, tAt_fst, tokI_fst]
  exact Or.inl rfl
theorem RIp.facts {n m : Nat} {s : By} {p : Pt} (h : RIp n s m p) : txt p = s ∧ opn p ≤ m := by
 obtain ⟨its, _, _, _, _, ht, hop⟩ := h
 exact ⟨ht, hop⟩
noncomputable def rlP (d : Nat) (r : By) : Pt := Classical.choose (ruleI d r).rip
theorem rlP_rip (d : Nat) (r : By) : RIp 1 (ruleB d r).1 (2 * d) (rlP d r) ∧ MF (rlP d r) := Classical.choose_spec (ruleI d r).rip
theorem rlP_facts (d : Nat) (r : By) : txt (rlP d r) = (ruleB d r).1 ∧ opn (rlP d r) ≤ 2 * d ∧ MF (rlP d r) ∧ ∀ f k, (ruleB d r).1.length ≤ f → ∃ ts, toks f (ruleB d r).1 k = (ts, none) ∧ Der ts 1 0 ts.length (rlP d r) :=
 ⟨(rlP_rip d r).1.facts.1, (rlP_rip d r).1.facts.2, (rlP_rip d r).2, (rlP_rip d r).1.reads⟩
noncomputable def lnB (r : By) : Ln :=
 if (nextB r 8).1 = 0 then .del (fewB (nextB r 8).2).1
 else if (nextB r 8).1 = 1 then .ren (fewB (nextB r 8).2).1 (fewB (fewB (nextB r 8).2).2).1
 else .set (fewB (nextB r 8).2).1 (rlP (nextB (fewB (nextB r 8).2).2 3).1 (nextB (fewB (nextB r 8).2).2 3).2)
theorem toks_ren (x y : By) (hx : NmOk x) (hy : NmOk y) : toksOf ([114, 101, 110, 97, 109, 101, 32] ++ x ++ [32] ++ y) = ([([114, 101, 110, 97, 109, 101], 0), (x, 7), (y, 7 + x.length + 1)], none) := by
 have r1 := rowLen_app x (32 :: y) hx.ti fun _ => Or.inr ⟨32, _, rfl, by decide⟩
 have r2 := rowLen_app y [] hy.ti fun _ => Or.inl rfl
 obtain ⟨c, r, rfl, hc, hok, _⟩ := hx.ti
 obtain ⟨c', r', rfl, hc', hok', _⟩ := hy.ti
 have e0 : toksOf ([114, 101, 110, 97, 109, 101, 32] ++ (c :: r) ++ [32] ++ (c' :: r')) = toks (r.length + r'.length + 9 + 1) ([114, 101, 110, 97, 109, 101] ++ (32 :: ((c :: r) ++ (32 :: ((c' :: r') ++ []))))) 0 := by
  unfold toksOf
  rw [show ([114, 101, 110, 97, 109, 101, 32] ++ (c :: r) ++ [32] ++ (c' :: r') : By).length = r.length + r'.length + 9 + 1 by simp; omega]
  simp
 rw [e0, toks_to (r.length + r'.length + 9) 114 [101, 110, 97, 109, 101] _ 0 (by decide) (by simp [rowLen, show isL 114 = true from by decide, show isLD 101 = true from by decide, show isLD 110 = true from by decide, show isLD 97 = true from by decide, show isLD 109 = true from by decide, show isLD 32 = false from by decide]) (by decide)]
 rw [show r.length + r'.length + 9 = r.length + r'.length + 8 + 1 by omega, toks_sp, show r.length + r'.length + 8 = r.length + r'.length + 7 + 1 by omega]
 have r1' : rowLen (c :: r ++ 32 :: ((c' :: r') ++ [])) = (c :: r).length := by simpa using r1
 rw [toks_to (r.length + r'.length + 7) c r _ _ hc r1' hok, show r.length + r'.length + 7 = r.length + r'.length + 6 + 1 by omega, toks_sp, show r.length + r'.length + 6 = r.length + r'.length + 5 + 1 by omega, toks_to (r.length + r'.length + 5) c' r' [] _ hc' r2 hok', toks_nil]
 simp
theorem isLn_ren (x y : By) (hx : NmOk x) (hy : NmOk y) (ox : NmO x) (oy : NmO y) : IsLn ([114, 101, 110, 97, 109, 101, 32] ++ x ++ [32] ++ y) (.ren x y) := by
 refine isLn ⟨ox, oy⟩ (Or.inr (Or.inr ⟨?_, _, toks_ren x y hx hy, Or.inl ⟨2, by decide, ?_, ?_⟩⟩))
 ·have := ox.2
  have := oy.2
  simp
  omega
 ·show ([114, 101, 110, 97, 109, 101] : By) = _
  simp [nT, tAt]
  decide
 ·refine Or.inr ⟨fun i hi => ?_, Or.inr (Or.inl ⟨rfl, by simp [kN, headsW], ?_⟩)⟩
  ·have hi2 : i < 2 := hi
   rcases (show i = 0 ∨ i = 1 by omega) with rfl | rfl
   ·simp [kN, tAt, hx.k2]
   ·simp [kN, tAt, hy.k2]
  ·show LnR.ok 3 [x, y] none = _
   have : namesT [([114, 101, 110, 97, 109, 101], 0), (x, 7), (y, 7 + x.length + 1)] 1 2 = [x, y] := by simp [namesT, nT, tAt, hx.nmb, hy.nmb, List.range_succ]
   rw [← this]
   rfl
theorem isLn_line (r : By) : IsLn (lineB r) (lnB r) := by
 unfold lineB lnB
 have n1 := nextB_lt (nextB r 8).2 8 (by decide)
 have n2 := nextB_lt (fewB (nextB r 8).2).2 8 (by decide)
 rw [fewB_fN (nextB r 8).2, fewB_fN (fewB (nextB r 8).2).2]
 split
 ·exact isLn_delete _ (fN_ok _ (by omega)) (fN_o _)
 ·split
  ·exact isLn_ren _ _ (fN_ok _ (by omega)) (fN_ok _ (by omega)) (fN_o _) (fN_o _)
  ·have n3 := nextB_lt (fewB (nextB r 8).2).2 3 (by decide)
   obtain ⟨h1, h2, _, h4⟩ := rlP_facts (nextB (fewB (nextB r 8).2).2 3).1 (nextB (fewB (nextB r 8).2).2 3).2
   have hl : (ruleB (nextB (fewB (nextB r 8).2).2 3).1 (nextB (fewB (nextB r 8).2).2 3).2).1.length ≤ 53 := by
    have := ruleB_len (nextB (fewB (nextB r 8).2).2 3).1 (nextB (fewB (nextB r 8).2).2 3).2
    have : 2 ^ (nextB (fewB (nextB r 8).2).2 3).1 ≤ 2 ^ 2 := Nat.pow_le_pow_right (by decide) (by omega)
    omega
   obtain ⟨ts, ht, hD⟩ := h4 ((ruleB (nextB (fewB (nextB r 8).2).2 3).1 (nextB (fewB (nextB r 8).2).2 3).2).1.length + (fN (nextB (nextB r 8).2 8).1).length + 1) (4 + (fN (nextB (nextB r 8).2 8).1).length + 3) (by omega)
   have := isLn_set (fN_ok _ (by omega)) (fN_o _) (by simp [fN]; omega) ht hD (by omega) (by rw [h1]; omega)
   simpa [setN] using this
end
end Go.Proofs.YtihgojcfpnhelaaGreatDoor
