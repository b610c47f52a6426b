import Derived.Test.YtihgojcfpnhelabGreatDoorS2Xbb
set_option maxRecDepth 100000
set_option maxHeartbeats 4000000
set_option linter.unusedVariables false
set_option linter.unusedSimpArgs false
namespace Go.Proofs.YtihgojcfpnhelabGreatDoor
open Go.RowKit
section
theorem atomB_plain (t : By) (k d : Nat) (h : Cls t k) (hk : k = 1 ∨ k = 2 ∨ k = 7 ∨ k = 8) : atomB t d = [t] := by
 have hne : t ≠ [] := by
  rcases h with ⟨h, _⟩ | ⟨_, h, _⟩ | ⟨_, h⟩ | h
  ·rintro rfl; cases h
  ·rintro rfl; cases h
  ·omega
  ·exact (show ∀ x, x ∈ meanN → x.1 ≠ [] by decide) _ h
 have hc : (headD t || t = [116, 114, 117, 101] || t = [102, 97, 108, 115, 101] || nameB t) = true := by
  rcases h with ⟨h, _⟩ | ⟨_, h, _⟩ | ⟨_, h⟩ | h
  ·simp [h]
  ·simp [h]
  ·omega
  ·simp only [meanN, List.mem_cons, List.not_mem_nil, or_false, Prod.mk.injEq] at h
   rcases h with ⟨rfl, rfl⟩ | ⟨rfl, rfl⟩ | ⟨rfl, rfl⟩ | ⟨rfl, rfl⟩ | ⟨rfl, rfl⟩ | ⟨rfl, rfl⟩ | ⟨rfl, rfl⟩ | ⟨rfl, rfl⟩ | ⟨rfl, rfl⟩ | ⟨rfl, rfl⟩ | ⟨rfl, rfl⟩ | ⟨rfl, rfl⟩ | ⟨rfl, rfl⟩ | ⟨rfl, rfl⟩ | ⟨rfl, rfl⟩ | ⟨rfl, rfl⟩ <;> first | decide | omega
 unfold atomB
 rw [if_neg hne, if_pos hc]
theorem atomB_none (t : By) (k d : Nat) (h : Cls t k) (hk : k ≠ 1 ∧ k ≠ 2 ∧ k ≠ 7 ∧ k ≠ 8 ∧ k ≠ 3) (h9 : k ≠ 9) (h13 : k ≠ 13) : atomB t d = [wNone] := by
 rcases h with ⟨_, h⟩ | ⟨_, _, h⟩ | ⟨rfl, _⟩ | h
 ·omega
 ·omega
 ·rfl
 ·simp only [meanN, List.mem_cons, List.not_mem_nil, or_false, Prod.mk.injEq] at h
  rcases h with ⟨rfl, rfl⟩ | ⟨rfl, rfl⟩ | ⟨rfl, rfl⟩ | ⟨rfl, rfl⟩ | ⟨rfl, rfl⟩ | ⟨rfl, rfl⟩ | ⟨rfl, rfl⟩ | ⟨rfl, rfl⟩ | ⟨rfl, rfl⟩ | ⟨rfl, rfl⟩ | ⟨rfl, rfl⟩ | ⟨rfl, rfl⟩ | ⟨rfl, rfl⟩ | ⟨rfl, rfl⟩ | ⟨rfl, rfl⟩ | ⟨rfl, rfl⟩ <;> first | rfl | omega
theorem atomB_open (d : Nat) (hd : d < 6) : atomB [40] d = brS 1 (d + 1) := by
 show deepB [40] 82 d ++ [[41]] = _
 unfold deepB
 rw [if_neg (by omega)]
 rfl
theorem atomB_open6 : atomB [40] 6 = [wDeep, [41]] := by decide
theorem atomB_if (d : Nat) (hd : d < 6) : atomB [105, 102] d = [105, 102] :: brS 3 (d + 1) := by
 unfold atomB
 rw [if_neg (by decide), if_neg (by decide), if_neg (by decide), if_neg (by decide), if_neg (by simp; omega), if_pos rfl]
 rfl
theorem atomB_if6 : atomB [105, 102] 6 = [[105, 102], wOpen] := by decide
section
variable {len : Nat} {ts : List (By × Nat)} {b bl cp : Nat}
theorem LvPost.form {S : List By} {D : Nat → Pt → Prop} {c1 i d : Nat} {e : Int} {w : World} {r : Ending} {w' : World} (h : LvPost len ts S D c1 b bl cp i d e w r w') : ∃ (z : Bool) (k n : Int) (s : By) (a : Option Addr) (l c : Nat), r = .returned (.tuple #[.agg #[.int .i64 k, .string ⟨s.toArray⟩, .int .i64 n, .slice a l c], .bool z]) := by
 rcases h with ⟨_, _, p, a, l, c, h, _⟩ | ⟨_, _, _, _, k, n, s, a, l, c, h, _⟩
 ·exact ⟨_, _, _, _, _, _, _, h⟩
 ·exact ⟨_, _, _, _, _, _, _, h⟩
theorem LvPost.kp {S : List By} {D : Nat → Pt → Prop} {c1 i d : Nat} {e : Int} {w : World} {r : Ending} {w' : World} (h : LvPost len ts S D c1 b bl cp i d e w r w') : Kp b w w' := by
 rcases h with ⟨_, _, p, a, l, c, _, _, _, _, _, h, _⟩ | ⟨_, _, _, _, k, n, s, a, l, c, _, _, _, h, _⟩
 ·exact h
 ·exact h
theorem LvPost.lift {S S' : List By} {D D' : Nat → Pt → Prop} {c1 c1' x i i0 d : Nat} {e : Int} {w W : World} {r : Ending} {w2 : World} (h : LvPost len ts S D c1 b bl cp i d e W r w2) (hK : Kp b w W) (hg : w.heap.size < W.heap.size) (hb : b < w.heap.size) (hle : i ≤ ts.length) (hi : i0 ≤ i)
  (hx : x + c1' ≤ c1 + 20 * (i - i0)) (hD : ∀ i' p, D i' p → D' i' p) (hgo : ∀ i' m, Go1 len ts S i i' m → Go1 len ts S' i0 i' (m + x)) (hno : ∀ er p m, No1 len ts S i er p m → No1 len ts S' i0 er p (m + x)) (v0 v1 v2 v3 : Value) :
  LvPost len ts S' D' c1' b bl cp i0 d e w r ((((w2.setCell ⟨w.heap.size, 0, none⟩ v0).setCell ⟨w.heap.size, 1, none⟩ v1).setCell ⟨w.heap.size, 2, none⟩ v2).setCell ⟨w.heap.size, 3, none⟩ v3) := by
 rcases h with ⟨i', m, p, a, l, c, hr, hp, hd, hS, hii, hk, hm, hg1⟩ | ⟨i', m, d', er, k, n, s, a, l, c, hr, hrd, her, hk, hm, hn1⟩
 ·refine Or.inl ⟨i', m + x, p, a, l, c, hr, (hp.next fun q hq => ?_).wide fun q hq => ?_, hD _ _ hd, hS.store4 w.heap.size _ _ _ _ hb, by omega, (hK.trans hk).there4 w.heap.size _ _ _ _ (Nat.le_refl _) hb, by omega, hgo _ _ hg1⟩
  ·exact heap4 w2 w.heap.size v0 v1 v2 v3 (by omega)
  ·rw [size4]; omega
 ·exact Or.inr ⟨i', m + x, d', er, k, n, s, a, l, c, hr, hrd.store4 w.heap.size _ _ _ _ hb, her, (hK.trans hk).there4 w.heap.size _ _ _ _ (Nat.le_refl _) hb, by omega, hno _ _ _ hn1⟩
theorem br_all (hok : OkT ts) (F : Nat) (IH : LvAll len ts b bl cp F) (kd R i d : Nat) (hR : R = 1 ∨ (R = 3 ∧ kd = 3)) (e : Int) (w : World) (hd : d ≤ 6) (hF : 10 * (ts.length - i) < F) (hS : St len ts w b bl cp i d e) (S : List By)
  (h1 : d < 6 → tAt ts i = [40] → S = brS R (d + 1)) (h2 : d = 6 → tAt ts i = [40] → No1 len ts S i 4 (pAt len ts i) 2) (h3 : tAt ts i ≠ [40] → No1 len ts S i 3 (pAt len ts i) 2) :
  Calls Tryz.prog 150 #[.pointer (some ⟨b, 0, none⟩), .int .i64 (kd : Int), .int .i64 (R : Int)] w (LvPost len ts S (BrD ts i kd R) 14 b bl cp i d e w) := by
 have hlt := hS.rd.lt
 by_cases hop : tAt ts i = [40]
 ·have hk9 := (hok.word hlt [40] 9 (by decide)).2 hop
  by_cases h6 : d = 6
  ·subst h6
   refine (br_deep kd R i e w hS.rd hk9).mono ?_
   rintro r w2 ⟨rfl, hr2, hb2⟩
   exact Or.inr ⟨i, 2, 6, 4, 0, 0, [], none, 0, 0, rfl, hr2, by decide, hb2, by omega, h2 rfl hop⟩
  ·rw [h1 (by omega) hop]
   exact br_go hok F IH kd R i d hR e w (by omega) hop hF hS
 ·have hk9 : ((ptoks len ts)[i]).1 ≠ 9 := fun h => hop ((hok.word hlt [40] 9 (by decide)).1 h)
  refine (br_nope kd R i d e w hS.rd hk9).mono ?_
  rintro r w2 ⟨rfl, hr2, hb2⟩
  exact Or.inr ⟨i, 2, d, 3, 0, 0, [], none, 0, 0, rfl, hr2, by decide, hb2, by omega, h3 hop⟩
def Handed (len : Nat) (ts : List (By × Nat)) (S : List By) (D : Nat → Pt → Prop) (b bl cp i d : Nat) (e : Int) (w : World) (r : Ending) (w' : World) : Prop :=
 ∃ W w2 v0 v1 v2 v3, LvPost len ts S D 14 b bl cp i d e W r w2 ∧ Kp b w W ∧ w.heap.size < W.heap.size ∧ w' = ((((w2.setCell ⟨w.heap.size, 0, none⟩ v0).setCell ⟨w.heap.size, 1, none⟩ v1).setCell ⟨w.heap.size, 2, none⟩ v2).setCell ⟨w.heap.size, 3, none⟩ v3)
theorem at_take (k i : Nat) (d e : Int) (w : World) (h : Rdr w b bl cp (ptoks len ts) i d e) (hi : i + 1 < (ptoks len ts).length) (hk : ((ptoks len ts)[i]'h.lt).1 = (k : Int)) (hk4 : k = 1 ∨ k = 2 ∨ k = 7 ∨ k = 8) :
  Calls Tryz.prog 121 #[.pointer (some ⟨b, 0, none⟩)] w fun r w' => r = .returned (.tuple #[.agg #[.int .i64 (k : Int), .string ⟨((ptoks len ts)[i]'h.lt).2.2.1.toArray⟩, .int .i64 (((ptoks len ts)[i]'h.lt).2.2.2 : Int), .slice none 0 0], .bool true]) ∧ Rdr w' b bl cp (ptoks len ts) (i + 1) d e ∧ Kp b w w' := by
 have hs := h.size
 have hlt := h.lt
 have H := tZ (fun w1 (g : Rdr w1 b bl cp (ptoks len ts) i d e) => kind42 w1 b bl cp _ i d e g)
 have H2 := tZ (fun w1 (g : Rdr w1 b bl cp (ptoks len ts) i d e) => take45 w1 b bl cp _ i d e g hi)
 have HR := tZ h
 have HK := tZ hk
 clear hk
 rcases hk4 with rfl | rfl | rfl | rfl
 ·go_enter Tryz.func121, Tryz.ntmps121
  go_wp2_with (first | (go_at_call 119; refine (H.out _ (HR.out.next (bZ _))).mono ?_; rw [HK.out]; rintro e w' ⟨rfl, rfl⟩) | (go_at_call 122; refine (H2.out _ (HR.out.next (bZ _))).mono ?_; rw [HK.out]; rintro e w' ⟨rfl, hr, hbb⟩; refine Hid.out ?_))
  obtain ⟨⟨k0, k1, k2, k3⟩, ⟨f0, f1, f2, f3⟩, hsz⟩ := row4 (hbb.blk (q := w.heap.size) (heap_alloc_new w _) (by omega))
  have HB := tZ hbb
  have HR2 := tZ hr
  clear hr hbb
  refine tZ ?_
  go_wp2
  refine bodyPost_ret (v := .tuple #[.agg #[.int .i64 1, .string ⟨((ptoks len ts)[i]'hlt).2.2.1.toArray⟩, .int .i64 (((ptoks len ts)[i]'hlt).2.2.2 : Int), .slice none 0 0], .bool true]) (by simp [results, Tryz.results121, go_sem, k0, k1, k2, k3, hsz]) rfl ?_
  have hkA := ((Kp.of (bZ _) hs).trans HB.out).there4 w.heap.size (.int .i64 1) (.string ⟨((ptoks len ts)[i]'hlt).2.2.1.toArray⟩) (.int .i64 (((ptoks len ts)[i]'hlt).2.2.2 : Int)) (.slice none 0 0) (Nat.le_refl _) hs
  exact ⟨rfl, (HR2.out.store4 w.heap.size _ _ _ _ hs).next (bZ _), hkA.next (bZ _) (by have := hkA.size; omega)⟩
 ·go_enter Tryz.func121, Tryz.ntmps121
  go_wp2_with (first | (go_at_call 119; refine (H.out _ (HR.out.next (bZ _))).mono ?_; rw [HK.out]; rintro e w' ⟨rfl, rfl⟩) | (go_at_call 122; refine (H2.out _ (HR.out.next (bZ _))).mono ?_; rw [HK.out]; rintro e w' ⟨rfl, hr, hbb⟩; refine Hid.out ?_))
  obtain ⟨⟨k0, k1, k2, k3⟩, ⟨f0, f1, f2, f3⟩, hsz⟩ := row4 (hbb.blk (q := w.heap.size) (heap_alloc_new w _) (by omega))
  have HB := tZ hbb
  have HR2 := tZ hr
  clear hr hbb
  refine tZ ?_
  go_wp2
  refine bodyPost_ret (v := .tuple #[.agg #[.int .i64 2, .string ⟨((ptoks len ts)[i]'hlt).2.2.1.toArray⟩, .int .i64 (((ptoks len ts)[i]'hlt).2.2.2 : Int), .slice none 0 0], .bool true]) (by simp [results, Tryz.results121, go_sem, k0, k1, k2, k3, hsz]) rfl ?_
  have hkA := ((Kp.of (bZ _) hs).trans HB.out).there4 w.heap.size (.int .i64 2) (.string ⟨((ptoks len ts)[i]'hlt).2.2.1.toArray⟩) (.int .i64 (((ptoks len ts)[i]'hlt).2.2.2 : Int)) (.slice none 0 0) (Nat.le_refl _) hs
  exact ⟨rfl, (HR2.out.store4 w.heap.size _ _ _ _ hs).next (bZ _), hkA.next (bZ _) (by have := hkA.size; omega)⟩
 ·go_enter Tryz.func121, Tryz.ntmps121
  go_wp2_with (first | (go_at_call 119; refine (H.out _ (HR.out.next (bZ _))).mono ?_; rw [HK.out]; rintro e w' ⟨rfl, rfl⟩) | (go_at_call 122; refine (H2.out _ (HR.out.next (bZ _))).mono ?_; rw [HK.out]; rintro e w' ⟨rfl, hr, hbb⟩; refine Hid.out ?_))
  obtain ⟨⟨k0, k1, k2, k3⟩, ⟨f0, f1, f2, f3⟩, hsz⟩ := row4 (hbb.blk (q := w.heap.size) (heap_alloc_new w _) (by omega))
  have HB := tZ hbb
  have HR2 := tZ hr
  clear hr hbb
  refine tZ ?_
  go_wp2
  refine bodyPost_ret (v := .tuple #[.agg #[.int .i64 7, .string ⟨((ptoks len ts)[i]'hlt).2.2.1.toArray⟩, .int .i64 (((ptoks len ts)[i]'hlt).2.2.2 : Int), .slice none 0 0], .bool true]) (by simp [results, Tryz.results121, go_sem, k0, k1, k2, k3, hsz]) rfl ?_
  have hkA := ((Kp.of (bZ _) hs).trans HB.out).there4 w.heap.size (.int .i64 7) (.string ⟨((ptoks len ts)[i]'hlt).2.2.1.toArray⟩) (.int .i64 (((ptoks len ts)[i]'hlt).2.2.2 : Int)) (.slice none 0 0) (Nat.le_refl _) hs
  exact ⟨rfl, (HR2.out.store4 w.heap.size _ _ _ _ hs).next (bZ _), hkA.next (bZ _) (by have := hkA.size; omega)⟩
 ·go_enter Tryz.func121, Tryz.ntmps121
  go_wp2_with (first | (go_at_call 119; refine (H.out _ (HR.out.next (bZ _))).mono ?_; rw [HK.out]; rintro e w' ⟨rfl, rfl⟩) | (go_at_call 122; refine (H2.out _ (HR.out.next (bZ _))).mono ?_; rw [HK.out]; rintro e w' ⟨rfl, hr, hbb⟩; refine Hid.out ?_))
  obtain ⟨⟨k0, k1, k2, k3⟩, ⟨f0, f1, f2, f3⟩, hsz⟩ := row4 (hbb.blk (q := w.heap.size) (heap_alloc_new w _) (by omega))
  have HB := tZ hbb
  have HR2 := tZ hr
  clear hr hbb
  refine tZ ?_
  go_wp2
  refine bodyPost_ret (v := .tuple #[.agg #[.int .i64 8, .string ⟨((ptoks len ts)[i]'hlt).2.2.1.toArray⟩, .int .i64 (((ptoks len ts)[i]'hlt).2.2.2 : Int), .slice none 0 0], .bool true]) (by simp [results, Tryz.results121, go_sem, k0, k1, k2, k3, hsz]) rfl ?_
  have hkA := ((Kp.of (bZ _) hs).trans HB.out).there4 w.heap.size (.int .i64 8) (.string ⟨((ptoks len ts)[i]'hlt).2.2.1.toArray⟩) (.int .i64 (((ptoks len ts)[i]'hlt).2.2.2 : Int)) (.slice none 0 0) (Nat.le_refl _) hs
  exact ⟨rfl, (HR2.out.store4 w.heap.size _ _ _ _ hs).next (bZ _), hkA.next (bZ _) (by have := hkA.size; omega)⟩
theorem at_if (i d : Nat) (e : Int) (w : World) (hS : St len ts w b bl cp i d e) (hi : i + 1 < (ptoks len ts).length) (hk : ((ptoks len ts)[i]'hS.rd.lt).1 = 3) (S : List By) (D : Nat → Pt → Prop)
  (hP : ∀ w1, St len ts w1 b bl cp (i + 1) d e → Calls Tryz.prog 150 #[.pointer (some ⟨b, 0, none⟩), .int .i64 3, .int .i64 3] w1 (LvPost len ts S D 14 b bl cp (i + 1) d e w1)) :
  Calls Tryz.prog 121 #[.pointer (some ⟨b, 0, none⟩)] w (Handed len ts S D b bl cp (i + 1) d e w) := by
 have hs := hS.rd.size
 have H := tZ (fun w1 (g : Rdr w1 b bl cp (ptoks len ts) i (d : Int) e) => kind42 w1 b bl cp _ i d e g)
 have H2 := tZ (fun w1 (g : Rdr w1 b bl cp (ptoks len ts) i (d : Int) e) => take45 w1 b bl cp _ i d e g hi)
 have HS := tZ hS
 have HK := tZ hk
 have HP := tZ hP
 clear hk hP
 go_enter Tryz.func121, Tryz.ntmps121
 go_wp2_with (first | (go_at_call 119; refine (H.out _ (HS.out.rd.next (bZ _))).mono ?_; rw [HK.out]; rintro e w' ⟨rfl, rfl⟩) | (go_at_call 122; refine (H2.out _ (HS.out.rd.next (bZ _))).mono ?_; rintro e w1 ⟨rfl, hr, hbb⟩; refine Hid.out ?_))
 have hR1 := hbb.blk (q := w.heap.size) (heap_alloc_new w _) (by omega)
 have hk1 : Kp b w w1 := (Kp.of (bZ _) hs).trans hbb
 have HL := tZ (HP.out w1 (HS.out.down (d' := d) hr hk1.bel))
 have HK1 := tZ hk1
 have HR1 := tZ hR1
 clear hr hbb hk1 hR1
 refine tZ ?_
 go_wp2_with (first | (go_at_call 150; refine HL.out.mono ?_; intro r w2 hlv; obtain ⟨z, k, n, s, a, l, c, rfl⟩ := hlv.form; refine Hid.out ?_))
 obtain ⟨⟨k0, k1, k2, k3⟩, ⟨f0, f1, f2, f3⟩, hsz⟩ := row4 (hlv.kp.blk HR1.out (by omega))
 have HLV := tZ hlv
 clear hlv
 refine tZ ?_
 go_wp2
 refine bodyPost_ret (v := .tuple #[.agg #[.int .i64 k, .string ⟨s.toArray⟩, .int .i64 n, .slice a l c], .bool z]) (by simp [results, Tryz.results121, go_sem, k0, k1, k2, k3]) rfl ?_
 exact ⟨w1, w2, _, _, _, _, HLV.out, HK1.out, (Array.getElem?_eq_some_iff.1 HR1.out).1, rfl⟩
theorem at_br (k i d : Nat) (e : Int) (w : World) (hS : St len ts w b bl cp i d e) (hk : ((ptoks len ts)[i]'hS.rd.lt).1 = (k : Int)) (hk5 : k ≠ 1 ∧ k ≠ 2 ∧ k ≠ 7 ∧ k ≠ 8 ∧ k ≠ 3) (S : List By) (D : Nat → Pt → Prop)
  (hP : ∀ w1, St len ts w1 b bl cp i d e → Calls Tryz.prog 150 #[.pointer (some ⟨b, 0, none⟩), .int .i64 9, .int .i64 1] w1 (LvPost len ts S D 14 b bl cp i d e w1)) :
  Calls Tryz.prog 121 #[.pointer (some ⟨b, 0, none⟩)] w (Handed len ts S D b bl cp i d e w) := by
 have hs := hS.rd.size
 have H := tZ (fun w1 (g : Rdr w1 b bl cp (ptoks len ts) i (d : Int) e) => kind42 w1 b bl cp _ i d e g)
 have HS := tZ hS
 have HK := tZ hk
 have HP := tZ hP
 obtain ⟨n1, n2, n7, n8, n3⟩ := hk5
 have b1 : ((k : Int) == 1) = false := beq_eq_false_iff_ne.2 (by omega)
 have b2 : ((k : Int) == 2) = false := beq_eq_false_iff_ne.2 (by omega)
 have b7 : ((k : Int) == 7) = false := beq_eq_false_iff_ne.2 (by omega)
 have b8 : ((k : Int) == 8) = false := beq_eq_false_iff_ne.2 (by omega)
 have b3 : ((k : Int) == 3) = false := beq_eq_false_iff_ne.2 (by omega)
 clear hk hP n1 n2 n7 n8 n3
 go_enter Tryz.func121, Tryz.ntmps121
 go_wp2_with (first | (go_at_call 119; refine (H.out _ (HS.out.rd.next (bZ _))).mono ?_; rw [HK.out]; rintro e w' ⟨rfl, rfl⟩) | (go_at_call 150; refine (HP.out _ (HS.out.next (bZ _))).mono ?_; intro r w2 hlv; obtain ⟨z, k, n, s, a, l, c, rfl⟩ := hlv.form; refine Hid.out ?_))
 obtain ⟨⟨k0, k1, k2, k3⟩, ⟨f0, f1, f2, f3⟩, hsz⟩ := row4 (hlv.kp.blk (heap_alloc_new w _) (by omega))
 have HLV := tZ hlv
 clear hlv
 refine tZ ?_
 go_wp2
 refine bodyPost_ret (v := .tuple #[.agg #[.int .i64 k, .string ⟨s.toArray⟩, .int .i64 n, .slice a l c], .bool z]) (by simp [results, Tryz.results121, go_sem, k0, k1, k2, k3]) rfl ?_
 exact ⟨_, w2, _, _, _, _, HLV.out, Kp.of (bZ _) hs, by simp, rfl⟩
theorem atom44 (hok : OkT ts) (F : Nat) (IH : LvAll len ts b bl cp F) (i d : Nat) (e : Int) (w : World) (hd : d ≤ 6) (hm : tAt ts i ≠ [45]) (hF : 10 * (ts.length - i) < F) (hS : St len ts w b bl cp i d e) :
  Calls Tryz.prog 121 #[.pointer (some ⟨b, 0, none⟩)] w (LvPost len ts [symB 65 d] (fun i' p => Der ts 6 i i' p) 12 b bl cp i d e w) := by
 have hlt := hS.rd.lt
 have hbec : becB 65 d (tAt ts i) = atomB (tAt ts i) d := rfl
 obtain ⟨k, hcl, hkk, hk20, hk0⟩ := hok.cls hlt
 have hle := hS.le
 have hs := hS.rd.size
 by_cases h4 : k = 1 ∨ k = 2 ∨ k = 7 ∨ k = 8
 ·have hi : i < ts.length := by
   rcases Nat.lt_or_ge i ts.length with h | h
   ·exact h
   ·have := hk0.2 (by omega); omega
  have hpt := ptoks_lt hlt hi
  refine (at_take k i d e w hS.rd (by rw [ptoks_length]; omega) hkk h4).mono ?_
  rintro r w' ⟨rfl, hr, hb⟩
  refine Or.inl ⟨i + 1, 2, .atom k (nmB (tAt ts i)) (nuB (tAt ts i)), none, 0, 0, by rw [hpt]; rfl, PIs.leaf _ rfl, Der.atom i k hi hcl h4, hS.down (d' := d) hr hb.bel, by omega, hb, by omega, ?_⟩
  refine Go1.sym (by omega) ?_
  rw [hbec, atomB_plain _ k d hcl h4]
  exact Go1.tok (hok.tk hi) rfl (Go1.nil _)
 ·by_cases h3 : k = 3
  ·subst h3
   have ht : tAt ts i = [105, 102] := (cls_word [105, 102] 3 (by decide) _ 3 hcl).1 rfl
   have hi : i < ts.length := at_lt (by decide) ht
   have htk : Tk [105, 102] := ⟨105, _, rfl, by decide, by decide⟩
   refine (at_if i d e w hS (by rw [ptoks_length]; omega) hkk (if d < 6 then brS 3 (d + 1) else [wOpen]) (BrD ts (i + 1) 3 3) ?_).mono ?_
   ·intro w1 hS1
    refine br_all hok F IH 3 3 (i + 1) d (Or.inr ⟨rfl, rfl⟩) e w1 hd (by omega) hS1 _ (fun h6 _ => by rw [if_pos h6]) (fun h6 hop => ?_) (fun hop => ?_)
    ·rw [if_neg (by omega)]
     exact No1.opens hop
    ·by_cases h6 : d < 6
     ·rw [if_pos h6]
      intro K q
      have := No1.bad (len := len) (S := stackS 3 0 (d + 1)) tkOpen hop K (q + 1)
      rw [show 2 + q = 1 + (q + 1) by omega]
      exact this
     ·rw [if_neg h6]
      exact No1.opens_no hop (hok.notNone _)
   ·rintro r w' ⟨W, w2, v0, v1, v2, v3, hlv, hK, hg, rfl⟩
    have hat : atomB [105, 102] d = [105, 102] :: (if d < 6 then brS 3 (d + 1) else [wOpen]) := by
     by_cases h6 : d < 6
     ·rw [if_pos h6, atomB_if d h6]
     ·obtain rfl : d = 6 := by omega
      rw [if_neg h6, atomB_if6]
    refine hlv.lift (x := 2) hK hg hs (by omega) (by omega) (by omega) (fun i' p hD => ?_) (fun i' m h => ?_) (fun er p m h => ?_) v0 v1 v2 v3
    ·obtain ⟨l, j, hB, hl, hc, rfl, e1, e2, e3, e4⟩ := hD
     obtain ⟨a, b', c, j1, j2, rfl, h1, h2, h3, h4, h5, h6⟩ := hB.inv3 hl
     cases p with
     | atom => simp [Pt.kids] at e4
     | un => simp [Pt.kids] at e4
     | bin => simp [Pt.kids] at e4
     | ifs a' b'' c' =>
      simp only [Pt.kids, List.cons.injEq, and_true] at e4
      obtain ⟨rfl, rfl, rfl⟩ := e4
      exact Der.ifs i j1 j2 j _ _ _ ht h1 h2 h3 h4 h5 h6 hc
    ·refine Go1.sym (by omega) ?_
     rw [hbec, ht, hat, List.append_nil]
     exact Go1.tok htk ht h
    ·refine No1.sym (by omega) ?_
     rw [hbec, ht, hat, List.append_nil]
     exact No1.tok htk ht h
  ·have h5 : k ≠ 1 ∧ k ≠ 2 ∧ k ≠ 7 ∧ k ≠ 8 ∧ k ≠ 3 := by omega
   have h13 : k ≠ 13 := by
    rintro rfl
    exact hm ((cls_word [45] 13 (by decide) _ 13 hcl).1 rfl)
   have hnone : tAt ts i ≠ [40] → atomB (tAt ts i) d = [wNone] := fun hop => atomB_none _ k d hcl h5 (fun h => hop ((cls_word [40] 9 (by decide) _ k hcl).1 h)) h13
   refine (at_br k i d e w hS hkk h5 (atomB (tAt ts i) d) (BrD ts i 9 1) ?_).mono ?_
   ·intro w1 hS1
    refine br_all hok F IH 9 1 i d (Or.inl rfl) e w1 hd hF hS1 _ (fun h6 hop => by rw [hop, atomB_open d h6]) (fun h6 hop => ?_) (fun hop => ?_)
    ·subst h6
     rw [hop, atomB_open6]
     intro K q
     have := No1.deep (len := len) (ts := ts) (S := [[41]]) (i := i) K (q + 1)
     rw [show 2 + q = 1 + (q + 1) by omega]
     exact this
    ·rw [hnone hop]
     intro K q
     have := No1.bad (len := len) (ts := ts) (S := []) (i := i) tkNone (hok.notNone _) K (q + 1)
     rw [show 2 + q = 1 + (q + 1) by omega]
     exact this
   ·rintro r w' ⟨W, w2, v0, v1, v2, v3, hlv, hK, hg, rfl⟩
    refine hlv.lift (x := 1) hK hg hs (by omega) (by omega) (by omega) (fun i' p hD => ?_) (fun i' m h => ?_) (fun er p m h => ?_) v0 v1 v2 v3
    ·obtain ⟨l, j, hB, hl, hc, rfl, e1, e2, e3, e4⟩ := hD
     obtain ⟨a, rfl, h1, h2⟩ := hB.inv1 hl
     cases p with
     | atom => simp [Pt.kids] at e4
     | un k' a' =>
      simp only [Pt.kids, List.cons.injEq, and_true] at e4
      subst e4
      have e1' : k' = 9 := e1
      subst e1'
      exact Der.br i j _ h1 h2 hc
     | bin => simp [Pt.kids] at e4
     | ifs => simp [Pt.kids] at e4
    ·refine Go1.sym (by omega) ?_
     rw [hbec, List.append_nil]
     exact h
    ·refine No1.sym (by omega) ?_
     rw [hbec, List.append_nil]
     exact h
end
end
section
theorem Env.aheadAt {w : World} (h : Env w) (k : Nat) (hk : k < 20) : w.cell? ⟨3, k, none⟩ = some (.int .i64 (aheadW.getD k 0)) := by
 obtain ⟨t, fr, hb⟩ := h.ahead
 rw [cell_of_row w 3 k _ _ _ hb]
 have hl : k < aheadW.length := hk
 simp [aheadC, List.getD_eq_getElem?_getD, hl]
theorem Env.betwAt {w : World} (h : Env w) (k : Nat) (hk : k < 20) : w.cell? ⟨4, k, none⟩ = some (.int .i64 (betwW.getD k 0)) := by
 obtain ⟨t, fr, hb⟩ := h.betw
 rw [cell_of_row w 4 k _ _ _ hb]
 have hl : k < betwW.length := hk
 simp [betwC, List.getD_eq_getElem?_getD, hl]
section
variable {len : Nat} {ts : List (By × Nat)} {b bl cp : Nat}
theorem lv_ahead (k n i d : Nat) (e : Int) (w : World) (hS : St len ts w b bl cp i d e) (hk20 : k < 20) (hk : ((ptoks len ts)[i]'hS.rd.lt).1 = (k : Int)) (ha : aheadW.getD k 0 = (n : Int)) (S : List By) (D : Nat → Pt → Prop) (c1 : Nat)
  (hP : ∀ w1, St len ts w1 b bl cp i d e → Calls Tryz.prog 120 #[.pointer (some ⟨b, 0, none⟩), .int .i64 (n : Int)] w1 (LvPost len ts S D c1 b bl cp i d e w1)) :
  Calls Tryz.prog 91 #[.pointer (some ⟨b, 0, none⟩), .int .i64 (n : Int)] w (LvPost len ts S D c1 b bl cp i d e w) := by
 have hs := hS.rd.size
 have hle := hS.le
 have H := tZ (fun w1 (g : Rdr w1 b bl cp (ptoks len ts) i (d : Int) e) => kind42 w1 b bl cp _ i d e g)
 have HS := tZ hS
 have HK := tZ hk
 have HP := tZ hP
 have hk1 : (0 : Int) ≤ (k : Int) := by omega
 have hk2 : (k : Int) < 20 := by omega
 have hc := hS.env.aheadAt k hk20
 rw [ha] at hc
 have hgl := World.block_lt_of_cell? w _ hc
 have hnb : ((n : Int) == (n : Int)) = true := by simp
 clear hk hP ha
 go_enter Tryz.func91, Tryz.ntmps91
 go_wp2_with (first | (go_at_call 119; refine (H.out _ (HS.out.rd.next (bZ _))).mono ?_; rw [HK.out]; rintro e w' ⟨rfl, rfl⟩) | (go_at_call 120; refine (HP.out _ (HS.out.next (bZ _))).mono ?_; intro r w2 hlv; obtain ⟨z, k, n, s, a, l, c, rfl⟩ := hlv.form; refine Hid.out ?_))
 obtain ⟨⟨k0, k1, k2, k3⟩, ⟨f0, f1, f2, f3⟩, hsz⟩ := row4 (hlv.kp.blk (heap_alloc_new w _) (by omega))
 have HLV := tZ hlv
 clear hlv
 refine tZ ?_
 go_wp2
 refine bodyPost_ret (v := .tuple #[.agg #[.int .i64 k, .string ⟨s.toArray⟩, .int .i64 n, .slice a l c], .bool z]) (by simp [results, Tryz.results91, go_sem, k0, k1, k2, k3]) rfl ?_
 exact HLV.out.lift (x := 0) (Kp.of (bZ _) hs) (by simp) hs hle (Nat.le_refl _) (by omega) (fun _ _ h => h) (fun _ _ h => h) (fun _ _ _ h => h) _ _ _ _
theorem lv_atom (k i d : Nat) (e : Int) (w : World) (hS : St len ts w b bl cp i d e) (hk20 : k < 20) (hk : ((ptoks len ts)[i]'hS.rd.lt).1 = (k : Int)) (ha : aheadW.getD k 0 ≠ 6) (S : List By) (D : Nat → Pt → Prop) (c1 : Nat)
  (hP : ∀ w1, St len ts w1 b bl cp i d e → Calls Tryz.prog 121 #[.pointer (some ⟨b, 0, none⟩)] w1 (LvPost len ts S D c1 b bl cp i d e w1)) :
  Calls Tryz.prog 91 #[.pointer (some ⟨b, 0, none⟩), .int .i64 6] w (LvPost len ts S D c1 b bl cp i d e w) := by
 have hs := hS.rd.size
 have hle := hS.le
 have H := tZ (fun w1 (g : Rdr w1 b bl cp (ptoks len ts) i (d : Int) e) => kind42 w1 b bl cp _ i d e g)
 have HS := tZ hS
 have HK := tZ hk
 have HP := tZ hP
 have hk1 : (0 : Int) ≤ (k : Int) := by omega
 have hk2 : (k : Int) < 20 := by omega
 have hc := hS.env.aheadAt k hk20
 have hgl := World.block_lt_of_cell? w _ hc
 generalize aheadW.getD k 0 = av at *
 have hab : (av == 6) = false := beq_eq_false_iff_ne.2 ha
 clear hk hP ha
 go_enter Tryz.func91, Tryz.ntmps91
 go_wp2_with (first | (go_at_call 119; refine (H.out _ (HS.out.rd.next (bZ _))).mono ?_; rw [HK.out]; rintro e w' ⟨rfl, rfl⟩) | (go_at_call 121; refine (HP.out _ (HS.out.next (bZ _))).mono ?_; intro r w2 hlv; obtain ⟨z, k, n, s, a, l, c, rfl⟩ := hlv.form; refine Hid.out ?_))
 obtain ⟨⟨k0, k1, k2, k3⟩, ⟨f0, f1, f2, f3⟩, hsz⟩ := row4 (hlv.kp.blk (heap_alloc_new w _) (by omega))
 have HLV := tZ hlv
 clear hlv
 refine tZ ?_
 go_wp2
 refine bodyPost_ret (v := .tuple #[.agg #[.int .i64 k, .string ⟨s.toArray⟩, .int .i64 n, .slice a l c], .bool z]) (by simp [results, Tryz.results91, go_sem, k0, k1, k2, k3]) rfl ?_
 exact HLV.out.lift (x := 0) (Kp.of (bZ _) hs) (by simp) hs hle (Nat.le_refl _) (by omega) (fun _ _ h => h) (fun _ _ h => h) (fun _ _ _ h => h) _ _ _ _
structure LvI (len : Nat) (ts : List (By × Nat)) (b bl cp : Nat) (w : World) (gW d : Nat) (e : Int) (wr : World) (i' : Nat) (p : Pt) (a : Option Addr) (l c : Nat) : Prop where
 st : St len ts wr b bl cp i' d e
 kp : Kp b w wr
 res : wr.heap[w.heap.size]? = some (.cells #[.int .i64 0, .string ⟨#[]⟩, .int .i64 0, .slice none 0 0] 49 (0, 0))
 whl : wr.heap[gW]? = some (.cells #[.int .i64 (p.k : Int), .string ⟨p.nm.toArray⟩, .int .i64 (p.n : Int), .slice a l c] 49 (0, 0))
 kid : PIs wr (fun q => w.heap.size < q ∧ q < wr.heap.size ∧ q ≠ gW) p a l c
 gw : w.heap.size < gW
 bw : b < w.heap.size
structure LvF (len : Nat) (ts : List (By × Nat)) (S : List By) (c1 : Nat) (b bl cp : Nat) (w : World) (gW i : Nat) (wr : World) (k n : Int) (s : By) (a : Option Addr) (l c : Nat) : Prop where
 rd : ∃ (i' m : Nat) (d' er : Int), Rdr wr b bl cp (ptoks len ts) i' d' er ∧ er ≠ 0 ∧ m + c1 ≤ 20 * (ts.length - i) + 20 ∧ No1 len ts S i er (pAt len ts i') m
 kp : Kp b w wr
 res : wr.heap[w.heap.size]? = some (.cells #[.int .i64 0, .string ⟨#[]⟩, .int .i64 0, .slice none 0 0] 49 (0, 0))
 whl : wr.heap[gW]? = some (.cells #[.int .i64 k, .string ⟨s.toArray⟩, .int .i64 n, .slice a l c] 49 (0, 0))
 bw : b < w.heap.size
theorem LvF.post {S : List By} {D : Nat → Pt → Prop} {c1 gW i d : Nat} {e : Int} {w wr : World} {k n : Int} {s : By} {a : Option Addr} {l c : Nat} (h : LvF len ts S c1 b bl cp w gW i wr k n s a l c) (v0 v1 v2 v3 : Value) :
  LvPost len ts S D c1 b bl cp i d e w (.returned (.tuple #[.agg #[.int .i64 k, .string ⟨s.toArray⟩, .int .i64 n, .slice a l c], .bool false])) ((((wr.setCell ⟨w.heap.size, 0, none⟩ v0).setCell ⟨w.heap.size, 1, none⟩ v1).setCell ⟨w.heap.size, 2, none⟩ v2).setCell ⟨w.heap.size, 3, none⟩ v3) := by
 obtain ⟨i', m, d', er, hr, her, hm, hn⟩ := h.rd
 exact Or.inr ⟨i', m, d', er, k, n, s, a, l, c, rfl, hr.store4 w.heap.size _ _ _ _ h.bw, her, h.kp.there4 w.heap.size _ _ _ _ (Nat.le_refl _) h.bw, hm, hn⟩
theorem LvI.post {S : List By} {D : Nat → Pt → Prop} {c1 gW i d m : Nat} {e : Int} {w wr : World} {i' : Nat} {p : Pt} {a : Option Addr} {l c : Nat} (h : LvI len ts b bl cp w gW d e wr i' p a l c) (hD : D i' p) (hi : i < i') (hm : m + c1 ≤ 20 * (i' - i)) (hg : Go1 len ts S i i' m) (v0 v1 v2 v3 : Value) :
  LvPost len ts S D c1 b bl cp i d e w (.returned (.tuple #[.agg #[.int .i64 (p.k : Int), .string ⟨p.nm.toArray⟩, .int .i64 (p.n : Int), .slice a l c], .bool true])) ((((wr.setCell ⟨w.heap.size, 0, none⟩ v0).setCell ⟨w.heap.size, 1, none⟩ v1).setCell ⟨w.heap.size, 2, none⟩ v2).setCell ⟨w.heap.size, 3, none⟩ v3) := by
 refine Or.inl ⟨i', m, p, a, l, c, rfl, (h.kid.next fun q hq => heap4 wr w.heap.size v0 v1 v2 v3 (by omega)).wide fun q hq => ?_, hD, h.st.store4 w.heap.size _ _ _ _ h.bw, hi, h.kp.there4 w.heap.size _ _ _ _ (Nat.le_refl _) h.bw, hm, hg⟩
 rw [size4]
 omega
theorem st4_alloc (Y : World) (o : Obj) (g : Nat) (hg : g < Y.heap.size) (v0 v1 v2 v3 : Value) : (((((Y.alloc o).setCell ⟨g, 0, none⟩ v0).setCell ⟨g, 1, none⟩ v1).setCell ⟨g, 2, none⟩ v2).setCell ⟨g, 3, none⟩ v3) = (((((Y.setCell ⟨g, 0, none⟩ v0).setCell ⟨g, 1, none⟩ v1).setCell ⟨g, 2, none⟩ v2).setCell ⟨g, 3, none⟩ v3).alloc o) := by
 rw [World.setCell_alloc_past _ _ _ _ hg, World.setCell_alloc_past _ _ _ _ (by simpa using hg), World.setCell_alloc_past _ _ _ _ (by simpa using hg), World.setCell_alloc_past _ _ _ _ (by simpa using hg)]
theorem row4_st4 {w : World} {g : Nat} {u0 u1 u2 u3 : Value} {ty : TypeId} (h : w.heap[g]? = some (.cells #[u0, u1, u2, u3] ty (0, 0))) (v0 v1 v2 v3 : Value) : ((((w.setCell ⟨g, 0, none⟩ v0).setCell ⟨g, 1, none⟩ v1).setCell ⟨g, 2, none⟩ v2).setCell ⟨g, 3, none⟩ v3).heap[g]? = some (.cells #[v0, v1, v2, v3] ty (0, 0)) := by
 rw [setCell_block (setCell_block (setCell_block (setCell_block h 0 v0) 1 v1) 2 v2) 3 v3]
 rfl
theorem LvI.more {gW d : Nat} {e : Int} {w wr : World} {i' : Nat} {p : Pt} {a : Option Addr} {l c : Nat} (h : LvI len ts b bl cp w gW d e wr i' p a l c) {w2 w3 : World} (hb2 : Kp b wr w2) {o1 o2 : Obj} (hk3 : Kp b ((w2.alloc o1).alloc o2) w3) {i3 : Nat} (hS3 : St len ts w3 b bl cp i3 d e) {p3 : Pt} {a3 : Option Addr} {l3 c3 : Nat}
  (hp3 : PIs w3 (fun q => ((w2.alloc o1).alloc o2).heap.size ≤ q ∧ q < w3.heap.size) p3 a3 l3 c3) (k' : Nat) (u0 u1 u2 u3 : Value) :
  LvI len ts b bl cp w gW d e ((((((((((w3.setCell ⟨w2.heap.size + 1, 0, none⟩ u0).setCell ⟨w2.heap.size + 1, 1, none⟩ u1).setCell ⟨w2.heap.size + 1, 2, none⟩ u2).setCell ⟨w2.heap.size + 1, 3, none⟩ u3).setCell ⟨gW, 0, none⟩ (.int .i64 (k' : Int))).setCell ⟨gW, 1, none⟩ (.string ⟨#[]⟩)).setCell ⟨gW, 2, none⟩ (.int .i64 0)).setCell ⟨gW, 3, none⟩ (.slice (some ⟨w3.heap.size, 0, none⟩) 2 2)).alloc (.cells #[.int .i64 (p.k : Int), .string ⟨p.nm.toArray⟩, .int .i64 (p.n : Int), .slice a l c, .int .i64 (p3.k : Int), .string ⟨p3.nm.toArray⟩, .int .i64 (p3.n : Int), .slice a3 l3 c3] 49))) i3 (.bin k' p p3) (some ⟨w3.heap.size, 0, none⟩) 2 2 := by
 have hg := h.gw
 have hb := h.bw
 have hsz2 := hb2.size
 have hsz3 := hk3.size
 simp at hsz3
 have hgwr : gW < wr.heap.size := (Array.getElem?_eq_some_iff.1 h.whl).1
 have hwr : w.heap.size ≤ wr.heap.size := h.kp.size
 have hK23 : Kp b wr w3 := (hb2.next (below2 _ _ _) (by have := h.st.rd.size; omega)).trans hk3
 have hKA := ((h.kp.trans hK23).there4 (w2.heap.size + 1) u0 u1 u2 u3 (by omega) hb).there4 gW (.int .i64 (k' : Int)) (.string ⟨#[]⟩) (.int .i64 0) (.slice (some ⟨w3.heap.size, 0, none⟩) 2 2) (by omega) hb
 have hfin : ∀ q, q < w3.heap.size → q ≠ w2.heap.size + 1 → q ≠ gW → ((((((((((w3.setCell ⟨w2.heap.size + 1, 0, none⟩ u0).setCell ⟨w2.heap.size + 1, 1, none⟩ u1).setCell ⟨w2.heap.size + 1, 2, none⟩ u2).setCell ⟨w2.heap.size + 1, 3, none⟩ u3).setCell ⟨gW, 0, none⟩ (.int .i64 (k' : Int))).setCell ⟨gW, 1, none⟩ (.string ⟨#[]⟩)).setCell ⟨gW, 2, none⟩ (.int .i64 0)).setCell ⟨gW, 3, none⟩ (.slice (some ⟨w3.heap.size, 0, none⟩) 2 2)).alloc (.cells #[.int .i64 (p.k : Int), .string ⟨p.nm.toArray⟩, .int .i64 (p.n : Int), .slice a l c, .int .i64 (p3.k : Int), .string ⟨p3.nm.toArray⟩, .int .i64 (p3.n : Int), .slice a3 l3 c3] 49))).heap[q]? = w3.heap[q]? := fun q h1 h2 h3 => by
  rw [Below.heap_alloc _ _ _ (by rw [size4, size4]; exact h1), heap4 _ _ _ _ _ _ h3, heap4 _ _ _ _ _ _ h2]
 have hsz : ((((((((((w3.setCell ⟨w2.heap.size + 1, 0, none⟩ u0).setCell ⟨w2.heap.size + 1, 1, none⟩ u1).setCell ⟨w2.heap.size + 1, 2, none⟩ u2).setCell ⟨w2.heap.size + 1, 3, none⟩ u3).setCell ⟨gW, 0, none⟩ (.int .i64 (k' : Int))).setCell ⟨gW, 1, none⟩ (.string ⟨#[]⟩)).setCell ⟨gW, 2, none⟩ (.int .i64 0)).setCell ⟨gW, 3, none⟩ (.slice (some ⟨w3.heap.size, 0, none⟩) 2 2)).alloc (.cells #[.int .i64 (p.k : Int), .string ⟨p.nm.toArray⟩, .int .i64 (p.n : Int), .slice a l c, .int .i64 (p3.k : Int), .string ⟨p3.nm.toArray⟩, .int .i64 (p3.n : Int), .slice a3 l3 c3] 49))).heap.size = w3.heap.size + 1 := by
  simp
 have hbs : b < w3.heap.size := hS3.rd.size
 refine ⟨((hS3.store4 (w2.heap.size + 1) _ _ _ _ (by omega)).store4 gW _ _ _ _ (by omega)).next (bZ _), hKA.next (bZ _) (by rw [size4, size4]; exact hbs), ?_, ?_, ?_, h.gw, h.bw⟩
 ·rw [hfin _ (by omega) (by omega) (by omega)]
  exact hK23.blk h.res (by omega)
 ·rw [Below.heap_alloc _ _ _ (by rw [size4, size4]; omega)]
  exact row4_st4 ((heap4 _ _ _ _ _ _ (by omega)).trans (hK23.blk h.whl (by omega))) _ _ _ _
 ·refine PIs.bin k' ((h.kid.next fun q hq => ?_).wide fun q hq => ?_) ((hp3.next fun q hq => ?_).wide fun q hq => ?_) ?_ (t := 49) (fr := (0, 0)) ?_ 2
  ·rw [hfin q (by omega) (by omega) hq.2.2]
   exact hK23.heap (by omega) hq.2.1
  ·rw [hsz]; omega
  ·have hq1 := hq.1
   simp at hq1
   exact hfin q hq.2 (by omega) (by omega)
  ·have hq1 := hq.1
   simp at hq1
   rw [hsz]; omega
  ·rw [hsz]; omega
  ·have := heap_alloc_new (((((((((w3.setCell ⟨w2.heap.size + 1, 0, none⟩ u0).setCell ⟨w2.heap.size + 1, 1, none⟩ u1).setCell ⟨w2.heap.size + 1, 2, none⟩ u2).setCell ⟨w2.heap.size + 1, 3, none⟩ u3).setCell ⟨gW, 0, none⟩ (.int .i64 (k' : Int))).setCell ⟨gW, 1, none⟩ (.string ⟨#[]⟩)).setCell ⟨gW, 2, none⟩ (.int .i64 0)).setCell ⟨gW, 3, none⟩ (.slice (some ⟨w3.heap.size, 0, none⟩) 2 2))) (.cells #[.int .i64 (p.k : Int), .string ⟨p.nm.toArray⟩, .int .i64 (p.n : Int), .slice a l c, .int .i64 (p3.k : Int), .string ⟨p3.nm.toArray⟩, .int .i64 (p3.n : Int), .slice a3 l3 c3] 49)
   rw [size4, size4] at this
   exact this
theorem LvI.fail {gW d : Nat} {e : Int} {w wr : World} {i i' : Nat} {p : Pt} {a : Option Addr} {l c : Nat} (h : LvI len ts b bl cp w gW d e wr i' p a l c) {w2 w3 : World} (hb2 : Kp b wr w2) {o1 o2 : Obj} (hk3 : Kp b ((w2.alloc o1).alloc o2) w3) {S : List By} {c1 i3 m : Nat} {d3 er : Int} (hr : Rdr w3 b bl cp (ptoks len ts) i3 d3 er) (her : er ≠ 0) (hm : m + c1 ≤ 20 * (ts.length - i) + 20) (hno : No1 len ts S i er (pAt len ts i3) m) (k' : Nat) (u0 u1 u2 u3 : Value) (o : Obj) :
  LvF len ts S c1 b bl cp w gW i ((((((((((w3.setCell ⟨w2.heap.size + 1, 0, none⟩ u0).setCell ⟨w2.heap.size + 1, 1, none⟩ u1).setCell ⟨w2.heap.size + 1, 2, none⟩ u2).setCell ⟨w2.heap.size + 1, 3, none⟩ u3).setCell ⟨gW, 0, none⟩ (.int .i64 (k' : Int))).setCell ⟨gW, 1, none⟩ (.string ⟨#[]⟩)).setCell ⟨gW, 2, none⟩ (.int .i64 0)).setCell ⟨gW, 3, none⟩ (.slice (some ⟨w3.heap.size, 0, none⟩) 2 2)).alloc o)) (k' : Int) 0 [] (some ⟨w3.heap.size, 0, none⟩) 2 2 := by
 have hg := h.gw
 have hb := h.bw
 have hsz2 := hb2.size
 have hsz3 := hk3.size
 simp at hsz3
 have hgwr : gW < wr.heap.size := (Array.getElem?_eq_some_iff.1 h.whl).1
 have hwr : w.heap.size ≤ wr.heap.size := h.kp.size
 have hK23 : Kp b wr w3 := (hb2.next (below2 _ _ _) (by have := h.st.rd.size; omega)).trans hk3
 have hKA := ((h.kp.trans hK23).there4 (w2.heap.size + 1) u0 u1 u2 u3 (by omega) hb).there4 gW (.int .i64 (k' : Int)) (.string ⟨#[]⟩) (.int .i64 0) (.slice (some ⟨w3.heap.size, 0, none⟩) 2 2) (by omega) hb
 have hbs : b < w3.heap.size := hr.size
 refine ⟨⟨i3, m, d3, er, ((hr.store4 (w2.heap.size + 1) _ _ _ _ (by omega)).store4 gW _ _ _ _ (by omega)).next (bZ _), her, hm, hno⟩, hKA.next (bZ _) (by rw [size4, size4]; exact hbs), ?_, ?_, h.bw⟩
 ·rw [Below.heap_alloc _ _ _ (by rw [size4, size4]; omega), heap4 _ _ _ _ _ _ (by omega), heap4 _ _ _ _ _ _ (by omega)]
  exact hK23.blk h.res (by omega)
 ·rw [Below.heap_alloc _ _ _ (by rw [size4, size4]; omega)]
  exact row4_st4 ((heap4 _ _ _ _ _ _ (by omega)).trans (hK23.blk h.whl (by omega))) _ _ _ _
end
end
end Go.Proofs.YtihgojcfpnhelabGreatDoor
