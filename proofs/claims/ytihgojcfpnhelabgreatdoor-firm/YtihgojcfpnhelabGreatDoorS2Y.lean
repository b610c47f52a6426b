import Derived.Test.YtihgojcfpnhelabGreatDoorS2Xd
set_option maxRecDepth 100000
set_option maxHeartbeats 4000000
set_option linter.unusedVariables false
set_option linter.unusedSimpArgs false
namespace Go.Proofs.YtihgojcfpnhelabGreatDoor
open Go.RowKit
section
section
variable {len : Nat} {ts : List (By × Nat)} {b bl cp : Nat}
theorem lv_go (hok : OkT ts) (F : Nat) (IH : LvAll len ts b bl cp F) (k n i d : Nat) (hn1 : 1 ≤ n) (hn5 : n ≤ 5) (e : Int) (w : World) (hd : d ≤ 6) (hF : 10 * (ts.length - i) + (7 - n) < F + 1) (hS : St len ts w b bl cp i d e)
  (hk20 : k < 20) (hk : ((ptoks len ts)[i]'hS.rd.lt).1 = (k : Int)) (ha : aheadW.getD k 0 ≠ (n : Int)) (hbec : becB (lv n) d (tAt ts i) = [symB (lv (n + 1)) d, symB (tl n) d]) :
  Calls Tryz.prog 91 #[.pointer (some ⟨b, 0, none⟩), .int .i64 (n : Int)] w (LvPost len ts [symB (lv n) d] (fun i' p => Der ts n i i' p) (2 * n) b bl cp i d e w) := by
 have hs := hS.rd.size
 have hle := hS.le
 have H := tZ (fun w1 (g : Rdr w1 b bl cp (ptoks len ts) i (d : Int) e) => kind42 w1 b bl cp _ i d e g)
 have HS := tZ hS
 have HK := tZ hk
 have hc := hS.env.aheadAt k hk20
 have hgl := World.block_lt_of_cell? w _ hc
 have hk1 : (0 : Int) ≤ (k : Int) := by omega
 have hk2 : (k : Int) < 20 := by omega
 generalize aheadW.getD k 0 = av at *
 have hab : (av == (n : Int)) = false := beq_eq_false_iff_ne.2 ha
 have hn6 : ((n : Int) == 6) = false := beq_eq_false_iff_ne.2 (by omega)
 have HIH := tZ IH
 have HOK := tZ hok
 have HBEC := tZ hbec
 have hcast : ((n + 1 : Nat) : Int) = (n : Int) + 1 := by omega
 have HL1 := tZ (fun w1 (g : St len ts w1 b bl cp i d e) => IH (n + 1) i d e w1 (by omega) (by omega) hd (by omega) g)
 rw [hcast] at HL1
 have HCAST := tZ hcast
 clear hk ha IH hok hbec hcast
 go_enter Tryz.func91, Tryz.ntmps91
 go_wp2_with (first | (go_at_call 119; refine (H.out _ (HS.out.rd.next (bZ _))).mono ?_; rw [HK.out]; rintro e w' ⟨rfl, rfl⟩) | (go_at_call 91; refine (HL1.out _ (HS.out.next (bZ _))).mono ?_; rintro r w1 (⟨i1, m1, p1, a1, l1, c1, rfl, hp1, hD1, hS1, hi1, hk1', hm1, hgo1⟩ | ⟨i1, m1, d1, er, kk1, nn1, s1, a1, l1, c1, rfl, hr1, her, hk1', hm1, hno1⟩) <;> refine Hid.out ?_))
 ·have hR1 := hk1'.blk (q := w.heap.size) (heap_alloc_new w _) (by omega)
  have hszR := (Array.getElem?_eq_some_iff.1 hR1).1
  have A1 := tZ (show LvI len ts b bl cp w w1.heap.size d e (w1.alloc (.cells #[.int .i64 (p1.k : Int), .string ⟨p1.nm.toArray⟩, .int .i64 (p1.n : Int), .slice a1 l1 c1] 49)) i1 p1 a1 l1 c1 from
   ⟨hS1.next (bZ _), (((Kp.of (bZ _) hs).trans hk1').next (bZ _) (by omega)), (Below.heap_alloc _ _ _ hszR).trans hR1, heap_alloc_new _ _, (hp1.next fun q hq => Below.heap_alloc _ _ _ hq.2).wide (fun q hq => by have h1 := hq.1; have h2 := hq.2; simp at h1 ⊢; omega), hszR, hs⟩)
  have A4 := tZ (show To1 len ts [symB (lv n) d] [symB (tl n) d] i i1 (m1 + 1) from fun K q => by
   rw [show m1 + 1 + q = m1 + q + 1 by omega, List.singleton_append, step_sym len ts (lv n) d i (m1 + q) K (by omega), HBEC.out]
   exact hgo1 (symB (tl n) d :: K) q)
  have A5 := tZ (show Der ts (if n = 3 then 4 else n) i i1 p1 by
   by_cases h3 : n = 3
   ·subst h3; exact hD1
   ·rw [if_neg h3]; exact Der.up n i i1 p1 hn1 hn5 hD1)
  clear hS1 hgo1 hc hp1 hD1 hk1' hR1
  refine tZ ?_
  go_wp2
  go_loopg [7] (ts.length + 1 - i1) (fun gk okv wr => (okv = .bool true ∧ ∃ (i' m : Nat) (p : Pt) (a : Option Addr) (l c : Nat), ts.length + 1 ≤ i' + gk ∧ i < i' ∧ m + 2 * n + 1 ≤ 20 * (i' - i) ∧ Hid (LvI len ts b bl cp w w1.heap.size d e wr i' p a l c) ∧ Hid (Der ts (if n = 3 then 4 else n) i i' p) ∧ Hid (To1 len ts [symB (lv n) d] [symB (tl n) d] i i' m)) ∨ (okv = .bool false ∧ ∃ (kk nn : Int) (s : By) (a : Option Addr) (l c : Nat), Hid (LvF len ts [symB (lv n) d] (2 * n) b bl cp w w1.heap.size i wr kk nn s a l c)))
  case atStart => exact Or.inl ⟨rfl, i1, m1 + 1, p1, a1, l1, c1, by omega, by omega, by omega, A1, A5, A4⟩
  case round =>
   rcases hrel with ⟨rfl, i', m, p, a, l, c, hgk, hii, hm, HI, HDe, HTo⟩ | ⟨rfl, kk, nn, s, a, l, c, HFs⟩
   ·have hlt := HI.out.st.rd.lt
    have hle' := HI.out.st.le
    obtain ⟨k', hcl, hkk, hk20', hk0⟩ := HOK.out.cls hlt
    have HCL := tZ hcl
    have HK' := tZ hkk
    have H' := tZ (kind42 wr b bl cp _ i' d e HI.out.st.rd)
    have hc' := HI.out.st.env.betwAt k' hk20'
    have hk1' : (0 : Int) ≤ (k' : Int) := by omega
    have hk2' : (k' : Int) < 20 := by omega
    have HBS := tZ (betw_sgn _ k' hcl n hn1 hn5)
    obtain ⟨⟨k0, k1, k2, k3⟩, ⟨f0, f1, f2, f3⟩, hsz⟩ := row4 HI.out.res
    obtain ⟨⟨q0, q1, q2, q3⟩, ⟨g0, g1, g2, g3⟩, hszW⟩ := row4 HI.out.whl
    have hgw := HI.out.gw
    clear hcl hkk hk0
    by_cases hbt : inB (tAt ts i') (sgn n) = true
    ·obtain ⟨hbw, hbn, hne⟩ := sgn_bet n hn1 hn5 _ hbt
     have hi' : i' < ts.length := by
      rcases Nat.lt_or_ge i' ts.length with h | h
      ·exact h
      ·exact absurd (tAt_ge ts i' h) hne
     rw [HBS.out.2 hbt] at hc'
     have HT := tZ (take45 wr b bl cp _ i' d e HI.out.st.rd (by rw [ptoks_length]; omega))
     have HGO := tZ (bec_tl_go n hn1 hn5 d _ hbt)
     have HBT := tZ hbt
     have hnb : ((n : Int) == (n : Int)) = true := by simp
     clear hbt hbw hbn hne
     go_wp2_with (first | (go_at_call 119; refine H'.out.mono ?_; rw [HK'.out]; rintro r w' ⟨rfl, rfl⟩) | (go_at_call 122; refine HT.out.mono ?_; rw [HK'.out]; rintro r w2 ⟨rfl, hr2, hb2⟩; refine Hid.out ?_))
     have hS2 : St len ts w2 b bl cp (i' + 1) d e := HI.out.st.down (d' := d) hr2 hb2.bel
     have HW2 := tZ (show w2.heap[w.heap.size]? = _ ∧ w2.heap[w1.heap.size]? = _ from ⟨hb2.blk HI.out.res (by omega), hb2.blk HI.out.whl (by omega)⟩)
     have HB2 := tZ hb2
     have hsz2 := hb2.size
     have HL2 := tZ (fun w3 (g : St len ts w3 b bl cp (i' + 1) d e) => HIH.out (n + 1) (i' + 1) d e w3 (by omega) (by omega) hd (by omega) g)
     rw [HCAST.out] at HL2
     have HS2 := tZ hS2
     generalize ((ptoks len ts)[i']).2.2.2 = tn at *
     generalize ((ptoks len ts)[i']).2.2.1 = tx at *
     generalize ((ptoks len ts)[i']).2.1 = tp at *
     clear hr2 hb2 hS2 hc' k0 k1 k2 k3 f0 f1 f2 f3 q0 q1 q2 q3 g0 g1 g2 g3
     refine tZ ?_
     go_wp2_with (first | (go_at_call 91; refine (HL2.out _ (HS2.out.next (below2 _ _ _))).mono ?_; rintro r w3 (⟨i3, m3, p3, a3, l3, c3, rfl, hp3, hD3, hS3, hi3, hk3, hm3, hgo3⟩ | ⟨i3, m3, d3, er, kk3, nn3, s3, a3, l3, c3, rfl, hr3, her, hk3, hm3, hno3⟩) <;> refine Hid.out ?_))
     ·obtain ⟨⟨q0, q1, q2, q3⟩, ⟨g0, g1, g2, g3⟩, hszW3⟩ := row4 (hk3.blk ((heap2 _ _ _ (by omega)).trans HW2.out.2) (by omega))
      obtain ⟨⟨x0, x1, x2, x3⟩, ⟨y0, y1, y2, y3⟩, hszX⟩ := row4 (hk3.blk (q := w2.heap.size + 1) (by have := heap_alloc_new (w2.alloc (.cells #[.int .i64 (k' : Int), .int .i64 (tp : Int), .string ⟨tx.toArray⟩, .int .i64 (tn : Int)] 78)) (.cells #[.int .i64 0, .string ⟨#[]⟩, .int .i64 0, .slice none 0 0] 49); simpa using this) (by omega))
      obtain ⟨⟨z0, z1, z2, z3⟩, _, hszZ⟩ := row4 (hk3.blk (q := w2.heap.size) ((Below.heap_alloc _ _ _ (by simp)).trans (heap_alloc_new w2 _)) (by omega))
      obtain ⟨⟨k0, k1, k2, k3⟩, ⟨f0, f1, f2, f3⟩, hsz3⟩ := row4 (hk3.blk ((heap2 _ _ _ (by omega)).trans HW2.out.1) (by omega))
      have e1 : w1.heap.size ≠ w2.heap.size + 1 := by omega
      have e2 : w2.heap.size + 1 ≠ w1.heap.size := by omega
      have e3 : w.heap.size ≠ w1.heap.size := by omega
      have e4 : w1.heap.size ≠ w.heap.size := by omega
      have e5 : w.heap.size ≠ w2.heap.size + 1 := by omega
      have e6 : w2.heap.size + 1 ≠ w.heap.size := by omega
      have e7 : w2.heap.size ≠ w1.heap.size := by omega
      have e8 : w1.heap.size ≠ w2.heap.size := by omega
      have B1 := tZ (HI.out.more HB2.out hk3 hS3 hp3 k' (.int .i64 (p3.k : Int)) (.string ⟨p3.nm.toArray⟩) (.int .i64 (p3.n : Int)) (.slice a3 l3 c3))
      have B2 := tZ (show Der ts n i i3 (.bin k' p p3) from Der.more n i i' i3 k' p p3 hn1 hn5 HDe.out HBT.out HCL.out hD3)
      have B4 := tZ (show To1 len ts [symB (lv n) d] (if n = 3 then [] else [symB (tl n) d]) i i3 (m + 2 + m3) from fun K q => by
       rw [show m + 2 + m3 + q = m + (m3 + q + 1 + 1) by omega, HTo.out K (m3 + q + 1 + 1), List.singleton_append, step_sym len ts (tl n) d i' (m3 + q + 1) K (by omega), HGO.out, List.cons_append, step_tok len ts _ i' (m3 + q) _ (HOK.out.tk hi') rfl]
       exact hgo3 ((if n = 3 then [] else [symB (tl n) d]) ++ K) q)
      clear hp3 hD3 hS3 hk3 hgo3
      refine tZ ?_
      by_cases h3 : n = 3
      ·have h3b : ((n : Int) == 3) = true := by simp [h3]
       have B5 := tZ (show Go1 len ts [symB (lv n) d] i i3 (m + 2 + m3) from fun K q => by have := B4.out K q; rw [if_pos h3] at this; exact this)
       clear h3
       go_wp2
       refine bodyPost_ret (v := .tuple #[.agg #[.int .i64 (k' : Int), .string ⟨#[]⟩, .int .i64 0, .slice (some ⟨w3.heap.size, 0, none⟩) 2 2], .bool true]) (by simp [results, Tryz.results91, go_sem, k0, k1, k2, k3, hsz3]) rfl ?_
       rw [← st4_alloc _ _ w.heap.size (by rw [size4, size4]; exact hsz3)]
       exact B1.out.post (m := m + 2 + m3) B2.out (by omega) (by omega) B5.out _ _ _ _
      ·have h3b : ((n : Int) == 3) = false := beq_eq_false_iff_ne.2 (by omega)
       have B5 := tZ (show To1 len ts [symB (lv n) d] [symB (tl n) d] i i3 (m + 2 + m3) by have := B4.out; rw [if_neg h3] at this; exact this)
       have B6 := tZ (show Der ts (if n = 3 then 4 else n) i i3 (.bin k' p p3) by rw [if_neg h3]; exact B2.out)
       clear h3
       go_wp2
       go_roundg (ts.length + 1 - i3)
       case measure => omega
       case rel => exact Or.inl ⟨rfl, i3, m + 2 + m3, .bin k' p p3, some ⟨w3.heap.size, 0, none⟩, 2, 2, by omega, by omega, by omega, B1, B6, B5⟩
     ·obtain ⟨⟨q0, q1, q2, q3⟩, ⟨g0, g1, g2, g3⟩, hszW3⟩ := row4 (hk3.blk ((heap2 _ _ _ (by omega)).trans HW2.out.2) (by omega))
      obtain ⟨⟨x0, x1, x2, x3⟩, ⟨y0, y1, y2, y3⟩, hszX⟩ := row4 (hk3.blk (q := w2.heap.size + 1) (by have := heap_alloc_new (w2.alloc (.cells #[.int .i64 (k' : Int), .int .i64 (tp : Int), .string ⟨tx.toArray⟩, .int .i64 (tn : Int)] 78)) (.cells #[.int .i64 0, .string ⟨#[]⟩, .int .i64 0, .slice none 0 0] 49); simpa using this) (by omega))
      obtain ⟨⟨z0, z1, z2, z3⟩, _, hszZ⟩ := row4 (hk3.blk (q := w2.heap.size) ((Below.heap_alloc _ _ _ (by simp)).trans (heap_alloc_new w2 _)) (by omega))
      obtain ⟨⟨k0, k1, k2, k3⟩, ⟨f0, f1, f2, f3⟩, hsz3⟩ := row4 (hk3.blk ((heap2 _ _ _ (by omega)).trans HW2.out.1) (by omega))
      have e1 : w1.heap.size ≠ w2.heap.size + 1 := by omega
      have e2 : w2.heap.size + 1 ≠ w1.heap.size := by omega
      have e3 : w.heap.size ≠ w1.heap.size := by omega
      have e4 : w1.heap.size ≠ w.heap.size := by omega
      have e5 : w.heap.size ≠ w2.heap.size + 1 := by omega
      have e6 : w2.heap.size + 1 ≠ w.heap.size := by omega
      have e7 : w2.heap.size ≠ w1.heap.size := by omega
      have e8 : w1.heap.size ≠ w2.heap.size := by omega
      have B1 := tZ (HI.out.fail (S := [symB (lv n) d]) (c1 := 2 * n) (i := i) (m := m + 2 + m3) HB2.out hk3 hr3 her (by omega) (fun K q => by
       rw [show m + 2 + m3 + q = m + (m3 + q + 1 + 1) by omega, HTo.out K (m3 + q + 1 + 1), List.singleton_append, step_sym len ts (tl n) d i' (m3 + q + 1) K (by omega), HGO.out, List.cons_append, step_tok len ts _ i' (m3 + q) _ (HOK.out.tk hi') rfl]
       exact hno3 ((if n = 3 then [] else [symB (tl n) d]) ++ K) q) k' (.int .i64 kk3) (.string ⟨s3.toArray⟩) (.int .i64 nn3) (.slice a3 l3 c3) (.cells #[.int .i64 (p.k : Int), .string ⟨p.nm.toArray⟩, .int .i64 (p.n : Int), .slice a l c, .int .i64 kk3, .string ⟨s3.toArray⟩, .int .i64 nn3, .slice a3 l3 c3] 49))
      clear hr3 her hk3 hno3
      refine tZ ?_
      by_cases h3 : n = 3
      ·have h3b : ((n : Int) == 3) = true := by simp [h3]
       clear h3
       go_wp2
       refine bodyPost_ret (v := .tuple #[.agg #[.int .i64 (k' : Int), .string ⟨#[]⟩, .int .i64 0, .slice (some ⟨w3.heap.size, 0, none⟩) 2 2], .bool false]) (by simp [results, Tryz.results91, go_sem, k0, k1, k2, k3, hsz3]) rfl ?_
       rw [← st4_alloc _ _ w.heap.size (by rw [size4, size4]; exact hsz3)]
       exact B1.out.post _ _ _ _
      ·have h3b : ((n : Int) == 3) = false := beq_eq_false_iff_ne.2 (by omega)
       clear h3
       go_wp2
       go_roundg 0
       case measure => omega
       case rel => exact Or.inr ⟨rfl, (k' : Int), 0, [], some ⟨w3.heap.size, 0, none⟩, 2, 2, B1⟩
    ·have hbt' : inB (tAt ts i') (sgn n) = false := by simpa using hbt
     have hne : betwW.getD k' 0 ≠ (n : Int) := fun h => hbt (HBS.out.1 h)
     generalize betwW.getD k' 0 = bv at hc' hne
     have hbb : (bv == (n : Int)) = false := beq_eq_false_iff_ne.2 hne
     have B5 := tZ (show Go1 len ts [symB (lv n) d] i i' (m + 1) from fun K q => by
      rw [show m + 1 + q = m + (q + 1) by omega, HTo.out K (q + 1), List.singleton_append, step_sym len ts (tl n) d i' q K (by omega), bec_tl_stop n hn1 hn5 d _ hbt']
      rfl)
     have B6 := tZ (show Der ts n i i' p by
      have := HDe.out
      by_cases h3 : n = 3
      ·subst h3; exact Der.up 3 i i' p hn1 hn5 this
      ·rw [if_neg h3] at this; exact this)
     have e3 : w.heap.size ≠ w1.heap.size := by omega
     have e4 : w1.heap.size ≠ w.heap.size := by omega
     clear hbt hbt' hne HBS
     go_wp2_with (first | (go_at_call 119; refine H'.out.mono ?_; rw [HK'.out]; rintro r w' ⟨rfl, rfl⟩))
     refine bodyPost_ret (v := .tuple #[.agg #[.int .i64 (p.k : Int), .string ⟨p.nm.toArray⟩, .int .i64 (p.n : Int), .slice a l c], .bool true]) (by simp [results, Tryz.results91, go_sem, k0, k1, k2, k3]) rfl ?_
     exact HI.out.post (m := m + 1) B6.out (by omega) (by omega) B5.out _ _ _ _
   ·obtain ⟨⟨k0, k1, k2, k3⟩, ⟨f0, f1, f2, f3⟩, hsz⟩ := row4 HFs.out.res
    obtain ⟨⟨q0, q1, q2, q3⟩, ⟨g0, g1, g2, g3⟩, hszW⟩ := row4 HFs.out.whl
    go_wp2
    refine bodyPost_ret (v := .tuple #[.agg #[.int .i64 kk, .string ⟨s.toArray⟩, .int .i64 nn, .slice a l c], .bool false]) (by simp [results, Tryz.results91, go_sem, k0, k1, k2, k3]) rfl ?_
    exact HFs.out.post _ _ _ _
 ·have hR1 := hk1'.blk (q := w.heap.size) (heap_alloc_new w _) (by omega)
  have hszR := (Array.getElem?_eq_some_iff.1 hR1).1
  have A1 := tZ (show LvF len ts [symB (lv n) d] (2 * n) b bl cp w w1.heap.size i (w1.alloc (.cells #[.int .i64 kk1, .string ⟨s1.toArray⟩, .int .i64 nn1, .slice a1 l1 c1] 49)) kk1 nn1 s1 a1 l1 c1 from
   ⟨⟨i1, m1 + 1, d1, er, hr1.next (bZ _), her, by omega, fun K q => by
    rw [show m1 + 1 + q = m1 + q + 1 by omega, List.singleton_append, step_sym len ts (lv n) d i (m1 + q) K (by omega), HBEC.out]
    exact hno1 (symB (tl n) d :: K) q⟩, (((Kp.of (bZ _) hs).trans hk1').next (bZ _) (by omega)), (Below.heap_alloc _ _ _ hszR).trans hR1, heap_alloc_new _ _, hs⟩)
  clear hr1 her hk1' hno1 hR1 hc
  refine tZ ?_
  go_wp2
  go_loopg [7] 0 (fun _ okv wr => okv = .bool false ∧ Hid (LvF len ts [symB (lv n) d] (2 * n) b bl cp w w1.heap.size i wr kk1 nn1 s1 a1 l1 c1))
  case atStart => exact ⟨rfl, A1⟩
  case round =>
   obtain ⟨rfl, HFs⟩ := hrel
   obtain ⟨⟨k0, k1, k2, k3⟩, ⟨f0, f1, f2, f3⟩, hsz⟩ := row4 HFs.out.res
   obtain ⟨⟨q0, q1, q2, q3⟩, ⟨g0, g1, g2, g3⟩, hszW⟩ := row4 HFs.out.whl
   go_wp2
   refine bodyPost_ret (v := .tuple #[.agg #[.int .i64 kk1, .string ⟨s1.toArray⟩, .int .i64 nn1, .slice a1 l1 c1], .bool false]) (by simp [results, Tryz.results91, go_sem, k0, k1, k2, k3]) rfl ?_
   exact HFs.out.post _ _ _ _
theorem level29 (hok : OkT ts) (F : Nat) : LvAll len ts b bl cp F := by
 induction F with
 | zero => intro n i d e w _ _ _ h; omega
 | succ F IH =>
  intro n i d e w hn1 hn6 hd hF hS
  have hlt := hS.rd.lt
  obtain ⟨k, hcl, hkk, hk20, hk0⟩ := hok.cls hlt
  by_cases ha : aheadW.getD k 0 = (n : Int)
  ·have hA : Ahead n (tAt ts i) := (ahead_iff _ k hcl n hn1 hn6).1 ha
   have hi : i < ts.length := by
    rcases hA with ⟨_, h⟩ | ⟨_, h⟩
    ·exact at_lt (by decide) h
    ·exact at_lt (by decide) h
   exact lv_ahead k n i d e w hS hk20 hkk ha _ _ _ fun w1 hS1 => behindSign43 hok F IH n i d e w1 hd hi hA hF hS1
  ·by_cases h6 : n = 6
   ·subst h6
    have hm : tAt ts i ≠ [45] := fun h => ha ((ahead_iff _ k hcl 6 (by omega) (by omega)).2 (Or.inr ⟨rfl, h⟩))
    exact lv_atom k i d e w hS hk20 hkk ha _ _ _ fun w1 hS1 => atom44 hok F IH i d e w1 hd hm (by omega) hS1
   ·have hb : becB (lv n) d (tAt ts i) = [symB (lv (n + 1)) d, symB (tl n) d] :=
     bec_lv n hn1 (by omega) d _ (fun h3 ht => ha ((ahead_iff _ k hcl n hn1 hn6).2 (Or.inl ⟨h3, ht⟩)))
    exact lv_go hok F IH k n i d hn1 (by omega) e w hd hF hS hk20 hkk ha hb
end
end
section
theorem Env.spellAt {w : World} (h : Env w) (k : Nat) (hk : k < 20) : w.cell? ⟨5, k * 3, none⟩ = some (.string ⟨(ahd k).toArray⟩) ∧ w.cell? ⟨5, k * 3 + 1, none⟩ = some (.string ⟨(btw k).toArray⟩) ∧ w.cell? ⟨5, k * 3 + 2, none⟩ = some (.string ⟨(bhd k).toArray⟩) := by
 obtain ⟨t, fr, hb⟩ := h.spell
 rw [cell_of_row w 5 _ _ _ _ hb, cell_of_row w 5 _ _ _ _ hb, cell_of_row w 5 _ _ _ _ hb]
 rcases (show k = 0 ∨ k = 1 ∨ k = 2 ∨ k = 3 ∨ k = 4 ∨ k = 5 ∨ k = 6 ∨ k = 7 ∨ k = 8 ∨ k = 9 ∨ k = 10 ∨ k = 11 ∨ k = 12 ∨ k = 13 ∨ k = 14 ∨ k = 15 ∨ k = 16 ∨ k = 17 ∨ k = 18 ∨ k = 19 by omega) with rfl | rfl | rfl | rfl | rfl | rfl | rfl | rfl | rfl | rfl | rfl | rfl | rfl | rfl | rfl | rfl | rfl | rfl | rfl | rfl <;> exact ⟨rfl, rfl, rfl⟩
def Good : Pt → Prop
 | .atom k _ n => k < 20 ∧ n ≤ top63
 | .un k a => k < 20 ∧ Good a
 | .bin k a b => k < 20 ∧ Good a ∧ Good b
 | .ifs a b c => Good a ∧ Good b ∧ Good c
theorem Good.get {p : Pt} (h : Good p) : p.k < 20 ∧ p.n ≤ top63 ∧ ∀ j (hj : j < p.kids.length), Good p.kids[j] := by
 cases p with
 | atom k x n => exact ⟨h.1, h.2, fun j hj => by simp [Pt.kids] at hj⟩
 | un k a =>
  refine ⟨h.1, Nat.zero_le _, fun j hj => ?_⟩
  obtain rfl : j = 0 := by simp [Pt.kids] at hj; omega
  exact h.2
 | bin k a b =>
  refine ⟨h.1, Nat.zero_le _, fun j hj => ?_⟩
  rcases (show j = 0 ∨ j = 1 by simp [Pt.kids] at hj; omega) with rfl | rfl
  ·exact h.2.1
  ·exact h.2.2
 | ifs a b c =>
  refine ⟨by show 3 < 20; omega, Nat.zero_le _, fun j hj => ?_⟩
  rcases (show j = 0 ∨ j = 1 ∨ j = 2 by simp [Pt.kids] at hj; omega) with rfl | rfl | rfl
  ·exact h.1
  ·exact h.2.1
  ·exact h.2.2
theorem Cls.lt {t : By} {k : Nat} (h : Cls t k) : k < 20 := by
 rcases h with ⟨_, rfl⟩ | ⟨_, _, rfl⟩ | ⟨_, rfl⟩ | hm
 ·omega
 ·omega
 ·omega
 ·exact (show ∀ x, x ∈ meanN → x.2 < 20 by decide) _ hm
theorem nuB_le (t : By) (h : tokOK t = true) : nuB t ≤ top63 := by
 unfold nuB
 by_cases hD : headD t = true
 ·rw [hD]
  simp only [if_true]
  unfold tokOK at h
  rw [hD] at h
  simp only [if_true, Bool.and_eq_true, decide_eq_true_eq] at h
  exact h.2
 ·rw [if_neg hD]
  exact Nat.zero_le _
theorem Der.good {ts : List (By × Nat)} (hok : OkT ts) {n i j : Nat} {p : Pt} (h : Der ts n i j p) : Good p := by
 induction h with
 | atom i k hi hc _ => exact ⟨hc.lt, nuB_le _ (hok.get hi).1⟩
 | nots _ _ _ _ _ ih => exact ⟨by decide, ih⟩
 | neg _ _ _ _ _ ih => exact ⟨by decide, ih⟩
 | br _ _ _ _ _ _ ih => exact ⟨by decide, ih⟩
 | ifs _ _ _ _ _ _ _ _ _ _ _ _ _ _ _ iha ihb ihc => exact ⟨iha, ihb, ihc⟩
 | up _ _ _ _ _ _ _ ih => exact ih
 | more _ _ _ _ _ _ _ _ _ _ _ hc _ iha ihb => exact ⟨hc.lt, iha, ihb⟩
def Bu (b : Nat) (acc : By) (w : World) : Prop := Lib.IsBuilderF 129 5 b b (Lib.byteCells acc) w ∧ b < w.heap.size
structure Okw (b : Nat) (w w' : World) : Prop where
 bel : Below b w w'
 oth : Lib.OthersKept 5 (some b) w w'
theorem Okw.trans {b : Nat} {w w' w'' : World} (h : Okw b w w') (g : Okw b w' w'') : Okw b w w'' := ⟨h.bel.trans g.bel, h.oth.trans g.oth⟩
theorem Okw.refl (b : Nat) (w : World) : Okw b w w := ⟨Below.refl _ _, Lib.OthersKept.refl _ _ _⟩
theorem Okw.next {b : Nat} {w w' w'' : World} (h : Okw b w w') (g : Below w'.heap.size w' w'') (hb : b ≤ w'.heap.size) : Okw b w w'' := ⟨h.bel.trans (g.mono hb), fun k o hk h1 h2 => by
 have h3 := h.oth k o hk h1 h2
 rw [g.block k (Array.getElem?_eq_some_iff.1 h3).1]
 exact h3⟩
theorem buAt_next {T e : TypeId} {B b : Nat} {p : Value} {bs : List Value} {w w' : World} (h : Lib.BuilderAtF T e B b p bs w) (g : Below w.heap.size w w') : Lib.BuilderAtF T e B b p bs w' := by
 have hlt := h.lt
 obtain ⟨h1, v, h2, h3, h4⟩ := h
 refine ⟨h1, v, (g.block b hlt).trans h2, h3.kept (row := none) ⟨g.os, g.tape, g.output, g.size, fun k hk _ => g.block k hk⟩ ?_, h4⟩
 cases v.ownBlock with
 | none => exact Or.inl rfl
 | some x => exact Or.inr (by simp)
theorem Bu.next {b : Nat} {acc : By} {w w' : World} (h : Bu b acc w) (g : Below w.heap.size w w') : Bu b acc w' := ⟨h.1.elim (fun x => Or.inl (buAt_next x g)) (fun x => Or.inr (buAt_next x g)), Nat.lt_of_lt_of_le h.2 g.size⟩
theorem Okw.blk {b q : Nat} {w w' : World} {cs : Array Value} {t : TypeId} {fr : Nat × Nat} (h : Okw b w w') (hq : w.heap[q]? = some (.cells cs t fr)) (hn : q ≠ b) (ht : t ≠ 5) : w'.heap[q]? = some (.cells cs t fr) :=
 h.oth q _ hq (by simpa using hn) (fun c fz e => by simp only [Obj.cells.injEq] at e; exact ht e.2.1)
theorem wstr (b : Nat) (acc s : By) (w : World) (h : Bu b acc w) (hl : acc.length + s.length ≤ 1000000) :
  Calls Tryz.prog 64 #[.pointer (some ⟨b, 0, none⟩), .string ⟨s.toArray⟩] w fun e w' => e = .returned (.tuple #[.int .i64 (s.length : Int), .nilIface]) ∧ Bu b (acc ++ s) w' ∧ Okw b w w' := by
 refine (Tryz.Builder_WriteString_k b b _ ⟨s.toArray⟩ w h.1 (by show (acc.map _).length + s.length ≤ _; rw [List.length_map]; omega) (by have := h.2; omega)).mono ?_
 rintro e w' ⟨rfl, hB, hb, hk⟩
 refine ⟨rfl, ⟨?_, Nat.lt_of_lt_of_le h.2 hb.size⟩, hb, hk⟩
 have e1 : Lib.byteCells (acc ++ s) = Lib.byteCells acc ++ Lib.strCells ⟨s.toArray⟩ := by
  show (acc ++ s).map _ = acc.map _ ++ s.map _
  rw [List.map_append]
 rw [e1]
 exact Or.inr hB
theorem jn_take_succ (bt : By) (l : List By) (j : Nat) (h : j < l.length) : jn bt (l.take (j + 1)) = jn bt (l.take j) ++ (if j = 0 then [] else bt) ++ l[j] := by
 rw [List.take_succ_eq_append_getElem h, jn_snoc]
 congr 2
 by_cases hj : j = 0
 ·subst hj; simp
 ·rw [if_neg hj, if_neg]
  intro e
  have e2 := congrArg List.length e
  rw [List.length_take, List.length_nil] at e2
  omega
theorem jn_take_le (bt : By) (l : List By) (j : Nat) : (jn bt (l.take j)).length ≤ (jn bt l).length := by
 induction l generalizing j with
 | nil => simp
 | cons x l _ =>
  cases j with
  | zero => simp [jn]
  | succ j =>
   simp only [List.take_succ_cons, jn, List.length_append]
   have : ((l.take j).flatMap fun y => bt ++ y).length ≤ (l.flatMap fun y => bt ++ y).length := by
    conv => rhs; rw [← List.take_append_drop j l, List.flatMap_append, List.length_append]
    omega
   omega
def wr0 (p : Pt) : By := ahd p.k ++ p.nm ++ numT p.k p.n
def wrTo (p : Pt) (j : Nat) : By := wr0 p ++ jn (btw p.k) ((p.kids.map txt).take j)
theorem txt_wr (p : Pt) : txt p = wrTo p p.kids.length ++ bhd p.k := by
 rw [txt_eq]
 unfold wrTo wr0
 rw [List.take_of_length_le (by simp)]
theorem wrTo_succ (p : Pt) (j : Nat) (h : j < p.kids.length) : wrTo p (j + 1) = wrTo p j ++ (if j = 0 then [] else btw p.k) ++ txt p.kids[j] := by
 unfold wrTo
 rw [jn_take_succ _ _ j (by simpa using h), List.getElem_map]
 simp
theorem wrTo_le (p : Pt) (j : Nat) : (wrTo p j).length + (bhd p.k).length ≤ (txt p).length := by
 rw [txt_eq]
 unfold wrTo wr0
 have := jn_take_le (btw p.k) (p.kids.map txt) j
 simp only [List.length_append] at *
 omega
end
end Go.Proofs.YtihgojcfpnhelabGreatDoor
