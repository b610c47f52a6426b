import Derived.Test.YtihgojcfpnhelabGreatDoorS2Mc
set_option maxRecDepth 100000
set_option maxHeartbeats 4000000
set_option linter.unusedVariables false
set_option linter.unusedSimpArgs false
namespace Go.Proofs.YtihgojcfpnhelabGreatDoor
open Go.RowKit
section
theorem ofTwo206 (r : Value) (p : Pt) (a : Option Addr) (n c : Nat) (w : World) (q : Nat → Pt) (A : Nat → Option Addr) (L C : Nat → Nat) (v : Nat → Vl) (hn : n = 2) (hK : KidsAt w a n q A L C) (hV : KidsV r w n q A L C v) :
  Calls Tryz.prog 165 #[.agg #[namedV r], .agg #[.int .i64 (p.k : Int), .string ⟨p.nm.toArray⟩, .int .i64 (p.n : Int), .slice a n c]] w (VPost (vTwo p.k (v 0) (v 1)) w) := by
 subst hn
 obtain ⟨g, rfl, hg, c0, c1, c2, c3⟩ := hK 0 (by omega)
 obtain ⟨g', hgg, _, d0, d1, d2, d3⟩ := hK 1 (by omega)
 obtain rfl : g = g' := by simpa using hgg
 rw [Nat.zero_mul] at c0 c1 c2 c3
 rw [Nat.one_mul] at d0 d1 d2 d3
 have HV := tZ hV
 have hn1 : (0 : Int) < ((2 : Nat) : Int) := by omega
 have hn2 : (1 : Int) < ((2 : Nat) : Int) := by omega
 obtain ⟨W4, hW4⟩ : ∃ W4, W4 = (((w.alloc (.cells #[namedV r] 204)).alloc (.cells #[.int .i64 (p.k : Int), .string ⟨p.nm.toArray⟩, .int .i64 (p.n : Int), .slice (some ⟨g, 0, none⟩) 2 c] 49)).alloc (.cells #[.int .i64 0, .int .i64 0] 96)) := ⟨_, rfl⟩
 have hs4 : W4.heap.size = w.heap.size + 1 + 1 + 1 := by rw [hW4]; simp
 have hb4 : Below w.heap.size w W4 := by rw [hW4]; exact below3 w _ _ _
 have r0 : W4.heap[w.heap.size]? = some (.cells #[namedV r] 204 (0, 0)) := by
  rw [hW4, Below.heap_alloc _ _ _ (by simp; omega), Below.heap_alloc _ _ _ (by simp)]; exact heap_alloc_new w _
 have r2 : W4.heap[w.heap.size + 1]? = some (.cells #[.int .i64 (p.k : Int), .string ⟨p.nm.toArray⟩, .int .i64 (p.n : Int), .slice (some ⟨g, 0, none⟩) 2 c] 49 (0, 0)) := by
  rw [hW4, Below.heap_alloc _ _ _ (by simp)]; exact alloc2_new' w _ _ _
 have r3 : W4.heap[w.heap.size + 1 + 1]? = some (.cells #[.int .i64 0, .int .i64 0] 96 (0, 0)) := by
  rw [hW4]; exact alloc3_new w _ _ _ _
 have C0 := (hb4.cell (p := ⟨g, 0, none⟩) hg).trans c0
 have C1 := (hb4.cell (p := ⟨g, 0 + 1, none⟩) hg).trans c1
 have C2 := (hb4.cell (p := ⟨g, 0 + 2, none⟩) hg).trans c2
 have C3 := (hb4.cell (p := ⟨g, 0 + 3, none⟩) hg).trans c3
 rw [Nat.zero_add] at C1 C2 C3
 obtain ⟨i0, _, _⟩ := row1 r0
 obtain ⟨⟨_, _, _, i2⟩, _, _⟩ := row4 r2
 have HB4 := tZ hb4
 have HR := tZ (And.intro r0 (And.intro r2 r3))
 have HW4 := tZ hW4
 have hg4 : g < W4.heap.size := by omega
 have hx0 : w.heap.size < W4.heap.size := by omega
 have hx2 : w.heap.size + 1 < W4.heap.size := by omega
 have hx3 : w.heap.size + 1 + 1 < W4.heap.size := by omega
 clear hK hV hgg
 have HCA := tZ (show Calls Tryz.prog 128 #[.agg #[namedV r], .agg #[.int .i64 ((q 0).k : Int), .string ⟨((q 0).nm).toArray⟩, .int .i64 ((q 0).n : Int), .slice (A 0) (L 0) (C 0)]] W4.drew fun e w1 => e = .returned (.agg #[.int .i64 (v 0).1, .int .i64 (v 0).2]) ∧ Below W4.heap.size W4 w1 from
  ((HV.out.next (w' := W4.drew) hb4.drew) 0 (by omega) _ (Below.refl _ _)).mono fun e w1 h => ⟨h.1, (Below.refl _ _).drew.trans h.2⟩)
 have HCB := tZ (show Calls Tryz.prog 128 #[.agg #[namedV r], .agg #[.int .i64 ((q 0).k : Int), .string ⟨((q 0).nm).toArray⟩, .int .i64 ((q 0).n : Int), .slice (A 0) (L 0) (C 0)]] (W4.alloc (.cells #[.int .i64 0, .int .i64 0] 96)).drew fun e w1 => e = .returned (.agg #[.int .i64 (v 0).1, .int .i64 (v 0).2]) ∧ Below W4.heap.size W4 w1 ∧ w1.heap[W4.heap.size]? = some (.cells #[.int .i64 0, .int .i64 0] 96 (0, 0)) from
  ((HV.out.next (w' := (W4.alloc (.cells #[.int .i64 0, .int .i64 0] 96)).drew) (hb4.alloc hb4.size _).drew) 0 (by omega) _ (Below.refl _ _)).mono fun e w1 h => ⟨h.1, (bZ _).drew.trans (h.2.mono (by show W4.heap.size ≤ (W4.alloc _).heap.size; simp)), (h.2.block W4.heap.size (by show W4.heap.size < (W4.alloc _).heap.size; simp)).trans (heap_alloc_new W4 _)⟩)
 go_enter Tryz.func165, Tryz.ntmps165
 go_upto_region 1 with fail
 rw [← HW4.out]
 have HS4 := tZ hs4
 clear hW4 HW4 r0 r2 r3 hs4 hb4
 go_cut [5] (fun s7 wc => ∃ gF, s7 = .pointer (some ⟨gF, 0, none⟩) ∧ W4.heap.size ≤ gF ∧ Hid (Below W4.heap.size W4 wc) ∧ wc.heap[gF]? = some (.cells #[.int .i64 (v 0).1, .int .i64 (v 0).2] 96 (0, 0)))
 case first =>
  go_region_with (first | (go_at_call 128; refine HCA.out.mono ?_; rintro e w1 ⟨rfl, hb1⟩; have B1 := tZ hb1; clear hb1) | (go_at_call 128; refine HCB.out.mono ?_; rintro e w1 ⟨rfl, hb1, hF⟩; obtain ⟨⟨y0, y1⟩, ⟨z0, z1⟩, hsF⟩ := row2 hF; have B1 := tZ hb1; have B2 := tZ hF; clear hb1 hF))
  all_goals (go_wp2_with fail; go_meet; first | exact ⟨_, rfl, B1.out.size, B1.out.alloc B1.out.size _, heap_alloc_new _ _⟩ | exact ⟨_, rfl, Nat.le_refl _, (B1.out.setCell (p := ⟨W4.heap.size, 0, none⟩) (Nat.le_refl _) _).setCell (p := ⟨W4.heap.size, 1, none⟩) (Nat.le_refl _) _, row2_st2 B2.out _ _⟩)
 case rest =>
 generalize wc = wz at *
 obtain ⟨gF, rfl, hgF, HBc, hF⟩ := hcut
 obtain ⟨R0, R2, R3⟩ := HR.out
 have hszc := HBc.out.size
 obtain ⟨⟨x0, x1⟩, _, hsF⟩ := row2 hF
 obtain ⟨i0', _, _⟩ := row1 ((HBc.out.block _ hx0).trans R0)
 obtain ⟨⟨jk, _, _, j2⟩, _, _⟩ := row4 ((HBc.out.block _ hx2).trans R2)
 obtain ⟨⟨k0, k1⟩, ⟨f0, f1⟩, hszR⟩ := row2 ((HBc.out.block _ hx3).trans R3)
 have HFR := tZ ((HBc.out.block _ hx3).trans R3)
 have HBw := tZ (HB4.out.trans (HBc.out.mono HB4.out.size))
 have e0 := (HBw.out.cell (p := ⟨g, 4, none⟩) hg).trans d0
 have e1 := (HBw.out.cell (p := ⟨g, 5, none⟩) hg).trans d1
 have e2 := (HBw.out.cell (p := ⟨g, 6, none⟩) hg).trans d2
 have e3 := (HBw.out.cell (p := ⟨g, 7, none⟩) hg).trans d3
 have HD1 := tZ (show Calls Tryz.prog 128 #[.agg #[namedV r], .agg #[.int .i64 ((q 1).k : Int), .string ⟨((q 1).nm).toArray⟩, .int .i64 ((q 1).n : Int), .slice (A 1) (L 1) (C 1)]] wz.drew fun e w1 => e = .returned (.agg #[.int .i64 (v 1).1, .int .i64 (v 1).2]) ∧ Below wz.heap.size wz w1 from
  ((HV.out.next (w' := wz.drew) HBw.out.drew) 1 (by omega) _ (Below.refl _ _)).mono fun e w1 h => ⟨h.1, (Below.refl _ _).drew.trans h.2⟩)
 have HD2 := tZ (show Calls Tryz.prog 128 #[.agg #[namedV r], .agg #[.int .i64 ((q 1).k : Int), .string ⟨((q 1).nm).toArray⟩, .int .i64 ((q 1).n : Int), .slice (A 1) (L 1) (C 1)]] (wz.alloc (.cells #[.int .i64 0, .int .i64 0] 96)).drew fun e w1 => e = .returned (.agg #[.int .i64 (v 1).1, .int .i64 (v 1).2]) ∧ Below wz.heap.size wz w1 ∧ w1.heap[wz.heap.size]? = some (.cells #[.int .i64 0, .int .i64 0] 96 (0, 0)) from
  ((HV.out.next (w' := (wz.alloc (.cells #[.int .i64 0, .int .i64 0] 96)).drew) (HBw.out.alloc HBw.out.size _).drew) 1 (by omega) _ (Below.refl _ _)).mono fun e w1 h => ⟨h.1, (bZ _).drew.trans (h.2.mono (by show wz.heap.size ≤ (wz.alloc _).heap.size; simp)), (h.2.block wz.heap.size (by show wz.heap.size < (wz.alloc _).heap.size; simp)).trans (heap_alloc_new wz _)⟩)
 have HI := tZ (fun k x y W => ofInts229 k x y W)
 have HT := tZ (fun bb W => truth200 bb W)
 have HFa := tZ (fun n W => failure228 n W)
 have HFF := tZ hF
 have HPP := tZ ((HBc.out.block _ hx2).trans R2)
 have hgc : g < wz.heap.size := by omega
 have hxc0 : w.heap.size < wz.heap.size := by omega
 have hxc2 : w.heap.size + 1 < wz.heap.size := by omega
 clear R0 R2 R3 i0 i2 C0 C1 C2 C3 c0 c1 c2 c3 d0 d1 d2 d3 HCA HCB hF
 generalize hv0 : v 0 = vf at *
 generalize hv1 : v 1 = vg at *
 obtain ⟨ak, an⟩ := vf
 obtain ⟨bk, bn⟩ := vg
 clear hv0 hv1
 by_cases hak : ak = 3
 ·have qa : (ak == 3) = true := by simp [hak]
  have HU := tZ (show vTwo p.k (ak, an) (bk, bn) = (ak, an) by unfold vTwo; rw [if_pos hak])
  clear hak
  go_wp2
  refine bodyPost_ret (v := .agg #[.int .i64 ak, .int .i64 an]) (by simp [results, Tryz.results165, go_sem, k0, k1]) rfl ?_
  rw [HU.out]
  exact ⟨rfl, below_st2 HBw.out _ (by omega) _ _⟩
 ·have qa : (ak == 3) = false := beq_eq_false_iff_ne.2 hak
  have HAK := tZ hak
  clear hak
  go_upto_region 4 with fail
  go_cut [6] (fun s6 wd => ∃ gS, s6 = .pointer (some ⟨gS, 0, none⟩) ∧ wz.heap.size ≤ gS ∧ Hid (Below wz.heap.size wz wd) ∧ wd.heap[gS]? = some (.cells #[.int .i64 bk, .int .i64 bn] 96 (0, 0)))
  case first =>
   go_region_with (first | (go_at_call 128; refine HD1.out.mono ?_; rintro e w1 ⟨rfl, hb1⟩; have B1 := tZ hb1; clear hb1) | (go_at_call 128; refine HD2.out.mono ?_; rintro e w1 ⟨rfl, hb1, hF⟩; obtain ⟨⟨y0, y1⟩, ⟨z0, z1⟩, hsF⟩ := row2 hF; have B1 := tZ hb1; have B2 := tZ hF; clear hb1 hF))
   all_goals (go_wp2_with fail; go_meet; first | exact ⟨_, rfl, B1.out.size, B1.out.alloc B1.out.size _, heap_alloc_new _ _⟩ | exact ⟨_, rfl, Nat.le_refl _, (B1.out.setCell (p := ⟨wz.heap.size, 0, none⟩) (Nat.le_refl _) _).setCell (p := ⟨wz.heap.size, 1, none⟩) (Nat.le_refl _) _, row2_st2 B2.out _ _⟩)
  case rest =>
  obtain ⟨gS, rfl, hgS, HBd, hG⟩ := hcut
  have hszd := HBd.out.size
  obtain ⟨⟨s0, s1⟩, _, hsS⟩ := row2 hG
  clear x0 x1 k0 k1 f0 f1 jk j2 i0' e0 e1 e2 e3
  obtain ⟨⟨x0, x1⟩, _, _⟩ := row2 ((HBd.out.block _ hsF).trans HFF.out)
  obtain ⟨⟨jk, _, _, _⟩, _, _⟩ := row4 ((HBd.out.block _ hxc2).trans HPP.out)
  have hRd := (HBd.out.block _ hszR).trans HFR.out
  obtain ⟨⟨k0, k1⟩, ⟨f0, f1⟩, hszRd⟩ := row2 hRd
  have HRd := tZ hRd
  have HBwd := tZ (HBw.out.trans (HBd.out.mono HBw.out.size))
  clear hG hRd HD1 HD2
  have HFIN := tZ (show ∀ (u : Vl) w5, Below wc.heap.size wc w5 → ((w5.cell? ⟨w.heap.size + 1 + 1, 0, none⟩ = some (.int .i64 0) ∧ w5.cell? ⟨w.heap.size + 1 + 1, 1, none⟩ = some (.int .i64 0)) ∧ (w5.frozen? ⟨w.heap.size + 1 + 1, 0, none⟩ = false ∧ w5.frozen? ⟨w.heap.size + 1 + 1, 1, none⟩ = false) ∧ w.heap.size + 1 + 1 < w5.heap.size) ∧ VPost u w (.returned (.agg #[.int .i64 u.1, .int .i64 u.2])) ((w5.setCell ⟨w.heap.size + 1 + 1, 0, none⟩ (.int .i64 u.1)).setCell ⟨w.heap.size + 1 + 1, 1, none⟩ (.int .i64 u.2)) from fun u w5 hb => ⟨row2 ((hb.block _ hszRd).trans HRd.out), rfl, below_st2 (HBwd.out.trans (hb.mono HBwd.out.size)) _ (by omega) _ _⟩)
  by_cases hbk : bk = 3
  ·have qb : (bk == 3) = true := by simp [hbk]
   have HU := tZ (show vTwo p.k (ak, an) (bk, bn) = (bk, bn) by unfold vTwo; rw [if_neg HAK.out, if_pos hbk])
   clear hbk
   go_wp2
   refine bodyPost_ret (v := .agg #[.int .i64 bk, .int .i64 bn]) (by simp [results, Tryz.results165, go_sem, k0, k1]) rfl ?_
   rw [HU.out]
   exact ⟨rfl, below_st2 HBwd.out _ (by omega) _ _⟩
  ·have qb : (bk == 3) = false := beq_eq_false_iff_ne.2 hbk
   by_cases h11 : ak = 1 ∧ bk = 1
   ·have qc : (ak == 1) = true := by simp [h11.1]
    have qd : (bk == 1) = true := by simp [h11.2]
    have HU := tZ (show vTwo p.k (ak, an) (bk, bn) = vInts p.k an bn by unfold vTwo; rw [if_neg HAK.out, if_neg hbk, if_pos h11])
    clear h11 hbk
    go_wp2_with (first | (go_at_call 177; refine (HI.out p.k an bn _).mono ?_; rintro e w5 ⟨rfl, hb5⟩; refine Hid.out ?_))
    clear k0 k1 f0 f1
    obtain ⟨⟨⟨k0, k1⟩, ⟨f0, f1⟩, hs5⟩, hfin⟩ := HFIN.out (vInts p.k an bn) _ hb5
    have HE := tZ hfin
    clear hfin hb5
    generalize hvv : vInts p.k an bn = vv at *
    have HVV := tZ hvv
    clear hvv
    refine tZ ?_
    go_wp2
    refine bodyPost_ret (v := .agg #[.int .i64 vv.1, .int .i64 vv.2]) (by simp [results, Tryz.results165, go_sem, k0, k1]) rfl ?_
    rw [HU.out]
    exact HE.out
   ·by_cases h1 : ak = 1
    ·have hb1 : bk ≠ 1 := fun h => h11 ⟨h1, h⟩
     have qc : (ak == 1) = true := by simp [h1]
     have qd : (bk == 1) = false := beq_eq_false_iff_ne.2 hb1
     have qe : (ak == bk) = false := beq_eq_false_iff_ne.2 (by omega)
     have HU := tZ (show vTwo p.k (ak, an) (bk, bn) = (3, 2) by unfold vTwo; rw [if_neg HAK.out, if_neg hbk, if_neg h11, if_neg (fun h => hb1 (h.1.symm.trans h1))]; rfl)
     clear h11 hbk h1 hb1
     go_wp2_with (first | (go_at_call 176; refine (HFa.out 2 _).mono ?_; rintro e w5 ⟨rfl, hb5⟩; refine Hid.out ?_))
     clear k0 k1 f0 f1
     obtain ⟨⟨⟨k0, k1⟩, ⟨f0, f1⟩, hs5⟩, hfin⟩ := HFIN.out (3, 2) _ hb5
     have HE := tZ hfin
     clear hfin hb5
     refine tZ ?_
     go_wp2
     refine bodyPost_ret (v := .agg #[.int .i64 3, .int .i64 2]) (by simp [results, Tryz.results165, go_sem, k0, k1]) rfl ?_
     rw [HU.out]
     exact HE.out
    ·have qc : (ak == 1) = false := beq_eq_false_iff_ne.2 h1
     by_cases he : ak = bk
     ·have qe : (ak == bk) = true := by simp [he]
      by_cases h18 : p.k = 18
      ·have qf : ((p.k : Int) == 18) = true := by simp [h18]
       have HU := tZ (show vTwo p.k (ak, an) (bk, bn) = vTruth (an == bn) by unfold vTwo; rw [if_neg HAK.out, if_neg hbk, if_neg h11, if_pos ⟨he, h18⟩])
       clear h11 hbk h1 he h18
       go_wp2_with (first | (go_at_call 159; refine (HT.out (an == bn) _).mono ?_; rintro e w5 ⟨rfl, hb5⟩; refine Hid.out ?_))
       clear k0 k1 f0 f1
       obtain ⟨⟨⟨k0, k1⟩, ⟨f0, f1⟩, hs5⟩, hfin⟩ := HFIN.out (vTruth (an == bn)) _ hb5
       have HE := tZ hfin
       clear hfin hb5
       generalize hvv : vTruth (an == bn) = vv at *
       have HVV := tZ hvv
       clear hvv
       refine tZ ?_
       go_wp2
       refine bodyPost_ret (v := .agg #[.int .i64 vv.1, .int .i64 vv.2]) (by simp [results, Tryz.results165, go_sem, k0, k1]) rfl ?_
       rw [HU.out]
       exact HE.out
      ·have qf : ((p.k : Int) == 18) = false := beq_eq_false_iff_ne.2 (by omega)
       have HU := tZ (show vTwo p.k (ak, an) (bk, bn) = (3, 2) by unfold vTwo; rw [if_neg HAK.out, if_neg hbk, if_neg h11, if_neg (fun h => h18 h.2)]; rfl)
       clear h11 hbk h1 he h18
       go_wp2_with (first | (go_at_call 176; refine (HFa.out 2 _).mono ?_; rintro e w5 ⟨rfl, hb5⟩; refine Hid.out ?_))
       clear k0 k1 f0 f1
       obtain ⟨⟨⟨k0, k1⟩, ⟨f0, f1⟩, hs5⟩, hfin⟩ := HFIN.out (3, 2) _ hb5
       have HE := tZ hfin
       clear hfin hb5
       refine tZ ?_
       go_wp2
       refine bodyPost_ret (v := .agg #[.int .i64 3, .int .i64 2]) (by simp [results, Tryz.results165, go_sem, k0, k1]) rfl ?_
       rw [HU.out]
       exact HE.out
     ·have qe : (ak == bk) = false := beq_eq_false_iff_ne.2 he
      have HU := tZ (show vTwo p.k (ak, an) (bk, bn) = (3, 2) by unfold vTwo; rw [if_neg HAK.out, if_neg hbk, if_neg h11, if_neg (fun h => he h.1)]; rfl)
      clear h11 hbk h1 he
      go_wp2_with (first | (go_at_call 176; refine (HFa.out 2 _).mono ?_; rintro e w5 ⟨rfl, hb5⟩; refine Hid.out ?_))
      clear k0 k1 f0 f1
      obtain ⟨⟨⟨k0, k1⟩, ⟨f0, f1⟩, hs5⟩, hfin⟩ := HFIN.out (3, 2) _ hb5
      have HE := tZ hfin
      clear hfin hb5
      refine tZ ?_
      go_wp2
      refine bodyPost_ret (v := .agg #[.int .i64 3, .int .i64 2]) (by simp [results, Tryz.results165, go_sem, k0, k1]) rfl ?_
      rw [HU.out]
      exact HE.out
end
end Go.Proofs.YtihgojcfpnhelabGreatDoor
