import Derived.Test.YtihgojcfpnhelabGreatDoorS2Mc
set_option maxRecDepth 100000
set_option maxHeartbeats 4000000
set_option linter.unusedVariables false
set_option linter.unusedSimpArgs false
namespace Go.Proofs.YtihgojcfpnhelabGreatDoor
open Go.RowKit
section
theorem choice205 (r : Value) (p : Pt) (a : Option Addr) (n c : Nat) (w : World) (q : Nat → Pt) (A : Nat → Option Addr) (L C : Nat → Nat) (v : Nat → Vl) (hn : n = 3) (hK : KidsAt w a n q A L C) (hV : KidsV r w n q A L C v) :
  Calls Tryz.prog 164 #[.agg #[namedV r], .agg #[.int .i64 (p.k : Int), .string ⟨p.nm.toArray⟩, .int .i64 (p.n : Int), .slice a n c]] w (VPost (vChoice (v 0) (v 1) (v 2)) w) := by
 subst hn
 obtain ⟨g, rfl, hg, c0, c1, c2, c3⟩ := hK 0 (by omega)
 obtain ⟨g', hgg, _, d0, d1, d2, d3⟩ := hK 1 (by omega)
 obtain rfl : g = g' := by simpa using hgg
 obtain ⟨g', hgg, _, u0, u1, u2, u3⟩ := hK 2 (by omega)
 obtain rfl : g = g' := by simpa using hgg
 rw [Nat.zero_mul] at c0 c1 c2 c3
 rw [Nat.one_mul] at d0 d1 d2 d3
 rw [show 2 * 4 = 8 from rfl] at u0 u1 u2 u3
 have HV := tZ hV
 have hn1 : (0 : Int) < ((3 : Nat) : Int) := by omega
 have hn2 : (1 : Int) < ((3 : Nat) : Int) := by omega
 obtain ⟨W4, hW4⟩ : ∃ W4, W4 = (((w.alloc (.cells #[namedV r] 204)).alloc (.cells #[.int .i64 (p.k : Int), .string ⟨p.nm.toArray⟩, .int .i64 (p.n : Int), .slice (some ⟨g, 0, none⟩) 3 c] 49)).alloc (.cells #[.int .i64 0, .int .i64 0] 96)) := ⟨_, rfl⟩
 have hs4 : W4.heap.size = w.heap.size + 1 + 1 + 1 := by rw [hW4]; simp
 have hb4 : Below w.heap.size w W4 := by rw [hW4]; exact below3 w _ _ _
 have r0 : W4.heap[w.heap.size]? = some (.cells #[namedV r] 204 (0, 0)) := by
  rw [hW4, Below.heap_alloc _ _ _ (by simp; omega), Below.heap_alloc _ _ _ (by simp)]; exact heap_alloc_new w _
 have r2 : W4.heap[w.heap.size + 1]? = some (.cells #[.int .i64 (p.k : Int), .string ⟨p.nm.toArray⟩, .int .i64 (p.n : Int), .slice (some ⟨g, 0, none⟩) 3 c] 49 (0, 0)) := by
  rw [hW4, Below.heap_alloc _ _ _ (by simp)]; exact alloc2_new' w _ _ _
 have r3 : W4.heap[w.heap.size + 1 + 1]? = some (.cells #[.int .i64 0, .int .i64 0] 96 (0, 0)) := by
  rw [hW4]; exact alloc3_new w _ _ _ _
 have C0 := (hb4.cell (p := ⟨g, 0, none⟩) hg).trans c0
 have C1 := (hb4.cell (p := ⟨g, 0 + 1, none⟩) hg).trans c1
 have C2 := (hb4.cell (p := ⟨g, 0 + 2, none⟩) hg).trans c2
 have C3 := (hb4.cell (p := ⟨g, 0 + 3, none⟩) hg).trans c3
 rw [Nat.zero_add] at C1 C2 C3
 obtain ⟨i0, _, _⟩ := row1 r0
 obtain ⟨⟨_, _, _, i2⟩, _, _⟩ := row4 r2
 have HB4 := tZ hb4
 have HR := tZ (And.intro r0 (And.intro r2 r3))
 have HW4 := tZ hW4
 have hg4 : g < W4.heap.size := by omega
 have hx0 : w.heap.size < W4.heap.size := by omega
 have hx2 : w.heap.size + 1 < W4.heap.size := by omega
 have hx3 : w.heap.size + 1 + 1 < W4.heap.size := by omega
 have hn3 : (2 : Int) < ((3 : Nat) : Int) := by omega
 clear hK hV hgg
 have HCA := tZ (show Calls Tryz.prog 161 #[.agg #[namedV r], .int .i64 2, .agg #[.int .i64 ((q 0).k : Int), .string ⟨((q 0).nm).toArray⟩, .int .i64 ((q 0).n : Int), .slice (A 0) (L 0) (C 0)]] W4.drew fun e w1 => e = .returned (.agg #[.int .i64 (vOnly 2 (v 0)).1, .int .i64 (vOnly 2 (v 0)).2]) ∧ Below W4.heap.size W4 w1 from
  ((HV.out.next (w' := W4.drew) hb4.drew).only 0 (by omega) 2).mono fun e w1 h => ⟨h.1, (Below.refl _ _).drew.trans h.2⟩)
 have HCB := tZ (show Calls Tryz.prog 161 #[.agg #[namedV r], .int .i64 2, .agg #[.int .i64 ((q 0).k : Int), .string ⟨((q 0).nm).toArray⟩, .int .i64 ((q 0).n : Int), .slice (A 0) (L 0) (C 0)]] (W4.alloc (.cells #[.int .i64 0, .int .i64 0] 96)).drew fun e w1 => e = .returned (.agg #[.int .i64 (vOnly 2 (v 0)).1, .int .i64 (vOnly 2 (v 0)).2]) ∧ Below W4.heap.size W4 w1 ∧ w1.heap[W4.heap.size]? = some (.cells #[.int .i64 0, .int .i64 0] 96 (0, 0)) from
  ((HV.out.next (w' := (W4.alloc (.cells #[.int .i64 0, .int .i64 0] 96)).drew) (hb4.alloc hb4.size _).drew).only 0 (by omega) 2).mono fun e w1 h => ⟨h.1, (bZ _).drew.trans (h.2.mono (by show W4.heap.size ≤ (W4.alloc _).heap.size; simp)), (h.2.block W4.heap.size (by show W4.heap.size < (W4.alloc _).heap.size; simp)).trans (heap_alloc_new W4 _)⟩)
 go_enter Tryz.func164, Tryz.ntmps164
 go_upto_region 1 with fail
 rw [← HW4.out]
 have HS4 := tZ hs4
 clear hW4 HW4 r0 r2 r3 hs4 hb4
 go_cut [5] (fun s7 wc => ∃ gF, s7 = .pointer (some ⟨gF, 0, none⟩) ∧ W4.heap.size ≤ gF ∧ Hid (Below W4.heap.size W4 wc) ∧ wc.heap[gF]? = some (.cells #[.int .i64 (vOnly 2 (v 0)).1, .int .i64 (vOnly 2 (v 0)).2] 96 (0, 0)))
 case first =>
  go_region_with (first | (go_at_call 161; refine HCA.out.mono ?_; rintro e w1 ⟨rfl, hb1⟩; have B1 := tZ hb1; clear hb1) | (go_at_call 161; refine HCB.out.mono ?_; rintro e w1 ⟨rfl, hb1, hF⟩; obtain ⟨⟨y0, y1⟩, ⟨z0, z1⟩, hsF⟩ := row2 hF; have B1 := tZ hb1; have B2 := tZ hF; clear hb1 hF))
  all_goals (go_wp2_with fail; go_meet; first | exact ⟨_, rfl, B1.out.size, B1.out.alloc B1.out.size _, heap_alloc_new _ _⟩ | exact ⟨_, rfl, Nat.le_refl _, (B1.out.setCell (p := ⟨W4.heap.size, 0, none⟩) (Nat.le_refl _) _).setCell (p := ⟨W4.heap.size, 1, none⟩) (Nat.le_refl _) _, row2_st2 B2.out _ _⟩)
 case rest =>
 obtain ⟨gF, rfl, hgF, HBc, hF⟩ := hcut
 obtain ⟨R0, R2, R3⟩ := HR.out
 have hszc := HBc.out.size
 obtain ⟨⟨x0, x1⟩, _, hsF⟩ := row2 hF
 obtain ⟨i0', _, _⟩ := row1 ((HBc.out.block _ hx0).trans R0)
 obtain ⟨⟨_, _, _, j2⟩, _, _⟩ := row4 ((HBc.out.block _ hx2).trans R2)
 obtain ⟨⟨k0, k1⟩, ⟨f0, f1⟩, hszR⟩ := row2 ((HBc.out.block _ hx3).trans R3)
 have HFR := tZ ((HBc.out.block _ hx3).trans R3)
 have HBw := tZ (HB4.out.trans (HBc.out.mono HB4.out.size))
 have HALL := tZ (show ∀ W, Below wc.heap.size wc W → W.cell? ⟨w.heap.size, 0, none⟩ = some (namedV r) ∧ W.cell? ⟨w.heap.size + 1, 3, none⟩ = some (.slice (some ⟨g, 0, none⟩) 3 c) ∧ (W.cell? ⟨w.heap.size + 1 + 1, 0, none⟩ = some (.int .i64 0) ∧ W.cell? ⟨w.heap.size + 1 + 1, 1, none⟩ = some (.int .i64 0)) ∧ (W.frozen? ⟨w.heap.size + 1 + 1, 0, none⟩ = false ∧ W.frozen? ⟨w.heap.size + 1 + 1, 1, none⟩ = false) ∧ (W.cell? ⟨gF, 0, none⟩ = some (.int .i64 (vOnly 2 (v 0)).1) ∧ W.cell? ⟨gF, 1, none⟩ = some (.int .i64 (vOnly 2 (v 0)).2)) ∧
   (W.cell? ⟨g, 4, none⟩ = some (.int .i64 ((q 1).k : Int)) ∧ W.cell? ⟨g, 5, none⟩ = some (.string ⟨((q 1).nm).toArray⟩) ∧ W.cell? ⟨g, 6, none⟩ = some (.int .i64 ((q 1).n : Int)) ∧ W.cell? ⟨g, 7, none⟩ = some (.slice (A 1) (L 1) (C 1))) ∧
   (W.cell? ⟨g, 8, none⟩ = some (.int .i64 ((q 2).k : Int)) ∧ W.cell? ⟨g, 9, none⟩ = some (.string ⟨((q 2).nm).toArray⟩) ∧ W.cell? ⟨g, 10, none⟩ = some (.int .i64 ((q 2).n : Int)) ∧ W.cell? ⟨g, 11, none⟩ = some (.slice (A 2) (L 2) (C 2))) from fun W hb => by
  have hbw : Below w.heap.size w W := HBw.out.trans (hb.mono HBw.out.size)
  obtain ⟨a0, a1, _⟩ := row2 ((hb.block _ hszR).trans HFR.out)
  refine ⟨(hb.cell (p := ⟨w.heap.size, 0, none⟩) (by show w.heap.size < _; omega)).trans i0', (hb.cell (p := ⟨w.heap.size + 1, 3, none⟩) (by show w.heap.size + 1 < _; omega)).trans j2, a0, a1, ⟨(hb.cell (p := ⟨gF, 0, none⟩) hsF).trans x0, (hb.cell (p := ⟨gF, 1, none⟩) hsF).trans x1⟩, ⟨(hbw.cell (p := ⟨g, 4, none⟩) hg).trans d0, (hbw.cell (p := ⟨g, 5, none⟩) hg).trans d1, (hbw.cell (p := ⟨g, 6, none⟩) hg).trans d2, (hbw.cell (p := ⟨g, 7, none⟩) hg).trans d3⟩, (hbw.cell (p := ⟨g, 8, none⟩) hg).trans u0, (hbw.cell (p := ⟨g, 9, none⟩) hg).trans u1, (hbw.cell (p := ⟨g, 10, none⟩) hg).trans u2, (hbw.cell (p := ⟨g, 11, none⟩) hg).trans u3⟩)
 have HCW := tZ (fun j (hj : j < 3) W (hb : Below wc.heap.size wc W) => HV.out j hj W (HBw.out.trans (hb.mono HBw.out.size)))
 have HT := tZ (fun bb W => truth200 bb W)
 clear hF R0 R2 R3 i0 i2 C0 C1 C2 C3 c0 c1 c2 c3 d0 d1 d2 d3 u0 u1 u2 u3 HCA HCB i0' j2 k0 k1 f0 f1
 generalize hvo : vOnly 2 (v 0) = vf at *
 obtain ⟨fk, fn⟩ := vf
 have HVO := tZ hvo
 clear hvo
 go_wp2_with (first | (go_at_call 159; refine (HT.out true _).mono ?_; rintro e w2 ⟨rfl, hb2⟩; refine Hid.out ?_))
 have HB2 := tZ hb2
 obtain ⟨p0, p1, ⟨k0, k1⟩, ⟨f0, f1⟩, ⟨xx0, xx1⟩, ⟨e0, e1, e2, e3⟩, ⟨o0, o1, o2, o3⟩⟩ := HALL.out _ hb2
 have hs2 := hb2.size
 clear hb2
 rw [show (vTruth true).1 = 2 from rfl, show (vTruth true).2 = 1 from rfl]
 by_cases h1 : (fk, fn) = (2, 1)
 ·obtain ⟨rfl, rfl⟩ := Prod.mk.inj h1
  have HU := tZ (show vChoice (v 0) (v 1) (v 2) = v 1 by unfold vChoice; rw [HVO.out, if_pos rfl])
  have HBX := HB2
  clear h1
  refine tZ ?_
  go_wp2_with fail
  go_region_with (first | (go_at_call 128; refine (HCW.out 1 (by omega) _ (HBX.out.drew)).mono ?_; rintro e w5 ⟨rfl, hb5⟩; obtain ⟨_, _, ⟨m0, m1⟩, ⟨n0, n1⟩, _⟩ := HALL.out _ (HBX.out.drew.trans (hb5.mono HBX.out.size)); have B3 := tZ (HBX.out.drew.trans (hb5.mono HBX.out.size)); clear hb5))
  all_goals go_wp2
  all_goals refine bodyPost_ret (v := .agg #[.int .i64 (v 1).1, .int .i64 (v 1).2]) (by simp [results, Tryz.results164, go_sem, m0, m1]) rfl ?_
  all_goals (rw [HU.out]; exact ⟨rfl, below_st2 (HBw.out.trans (B3.out.mono HBw.out.size)) _ (by omega) _ _⟩)
 ·by_cases h2 : fk = 2
  ·subst h2
   have hf1 : fn ≠ 1 := fun h => h1 (by rw [h])
   have q2 : (fn == 1) = false := beq_eq_false_iff_ne.2 hf1
   have q1 : ((2 : Int) == 2) = true := rfl
   clear h1
   refine tZ ?_
   go_wp2_with (first | (go_at_call 159; refine (HT.out false _).mono ?_; rintro e w3 ⟨rfl, hb3⟩; refine Hid.out ?_))
   have HBX := tZ (HB2.out.trans (hb3.mono HB2.out.size))
   clear p0 p1 k0 k1 f0 f1 xx0 xx1 e0 e1 e2 e3 o0 o1 o2 o3
   obtain ⟨p0, p1, ⟨k0, k1⟩, ⟨f0, f1⟩, ⟨xx0, xx1⟩, ⟨e0, e1, e2, e3⟩, ⟨o0, o1, o2, o3⟩⟩ := HALL.out _ HBX.out
   have hs3 := hb3.size
   clear hb3
   rw [show (vTruth false).1 = 2 from rfl, show (vTruth false).2 = 0 from rfl]
   by_cases h0 : fn = 0
   ·subst h0
    have HU := tZ (show vChoice (v 0) (v 1) (v 2) = v 2 by unfold vChoice; rw [HVO.out, if_neg (by decide), if_pos rfl])
    clear q2 hf1
    refine tZ ?_
    go_wp2_with fail
    go_region_with (first | (go_at_call 128; refine (HCW.out 2 (by omega) _ (HBX.out.drew)).mono ?_; rintro e w5 ⟨rfl, hb5⟩; obtain ⟨_, _, ⟨m0, m1⟩, ⟨n0, n1⟩, _⟩ := HALL.out _ (HBX.out.drew.trans (hb5.mono HBX.out.size)); have B3 := tZ (HBX.out.drew.trans (hb5.mono HBX.out.size)); clear hb5))
    all_goals go_wp2
    all_goals refine bodyPost_ret (v := .agg #[.int .i64 (v 2).1, .int .i64 (v 2).2]) (by simp [results, Tryz.results164, go_sem, m0, m1]) rfl ?_
    all_goals (rw [HU.out]; exact ⟨rfl, below_st2 (HBw.out.trans (B3.out.mono HBw.out.size)) _ (by omega) _ _⟩)
   ·have q3 : (fn == 0) = false := beq_eq_false_iff_ne.2 h0
    have HU := tZ (show vChoice (v 0) (v 1) (v 2) = (2, fn) by unfold vChoice; rw [HVO.out, if_neg (fun h => hf1 (Prod.mk.inj h).2), if_neg (fun h => h0 (Prod.mk.inj h).2)])
    clear h0 hf1
    refine tZ ?_
    go_wp2
    refine bodyPost_ret (v := .agg #[.int .i64 2, .int .i64 fn]) (by simp [results, Tryz.results164, go_sem, k0, k1]) rfl ?_
    rw [HU.out]
    exact ⟨rfl, below_st2 (HBw.out.trans (HBX.out.mono HBw.out.size)) _ (by omega) _ _⟩
  ·have q1 : (fk == 2) = false := beq_eq_false_iff_ne.2 h2
   have HU := tZ (show vChoice (v 0) (v 1) (v 2) = (fk, fn) by unfold vChoice; rw [HVO.out, if_neg (fun h => h2 (Prod.mk.inj h).1), if_neg (fun h => h2 (Prod.mk.inj h).1)])
   clear h1 h2
   refine tZ ?_
   go_wp2_with (first | (go_at_call 159; refine (HT.out false _).mono ?_; rintro e w3 ⟨rfl, hb3⟩; refine Hid.out ?_))
   have HBX := tZ (HB2.out.trans (hb3.mono HB2.out.size))
   clear p0 p1 k0 k1 f0 f1 xx0 xx1 e0 e1 e2 e3 o0 o1 o2 o3
   obtain ⟨p0, p1, ⟨k0, k1⟩, ⟨f0, f1⟩, ⟨xx0, xx1⟩, ⟨e0, e1, e2, e3⟩, ⟨o0, o1, o2, o3⟩⟩ := HALL.out _ HBX.out
   have hs3 := hb3.size
   clear hb3
   rw [show (vTruth false).1 = 2 from rfl, show (vTruth false).2 = 0 from rfl]
   refine tZ ?_
   go_wp2
   refine bodyPost_ret (v := .agg #[.int .i64 fk, .int .i64 fn]) (by simp [results, Tryz.results164, go_sem, k0, k1]) rfl ?_
   rw [HU.out]
   exact ⟨rfl, below_st2 (HBw.out.trans (HBX.out.mono HBw.out.size)) _ (by omega) _ _⟩
end
end Go.Proofs.YtihgojcfpnhelabGreatDoor
