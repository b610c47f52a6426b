import Derived.Test.YtihgojcfpnhelabGreatDoorS2Kd
import Derived.Test.YtihgojcfpnhelabGreatDoorS2Mb
import Derived.Deep.DeepCutAuto
set_option maxRecDepth 100000
set_option maxHeartbeats 4000000
set_option linter.unusedVariables false
set_option linter.unusedSimpArgs false
namespace Go.Proofs.YtihgojcfpnhelabGreatDoor
open Go.RowKit
section
theorem row2_st2 {w : World} {g : Nat} {u0 u1 : Value} {ty : TypeId} (h : w.heap[g]? = some (.cells #[u0, u1] ty (0, 0))) (v0 v1 : Value) : ((w.setCell ⟨g, 0, none⟩ v0).setCell ⟨g, 1, none⟩ v1).heap[g]? = some (.cells #[v0, v1] ty (0, 0)) := by
 rw [setCell_block (setCell_block h 0 v0) 1 v1]
 rfl
def KidsV (r : Value) (w : World) (n : Nat) (q : Nat → Pt) (A : Nat → Option Addr) (L C : Nat → Nat) (v : Nat → Vl) : Prop :=
 ∀ j, j < n → ∀ W, Below w.heap.size w W → Calls Tryz.prog 128 #[.agg #[namedV r], .agg #[.int .i64 ((q j).k : Int), .string ⟨((q j).nm).toArray⟩, .int .i64 ((q j).n : Int), .slice (A j) (L j) (C j)]] W (VPost (v j) W)
theorem KidsV.next {r : Value} {w w' : World} {n : Nat} {q : Nat → Pt} {A : Nat → Option Addr} {L C : Nat → Nat} {v : Nat → Vl} (h : KidsV r w n q A L C v) (hb : Below w.heap.size w w') : KidsV r w' n q A L C v :=
 fun j hj W hW => h j hj W (hb.trans (hW.mono hb.size))
theorem KidsV.only {r : Value} {w : World} {n : Nat} {q : Nat → Pt} {A : Nat → Option Addr} {L C : Nat → Nat} {v : Nat → Vl} (h : KidsV r w n q A L C v) (j : Nat) (hj : j < n) (k : Int) :
  Calls Tryz.prog 161 #[.agg #[namedV r], .int .i64 k, .agg #[.int .i64 ((q j).k : Int), .string ⟨((q j).nm).toArray⟩, .int .i64 ((q j).n : Int), .slice (A j) (L j) (C j)]] w (VPost (vOnly k (v j)) w) :=
 only202 r k _ _ _ _ _ _ _ w (fun W hW => h j hj W hW)
theorem unless204 (r : Value) (d : Vl) (p : Pt) (a : Option Addr) (n c : Nat) (w : World) (q : Nat → Pt) (A : Nat → Option Addr) (L C : Nat → Nat) (v : Nat → Vl) (hn : 2 ≤ n) (hn3 : n ≤ 3) (hK : KidsAt w a n q A L C) (hV : KidsV r w n q A L C v) :
  Calls Tryz.prog 163 #[.agg #[namedV r], .agg #[.int .i64 d.1, .int .i64 d.2], .agg #[.int .i64 (p.k : Int), .string ⟨p.nm.toArray⟩, .int .i64 (p.n : Int), .slice a n c]] w (VPost (vUnless d (v 0) (v 1)) w) := by
 obtain ⟨g, rfl, hg, c0, c1, c2, c3⟩ := hK 0 (by omega)
 obtain ⟨g', hgg, _, d0, d1, d2, d3⟩ := hK 1 (by omega)
 obtain rfl : g = g' := by simpa using hgg
 rw [Nat.zero_mul] at c0 c1 c2 c3
 rw [Nat.one_mul] at d0 d1 d2 d3
 have HV := tZ hV
 have hn1 : (0 : Int) < (n : Int) := by omega
 have hn2 : (1 : Int) < (n : Int) := by omega
 obtain ⟨dk, dn⟩ := d
 clear hK hV hgg
 obtain ⟨W4, hW4⟩ : ∃ W4, W4 = ((((w.alloc (.cells #[namedV r] 204)).alloc (.cells #[.int .i64 dk, .int .i64 dn] 96)).alloc (.cells #[.int .i64 (p.k : Int), .string ⟨p.nm.toArray⟩, .int .i64 (p.n : Int), .slice (some ⟨g, 0, none⟩) n c] 49)).alloc (.cells #[.int .i64 0, .int .i64 0] 96)) := ⟨_, rfl⟩
 have hs4 : W4.heap.size = w.heap.size + 1 + 1 + 1 + 1 := by rw [hW4]; simp
 have hb4 : Below w.heap.size w W4 := by rw [hW4]; exact (below3 w _ _ _).alloc (by simp; omega) _
 have r0 : W4.heap[w.heap.size]? = some (.cells #[namedV r] 204 (0, 0)) := by
  rw [hW4, Below.heap_alloc _ _ _ (by simp; omega), Below.heap_alloc _ _ _ (by simp; omega), Below.heap_alloc _ _ _ (by simp)]; exact heap_alloc_new w _
 have r1 : W4.heap[w.heap.size + 1]? = some (.cells #[.int .i64 dk, .int .i64 dn] 96 (0, 0)) := by
  rw [hW4, Below.heap_alloc _ _ _ (by simp), Below.heap_alloc _ _ _ (by simp)]; exact alloc2_new' w _ _ _
 have r2 : W4.heap[w.heap.size + 1 + 1]? = some (.cells #[.int .i64 (p.k : Int), .string ⟨p.nm.toArray⟩, .int .i64 (p.n : Int), .slice (some ⟨g, 0, none⟩) n c] 49 (0, 0)) := by
  rw [hW4, Below.heap_alloc _ _ _ (by simp)]; exact alloc3_new w _ _ _ _
 have r3 : W4.heap[w.heap.size + 1 + 1 + 1]? = some (.cells #[.int .i64 0, .int .i64 0] 96 (0, 0)) := by
  have := heap_alloc_new (((w.alloc (.cells #[namedV r] 204)).alloc (.cells #[.int .i64 dk, .int .i64 dn] 96)).alloc (.cells #[.int .i64 (p.k : Int), .string ⟨p.nm.toArray⟩, .int .i64 (p.n : Int), .slice (some ⟨g, 0, none⟩) n c] 49)) (.cells #[.int .i64 0, .int .i64 0] 96)
  rw [hW4]
  simpa using this
 have C0 := (hb4.cell (p := ⟨g, 0, none⟩) hg).trans c0
 have C1 := (hb4.cell (p := ⟨g, 0 + 1, none⟩) hg).trans c1
 have C2 := (hb4.cell (p := ⟨g, 0 + 2, none⟩) hg).trans c2
 have C3 := (hb4.cell (p := ⟨g, 0 + 3, none⟩) hg).trans c3
 rw [Nat.zero_add] at C1 C2 C3
 obtain ⟨i0, _, _⟩ := row1 r0
 obtain ⟨⟨i1, i1'⟩, _, _⟩ := row2 r1
 obtain ⟨⟨_, _, _, i2⟩, _, _⟩ := row4 r2
 have HB4 := tZ hb4
 have HR := tZ (And.intro r0 (And.intro r1 (And.intro r2 r3)))
 have HW4 := tZ hW4
 have hg4 : g < W4.heap.size := by omega
 have hx0 : w.heap.size < W4.heap.size := by omega
 have hx1 : w.heap.size + 1 < W4.heap.size := by omega
 have hx2 : w.heap.size + 1 + 1 < W4.heap.size := by omega
 have hx3 : w.heap.size + 1 + 1 + 1 < W4.heap.size := by omega
 have HCA := tZ (show Calls Tryz.prog 161 #[.agg #[namedV r], .int .i64 2, .agg #[.int .i64 ((q 0).k : Int), .string ⟨((q 0).nm).toArray⟩, .int .i64 ((q 0).n : Int), .slice (A 0) (L 0) (C 0)]] W4.drew fun e w1 => e = .returned (.agg #[.int .i64 (vOnly 2 (v 0)).1, .int .i64 (vOnly 2 (v 0)).2]) ∧ Below W4.heap.size W4 w1 from
  ((HV.out.next (w' := W4.drew) hb4.drew).only 0 (by omega) 2).mono fun e w1 h => ⟨h.1, (Below.refl _ _).drew.trans h.2⟩)
 have HCB := tZ (show Calls Tryz.prog 161 #[.agg #[namedV r], .int .i64 2, .agg #[.int .i64 ((q 0).k : Int), .string ⟨((q 0).nm).toArray⟩, .int .i64 ((q 0).n : Int), .slice (A 0) (L 0) (C 0)]] (W4.alloc (.cells #[.int .i64 0, .int .i64 0] 96)).drew fun e w1 => e = .returned (.agg #[.int .i64 (vOnly 2 (v 0)).1, .int .i64 (vOnly 2 (v 0)).2]) ∧ Below W4.heap.size W4 w1 ∧ w1.heap[W4.heap.size]? = some (.cells #[.int .i64 0, .int .i64 0] 96 (0, 0)) from
  ((HV.out.next (w' := (W4.alloc (.cells #[.int .i64 0, .int .i64 0] 96)).drew) (hb4.alloc hb4.size _).drew).only 0 (by omega) 2).mono fun e w1 h => ⟨h.1, (bZ _).drew.trans (h.2.mono (by show W4.heap.size ≤ (W4.alloc _).heap.size; simp)), (h.2.block W4.heap.size (by show W4.heap.size < (W4.alloc _).heap.size; simp)).trans (heap_alloc_new W4 _)⟩)
 go_enter Tryz.func163, Tryz.ntmps163
 go_upto_region 1 with fail
 rw [← HW4.out]
 have HS4 := tZ hs4
 clear hW4 HW4 r0 r1 r2 r3 hs4 hb4
 go_cut [7] (fun s7 wc => ∃ gF, s7 = .pointer (some ⟨gF, 0, none⟩) ∧ W4.heap.size ≤ gF ∧ Hid (Below W4.heap.size W4 wc) ∧ wc.heap[gF]? = some (.cells #[.int .i64 (vOnly 2 (v 0)).1, .int .i64 (vOnly 2 (v 0)).2] 96 (0, 0)))
 case first =>
  go_region_with (first | (go_at_call 161; refine HCA.out.mono ?_; rintro e w1 ⟨rfl, hb1⟩; have B1 := tZ hb1; clear hb1) | (go_at_call 161; refine HCB.out.mono ?_; rintro e w1 ⟨rfl, hb1, hF⟩; obtain ⟨⟨y0, y1⟩, ⟨z0, z1⟩, hsF⟩ := row2 hF; have B1 := tZ hb1; have B2 := tZ hF; clear hb1 hF))
  all_goals (go_wp2_with fail; go_meet; first | exact ⟨_, rfl, B1.out.size, B1.out.alloc B1.out.size _, heap_alloc_new _ _⟩ | exact ⟨_, rfl, Nat.le_refl _, (B1.out.setCell (p := ⟨W4.heap.size, 0, none⟩) (Nat.le_refl _) _).setCell (p := ⟨W4.heap.size, 1, none⟩) (Nat.le_refl _) _, row2_st2 B2.out _ _⟩)
 case rest =>
 obtain ⟨gF, rfl, hgF, HBc, hF⟩ := hcut
 obtain ⟨R0, R1, R2, R3⟩ := HR.out
 have hszc := HBc.out.size
 obtain ⟨⟨x0, x1⟩, _, hsF⟩ := row2 hF
 obtain ⟨i0', _, _⟩ := row1 ((HBc.out.block _ hx0).trans R0)
 obtain ⟨⟨j0, j1⟩, _, _⟩ := row2 ((HBc.out.block _ hx1).trans R1)
 obtain ⟨⟨_, _, _, j2⟩, _, _⟩ := row4 ((HBc.out.block _ hx2).trans R2)
 obtain ⟨⟨k0, k1⟩, ⟨f0, f1⟩, hszR⟩ := row2 ((HBc.out.block _ hx3).trans R3)
 have HFR := tZ ((HBc.out.block _ hx3).trans R3)
 have HBw := tZ (HB4.out.trans (HBc.out.mono HB4.out.size))
 have e0 := (HBc.out.cell (p := ⟨g, 4, none⟩) hg4).trans ((HB4.out.cell (p := ⟨g, 4, none⟩) hg).trans d0)
 have e1 := (HBc.out.cell (p := ⟨g, 4 + 1, none⟩) hg4).trans ((HB4.out.cell (p := ⟨g, 4 + 1, none⟩) hg).trans d1)
 have e2 := (HBc.out.cell (p := ⟨g, 4 + 2, none⟩) hg4).trans ((HB4.out.cell (p := ⟨g, 4 + 2, none⟩) hg).trans d2)
 have e3 := (HBc.out.cell (p := ⟨g, 4 + 3, none⟩) hg4).trans ((HB4.out.cell (p := ⟨g, 4 + 3, none⟩) hg).trans d3)
 have HC1 := tZ (fun W (hb : Below wc.heap.size wc W) => (HV.out.next (HBw.out.trans (hb.mono HBw.out.size))).only 1 (by omega) 2)
 clear hF R0 R1 R2 R3 i0 i1 i1' i2 C0 C1 C2 C3 c0 c1 c2 c3 d0 d1 d2 d3 HCA HCB
 generalize hvo : vOnly 2 (v 0) = vf at *
 obtain ⟨fk, fn⟩ := vf
 have HVO := tZ hvo
 clear hvo
 have hgne : gF ≠ w.heap.size + 1 + 1 + 1 := by omega
 by_cases hE : (fk, fn) = (dk, dn) ∨ fk = 3
 ·have HU := tZ (show vUnless (dk, dn) (v 0) (v 1) = (fk, fn) by unfold vUnless; rw [HVO.out, if_pos hE])
  rcases hE with hE | hE
  ·obtain ⟨rfl, rfl⟩ := Prod.mk.inj hE
   have q1 : (fk == fk) = true := by simp
   have q2 : (fn == fn) = true := by simp
   clear hE
   go_wp2
   refine bodyPost_ret (v := .agg #[.int .i64 fk, .int .i64 fn]) (by simp [results, Tryz.results163, go_sem, k0, k1]) rfl ?_
   rw [HU.out]
   exact ⟨rfl, below_st2 HBw.out _ (by omega) _ _⟩
  ·have q3 : (fk == 3) = true := by simp [hE]
   by_cases hk : fk = dk
   ·by_cases hn' : fn = dn
    ·have q1 : (fk == dk) = true := by simp [hk]
     have q2 : (fn == dn) = true := by simp [hn']
     clear hE hk hn'
     go_wp2
     refine bodyPost_ret (v := .agg #[.int .i64 fk, .int .i64 fn]) (by simp [results, Tryz.results163, go_sem, k0, k1]) rfl ?_
     rw [HU.out]
     exact ⟨rfl, below_st2 HBw.out _ (by omega) _ _⟩
    ·have q1 : (fk == dk) = true := by simp [hk]
     have q2 : (fn == dn) = false := beq_eq_false_iff_ne.2 hn'
     clear hE hk hn'
     go_wp2
     refine bodyPost_ret (v := .agg #[.int .i64 fk, .int .i64 fn]) (by simp [results, Tryz.results163, go_sem, k0, k1]) rfl ?_
     rw [HU.out]
     exact ⟨rfl, below_st2 HBw.out _ (by omega) _ _⟩
   ·have q1 : (fk == dk) = false := beq_eq_false_iff_ne.2 hk
    clear hE hk
    go_wp2
    refine bodyPost_ret (v := .agg #[.int .i64 fk, .int .i64 fn]) (by simp [results, Tryz.results163, go_sem, k0, k1]) rfl ?_
    rw [HU.out]
    exact ⟨rfl, below_st2 HBw.out _ (by omega) _ _⟩
 ·have HU := tZ (show vUnless (dk, dn) (v 0) (v 1) = vOnly 2 (v 1) by unfold vUnless; rw [HVO.out, if_neg hE])
  have q3 : (fk == 3) = false := beq_eq_false_iff_ne.2 (fun h => hE (Or.inr h))
  have q0 : fk = dk → fn ≠ dn := fun h1 h2 => hE (Or.inl (by rw [h1, h2]))
  clear hE
  have HFIN := tZ (show ∀ w2, Below wc.heap.size wc w2 → VPost (vUnless (dk, dn) (v 0) (v 1)) w (.returned (.agg #[.int .i64 (vOnly 2 (v 1)).1, .int .i64 (vOnly 2 (v 1)).2])) ((w2.setCell ⟨w.heap.size + 1 + 1 + 1, 0, none⟩ (.int .i64 (vOnly 2 (v 1)).1)).setCell ⟨w.heap.size + 1 + 1 + 1, 1, none⟩ (.int .i64 (vOnly 2 (v 1)).2)) from fun w2 hb2 => by
   rw [HU.out]
   exact ⟨rfl, below_st2 (HBw.out.trans (hb2.mono HBw.out.size)) _ (by omega) _ _⟩)
  have HREG := tZ (show ∀ w2, Below wc.heap.size wc w2 → _ from fun w2 (hb2 : Below wc.heap.size wc w2) => row2 ((hb2.block _ hszR).trans HFR.out))
  by_cases hk : fk = dk
  ·have q1 : (fk == dk) = true := by simp [hk]
   have q2 : (fn == dn) = false := beq_eq_false_iff_ne.2 (q0 hk)
   clear hk q0
   go_wp2_with fail
   go_region_with (first | (go_at_call 161; refine (HC1.out _ ((Below.refl _ _).drew)).mono ?_; rintro e w2 ⟨rfl, hb2⟩; obtain ⟨⟨m0, m1⟩, ⟨n0, n1⟩, hsm⟩ := HREG.out _ ((Below.refl _ _).drew.trans hb2); have B3 := tZ ((Below.refl wc.heap.size wc).drew.trans hb2); clear hb2))
   all_goals go_wp2
   all_goals refine bodyPost_ret (v := .agg #[.int .i64 (vOnly 2 (v 1)).1, .int .i64 (vOnly 2 (v 1)).2]) (by simp [results, Tryz.results163, go_sem, m0, m1]) rfl ?_
   all_goals exact HFIN.out _ B3.out
  ·have q1 : (fk == dk) = false := beq_eq_false_iff_ne.2 hk
   clear hk q0
   go_wp2_with fail
   go_region_with (first | (go_at_call 161; refine (HC1.out _ ((Below.refl _ _).drew)).mono ?_; rintro e w2 ⟨rfl, hb2⟩; obtain ⟨⟨m0, m1⟩, ⟨n0, n1⟩, hsm⟩ := HREG.out _ ((Below.refl _ _).drew.trans hb2); have B3 := tZ ((Below.refl wc.heap.size wc).drew.trans hb2); clear hb2))
   all_goals go_wp2
   all_goals refine bodyPost_ret (v := .agg #[.int .i64 (vOnly 2 (v 1)).1, .int .i64 (vOnly 2 (v 1)).2]) (by simp [results, Tryz.results163, go_sem, m0, m1]) rfl ?_
   all_goals exact HFIN.out _ B3.out
end
end Go.Proofs.YtihgojcfpnhelabGreatDoor
