import Derived.Test.YtihgojcfpnhelabGreatDoorS2Mp
import Derived.Test.YtihgojcfpnhelabGreatDoorS2Mb
set_option maxRecDepth 100000
set_option maxHeartbeats 4000000
set_option linter.unusedVariables false
set_option linter.unusedSimpArgs false
namespace Go.Proofs.YtihgojcfpnhelabGreatDoor
open Go.RowKit
section
theorem row6 {w : World} {q : Nat} {v0 v1 v2 v3 v4 v5 : Value} {t : TypeId} (h : w.heap[q]? = some (.cells #[v0, v1, v2, v3, v4, v5] t (0, 0))) :
  (w.cell? ⟨q, 0, none⟩ = some v0 ∧ w.cell? ⟨q, 1, none⟩ = some v1 ∧ w.cell? ⟨q, 2, none⟩ = some v2 ∧ w.cell? ⟨q, 3, none⟩ = some v3 ∧ w.cell? ⟨q, 4, none⟩ = some v4 ∧ w.cell? ⟨q, 5, none⟩ = some v5) ∧ (w.frozen? ⟨q, 0, none⟩ = false ∧ w.frozen? ⟨q, 1, none⟩ = false ∧ w.frozen? ⟨q, 2, none⟩ = false ∧ w.frozen? ⟨q, 3, none⟩ = false ∧ w.frozen? ⟨q, 4, none⟩ = false ∧ w.frozen? ⟨q, 5, none⟩ = false) ∧ q < w.heap.size :=
 ⟨⟨(cell_of_row w q 0 _ _ _ h).trans rfl, (cell_of_row w q 1 _ _ _ h).trans rfl, (cell_of_row w q 2 _ _ _ h).trans rfl, (cell_of_row w q 3 _ _ _ h).trans rfl, (cell_of_row w q 4 _ _ _ h).trans rfl, (cell_of_row w q 5 _ _ _ h).trans rfl⟩, ⟨fz_of_row h 0, fz_of_row h 1, fz_of_row h 2, fz_of_row h 3, fz_of_row h 4, fz_of_row h 5⟩, (Array.getElem?_eq_some_iff.1 h).1⟩
theorem below6 {w w' : World} (h : Below w.heap.size w w') (g : Nat) (hg : w.heap.size ≤ g) (v0 v1 v2 v3 v4 v5 : Value) : Below w.heap.size w ((((((w'.setCell ⟨g, 0, none⟩ v0).setCell ⟨g, 1, none⟩ v1).setCell ⟨g, 2, none⟩ v2).setCell ⟨g, 3, none⟩ v3).setCell ⟨g, 4, none⟩ v4).setCell ⟨g, 5, none⟩ v5) :=
 (((((h.setCell (p := ⟨g, 0, none⟩) hg _).setCell (p := ⟨g, 1, none⟩) hg _).setCell (p := ⟨g, 2, none⟩) hg _).setCell (p := ⟨g, 3, none⟩) hg _).setCell (p := ⟨g, 4, none⟩) hg _).setCell (p := ⟨g, 5, none⟩) hg _
theorem belowR {w w' : World} (h : Below w.heap.size w w') (g : Nat) (hg : w.heap.size ≤ g) (v2 v3 v4 v5 : Value) : Below w.heap.size w ((((w'.setCell ⟨g, 2, none⟩ v2).setCell ⟨g, 3, none⟩ v3).setCell ⟨g, 4, none⟩ v4).setCell ⟨g, 5, none⟩ v5) :=
 (((h.setCell (p := ⟨g, 2, none⟩) hg _).setCell (p := ⟨g, 3, none⟩) hg _).setCell (p := ⟨g, 4, none⟩) hg _).setCell (p := ⟨g, 5, none⟩) hg _
theorem heap6 (w' : World) (g q : Nat) (hq : q ≠ g) (v0 v1 v2 v3 v4 v5 : Value) : ((((((w'.setCell ⟨g, 0, none⟩ v0).setCell ⟨g, 1, none⟩ v1).setCell ⟨g, 2, none⟩ v2).setCell ⟨g, 3, none⟩ v3).setCell ⟨g, 4, none⟩ v4).setCell ⟨g, 5, none⟩ v5).heap[q]? = w'.heap[q]? := by
 rw [Below.heap_setCell _ _ _ _ hq, Below.heap_setCell _ _ _ _ hq, Below.heap_setCell _ _ _ _ hq, Below.heap_setCell _ _ _ _ hq, Below.heap_setCell _ _ _ _ hq, Below.heap_setCell _ _ _ _ hq]
theorem heapR (w' : World) (g q : Nat) (hq : q ≠ g) (v2 v3 v4 v5 : Value) : ((((w'.setCell ⟨g, 2, none⟩ v2).setCell ⟨g, 3, none⟩ v3).setCell ⟨g, 4, none⟩ v4).setCell ⟨g, 5, none⟩ v5).heap[q]? = w'.heap[q]? := by
 rw [Below.heap_setCell _ _ _ _ hq, Below.heap_setCell _ _ _ _ hq, Below.heap_setCell _ _ _ _ hq, Below.heap_setCell _ _ _ _ hq]
def LwPost (vb : Int) (an : Option Addr) (ln cn len : Nat) (ts : List (By × Nat)) (w : World) (e : Ending) (w' : World) : Prop :=
 Below w.heap.size w w' ∧
 ((∃ (p : Pt) (a : Option Addr) (l c n0 : Nat), e = .returned (.tuple #[.agg #[.int .i64 vb, .slice an ln cn, .int .i64 (p.k : Int), .string ⟨p.nm.toArray⟩, .int .i64 (p.n : Int), .slice a l c], .int .i64 0, .int .i64 0]) ∧ PIs w' (fun q => w.heap.size ≤ q ∧ q < w'.heap.size) p a l c ∧ Der ts 1 0 ts.length p ∧ txt p = toldTo ts ts.length ∧ ¬ 100 < (toldTo ts ts.length).length ∧ n0 ≤ 1000000 ∧ runB len n0 [symB 82 0] ts = some (0, 0)) ∨
  (∃ n0, e = .returned (.tuple #[.agg #[.int .i64 vb, .slice none 0 0, .int .i64 0, .string ⟨#[]⟩, .int .i64 0, .slice none 0 0], .int .i64 7, .int .i64 0]) ∧ 100 < (toldTo ts ts.length).length ∧ n0 ≤ 1000000 ∧ runB len n0 [symB 82 0] ts = some (0, 0)) ∨
  (∃ er p n0, e = .returned (.tuple #[.agg #[.int .i64 vb, .slice none 0 0, .int .i64 0, .string ⟨#[]⟩, .int .i64 0, .slice none 0 0], .int .i64 er, .int .i64 ((p : Nat) : Int)]) ∧ er ≠ 0 ∧ n0 ≤ 1000000 ∧ runB len n0 [symB 82 0] ts = some (er, p)))
def zeroL (vb er : Int) (p : Nat) : Ending := .returned (.tuple #[.agg #[.int .i64 vb, .slice none 0 0, .int .i64 0, .string ⟨#[]⟩, .int .i64 0, .slice none 0 0], .int .i64 er, .int .i64 (p : Int)])
theorem withRule (vb : Int) (an : Option Addr) (ln cn len : Nat) (ts : List (By × Nat)) (bl i n m : Nat) (w : World) (c0 : w.cell? ⟨bl, i * 4, none⟩ = some (.int .i64 18)) (hbl : bl < w.heap.size) (hnm : n ≤ m) (hR : ∀ W, Below w.heap.size w W → Calls Tryz.prog 53 #[.slice (some ⟨bl, i * 4 + 4, none⟩) (n + 1) (m + 1)] W (RdPost len ts W)) :
  Calls Tryz.prog 35 #[.agg #[.int .i64 vb, .slice an ln cn, .int .i64 0, .string ⟨#[]⟩, .int .i64 0, .slice none 0 0], .slice (some ⟨bl, i * 4, none⟩) (n + 2) (m + 2)] w (LwPost vb an ln cn len ts w) := by
 have H := tZ hR
 clear hR
 have hn1 : (0 : Int) < (n : Int) + 2 := by omega
 have hn2 : (0 : Int) ≤ (n : Int) := by omega
 have hn3 : (n : Int) ≤ (m : Int) := by omega
 go_enter Tryz.func35, Tryz.ntmps35
 go_wp2_with (first | (go_at_call 53; refine (H.out _ (below2 _ _ _)).mono ?_; rintro e w1 ⟨hb1, (⟨p, a, l, c, n0, rfl, hp, hrest⟩ | ⟨n0, rfl, hrest⟩ | ⟨er, p, n0, rfl, her, hrest⟩)⟩ <;> refine Hid.out ?_))
 ·obtain ⟨⟨k0, k1, k2, k3, k4, k5⟩, ⟨f0, f1, f2, f3, f4, f5⟩, hsz⟩ := row6 ((hb1.block (w.heap.size + 1) (by simp)).trans (alloc2_new' w _ _ _))
  obtain ⟨⟨j0, j1, j2, j3, j4, j5⟩, ⟨g0, g1, g2, g3, g4, g5⟩, hsz0⟩ := row6 ((hb1.block w.heap.size (by simp; omega)).trans (alloc2_old w _ _ _))
  have hne1 : w.heap.size ≠ w.heap.size + 1 := by omega
  have hne2 : w.heap.size + 1 ≠ w.heap.size := by omega
  have HB := tZ (show Below w.heap.size w w1 from (below2 w _ _).trans (hb1.mono (by simp; omega)))
  have HP := tZ hp
  have HX := tZ hrest
  clear hb1 hp hrest H
  refine tZ ?_
  go_wp2
  refine bodyPost_ret (v := .tuple #[.agg #[.int .i64 vb, .slice an ln cn, .int .i64 (p.k : Int), .string ⟨p.nm.toArray⟩, .int .i64 (p.n : Int), .slice a l c], .int .i64 0, .int .i64 0]) (by simp [results, Tryz.results35, go_sem, k0, k1, k2, k3, k4, k5, hsz]) rfl ?_
  refine ⟨(below6 (belowR HB.out w.heap.size (Nat.le_refl _) _ _ _ _) (w.heap.size + 1) (by omega) _ _ _ _ _ _).alloc (by simp; omega) _, Or.inl ⟨p, a, l, c, n0, rfl, (HP.out.next fun q hq => ?_).wide fun q hq => ?_, HX.out⟩⟩
  ·have hq1 := hq.1
   simp at hq1
   rw [Below.heap_alloc _ _ _ (by simp; exact hq.2), heap6 _ _ _ (by omega), heapR _ _ _ (by omega)]
  ·have hq1 := hq.1
   have hq2 := hq.2
   simp at hq1 ⊢
   omega
 ·obtain ⟨⟨k0, k1, k2, k3, k4, k5⟩, ⟨f0, f1, f2, f3, f4, f5⟩, hsz⟩ := row6 ((hb1.block (w.heap.size + 1) (by simp)).trans (alloc2_new' w _ _ _))
  obtain ⟨⟨j0, j1, j2, j3, j4, j5⟩, ⟨g0, g1, g2, g3, g4, g5⟩, hsz0⟩ := row6 ((hb1.block w.heap.size (by simp; omega)).trans (alloc2_old w _ _ _))
  have hne1 : w.heap.size ≠ w.heap.size + 1 := by omega
  have hne2 : w.heap.size + 1 ≠ w.heap.size := by omega
  have HB := tZ (show Below w.heap.size w w1 from (below2 w _ _).trans (hb1.mono (by simp; omega)))
  have HX := tZ hrest
  clear hb1 hrest H
  refine tZ ?_
  go_wp2
  refine bodyPost_ret (v := .tuple #[.agg #[.int .i64 vb, .slice none 0 0, .int .i64 0, .string ⟨#[]⟩, .int .i64 0, .slice none 0 0], .int .i64 7, .int .i64 0]) (by simp [results, Tryz.results35, go_sem, k0, k1, k2, k3, k4, k5, hsz]) rfl ?_
  exact ⟨(below6 HB.out (w.heap.size + 1) (by omega) _ _ _ _ _ _).alloc (by simp; omega) _, Or.inr (Or.inl ⟨n0, rfl, HX.out⟩)⟩
 ·have hb : (er != 0) = true := by simp [her]
  obtain ⟨⟨k0, k1, k2, k3, k4, k5⟩, ⟨f0, f1, f2, f3, f4, f5⟩, hsz⟩ := row6 ((hb1.block (w.heap.size + 1) (by simp)).trans (alloc2_new' w _ _ _))
  obtain ⟨⟨j0, j1, j2, j3, j4, j5⟩, ⟨g0, g1, g2, g3, g4, g5⟩, hsz0⟩ := row6 ((hb1.block w.heap.size (by simp; omega)).trans (alloc2_old w _ _ _))
  have hne1 : w.heap.size ≠ w.heap.size + 1 := by omega
  have hne2 : w.heap.size + 1 ≠ w.heap.size := by omega
  have HB := tZ (show Below w.heap.size w w1 from (below2 w _ _).trans (hb1.mono (by simp; omega)))
  have HX := tZ (And.intro her hrest)
  clear hb1 hrest H her
  refine tZ ?_
  go_wp2
  refine bodyPost_ret (v := .tuple #[.agg #[.int .i64 vb, .slice none 0 0, .int .i64 0, .string ⟨#[]⟩, .int .i64 0, .slice none 0 0], .int .i64 er, .int .i64 (p : Int)]) (by simp [results, Tryz.results35, go_sem, k0, k1, k2, k3, k4, k5, hsz]) rfl ?_
  exact ⟨(below6 HB.out (w.heap.size + 1) (by omega) _ _ _ _ _ _).alloc (by simp; omega) _, Or.inr (Or.inr ⟨er, p, n0, rfl, HX.out.1, HX.out.2⟩)⟩
theorem withNone (vb : Int) (an : Option Addr) (ln cn : Nat) (bl i n m pos : Nat) (k : Int) (hk : k ≠ 18) (w : World) (c0 : w.cell? ⟨bl, i * 4, none⟩ = some (.int .i64 k)) (c1 : w.cell? ⟨bl, i * 4 + 1, none⟩ = some (.int .i64 (pos : Int))) (hbl : bl < w.heap.size) :
  Calls Tryz.prog 35 #[.agg #[.int .i64 vb, .slice an ln cn, .int .i64 0, .string ⟨#[]⟩, .int .i64 0, .slice none 0 0], .slice (some ⟨bl, i * 4, none⟩) (n + 1) (m + 1)] w fun e w' => e = zeroL vb 3 pos ∧ Below w.heap.size w w' := by
 have hkb : (k != 18) = true := by simp [hk]
 have hn1 : (0 : Int) < (n : Int) + 1 := by omega
 have hne : bl ≠ w.heap.size + 1 := by omega
 have hne' : w.heap.size + 1 ≠ bl := by omega
 clear hk
 go_enter Tryz.func35, Tryz.ntmps35
 go_wp2_with fail
 go_region
 all_goals go_wp2
 all_goals refine bodyPost_ret (v := .tuple #[.agg #[.int .i64 vb, .slice none 0 0, .int .i64 0, .string ⟨#[]⟩, .int .i64 0, .slice none 0 0], .int .i64 3, .int .i64 (pos : Int)]) (by simp [results, Tryz.results35, go_sem]) rfl ?_
 all_goals exact ⟨rfl, (below2 _ _ _).drew⟩
end
end Go.Proofs.YtihgojcfpnhelabGreatDoor
