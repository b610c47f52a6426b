import Derived.Test.YtihgojcfpnhelabGreatDoorS2Mq
import Derived.Deep.RegionHeld3
set_option maxRecDepth 100000
set_option maxHeartbeats 4000000
set_option linter.unusedVariables false
set_option linter.unusedSimpArgs false
namespace Go.Proofs.YtihgojcfpnhelabGreatDoor
open Go.RowKit
section
def kN (ts : List (By × Nat)) (i : Nat) : Int := if i < ts.length then kindB (tAt ts i) else 0
def nT (ts : List (By × Nat)) (i : Nat) : By := if i < ts.length then nmB (tAt ts i) else []
def namesT (ts : List (By × Nat)) (i n : Nat) : List By := (List.range n).map fun j => nT ts (i + j)
theorem namesT_succ (ts : List (By × Nat)) (i n : Nat) : namesT ts i (n + 1) = namesT ts i n ++ [nT ts (i + n)] := by
 simp [namesT, List.range_succ]
theorem kN_lt {ts : List (By × Nat)} {i : Nat} (h : kN ts i ≠ 0) : i < ts.length := by
 unfold kN at h
 split at h
 ·assumption
 ·exact absurd rfl h
theorem tok_cells {s : By} {ts : List (By × Nat)} {B0 bl cp : Nat} {w : World} (hown : w.ownsRow B0 78 4 (.slice (some ⟨bl, 0, none⟩) (ts.length + 1) cp) (ts.length + 1) (pcells ts ++ endC s.length)) (i : Nat) (hi : i ≤ ts.length) :
  w.cell? ⟨bl, i * 4, none⟩ = some (.int .i64 (kN ts i)) ∧ w.cell? ⟨bl, i * 4 + 1, none⟩ = some (.int .i64 (pAt s.length ts i : Int)) ∧ w.cell? ⟨bl, i * 4 + 2, none⟩ = some (.string ⟨(nT ts i).toArray⟩) ∧ bl < w.heap.size ∧ ts.length + 1 ≤ cp := by
 rw [pt_cells] at hown
 have hpl : (ptoks s.length ts).length = ts.length + 1 := ptoks_length
 rw [← hpl] at hown
 rcases hown.2 with ⟨_, h0⟩ | ⟨bl', cp', cur, heq, hbl, hgg, hcap, hmax, _⟩
 ·omega
 ·obtain ⟨rfl, rfl⟩ : bl = bl' ∧ cp = cp' := by simpa using heq
  have hj : i < (ptoks s.length ts).length := by omega
  have e1 : ((ptoks s.length ts)[i]).1 = kN ts i := by
   by_cases h : i < ts.length
   ·rw [ptoks_lt hj h]; simp [kN, h]
   ·rw [ptoks_end hj h]; simp [kN, h]
  have e3 : ((ptoks s.length ts)[i]).2.2.1 = nT ts i := by
   by_cases h : i < ts.length
   ·rw [ptoks_lt hj h]; simp [nT, h]
   ·rw [ptoks_end hj h]; simp [nT, h]
  have h := ptc_get _ i hj
  rw [e1, ptoks_at hj, e3] at h
  refine ⟨?_, ?_, ?_, (Array.getElem?_eq_some_iff.1 hgg).1, by omega⟩
  ·rw [hown.cellAt (i * 4) (by omega)]; exact h.1
  ·rw [hown.cellAt (i * 4 + 1) (by omega)]; exact h.2.1
  ·rw [hown.cellAt (i * 4 + 2) (by omega)]; exact h.2.2.1
inductive LnR where
 | err (vb er : Int) (p : Nat)
 | ok (vb : Int) (ns : List By) (r : Option Pt)
def HeadP (len : Nat) (ts : List (By × Nat)) (vb : Int) (n : Nat) (rl : Bool) (r : LnR) : Prop :=
 (∃ j, j < n ∧ (∀ i, i < j → kN ts (1 + i) = 2) ∧ kN ts (1 + j) ≠ 2 ∧ r = .err vb 3 (pAt len ts (1 + j))) ∨
 ((∀ i, i < n → kN ts (1 + i) = 2) ∧
  ((rl = false ∧ kN ts (1 + n) ≠ 0 ∧ r = .err vb 3 (pAt len ts (1 + n))) ∨ (rl = false ∧ kN ts (1 + n) = 0 ∧ r = .ok vb (namesT ts 1 n) none) ∨
   (rl = true ∧ kN ts (1 + n) ≠ 18 ∧ r = .err vb 3 (pAt len ts (1 + n))) ∨
   (rl = true ∧ kN ts (1 + n) = 18 ∧ ∃ er p n0, n0 ≤ 1000000 ∧ runB len n0 [symB 82 0] (ts.drop (2 + n)) = some (er, p) ∧
    ((er ≠ 0 ∧ r = .err vb er p) ∨ (er = 0 ∧ p = 0 ∧ 100 < (toldTo (ts.drop (2 + n)) (ts.drop (2 + n)).length).length ∧ r = .err vb 7 0) ∨
    (er = 0 ∧ p = 0 ∧ ∃ t, Der (ts.drop (2 + n)) 1 0 (ts.drop (2 + n)).length t ∧ txt t = toldTo (ts.drop (2 + n)) (ts.drop (2 + n)).length ∧ ¬ 100 < (txt t).length ∧ r = .ok vb (namesT ts 1 n) (some t))))))
def RetL (r : LnR) (w : World) (e : Ending) (w' : World) : Prop :=
 match r with
 | .err vb er p => e = zeroL vb er p
 | .ok vb ns none => ∃ (an : Option Addr) (ln cn : Nat), e = .returned (.tuple #[.agg #[.int .i64 vb, .slice an ln cn, .int .i64 0, .string ⟨#[]⟩, .int .i64 0, .slice none 0 0], .int .i64 0, .int .i64 0]) ∧ w'.ownsRow w.heap.size 9 1 (.slice an ln cn) ns.length (strs ns)
 | .ok vb ns (some t) => ∃ (an : Option Addr) (ln cn : Nat) (a : Option Addr) (l c : Nat), e = .returned (.tuple #[.agg #[.int .i64 vb, .slice an ln cn, .int .i64 (t.k : Int), .string ⟨t.nm.toArray⟩, .int .i64 (t.n : Int), .slice a l c], .int .i64 0, .int .i64 0]) ∧ w'.ownsRow w.heap.size 9 1 (.slice an ln cn) ns.length (strs ns) ∧ PIs w' (fun q => w.heap.size ≤ q ∧ q < w'.heap.size) t a l c
def HrPost (len : Nat) (ts : List (By × Nat)) (vb : Int) (n : Nat) (rl : Bool) (w : World) (e : Ending) (w' : World) : Prop := ∃ r, HeadP len ts vb n rl r ∧ RetL r w e w' ∧ Below w.heap.size w w'
theorem own_set {w : World} {base z n q j : Nat} {e : TypeId} {v u : Value} {xs : List Value} (h : w.ownsRow base e z v n xs) (hq : q < base) : (w.setCell ⟨q, j, none⟩ u).ownsRow base e z v n xs := by
 obtain ⟨h1, h2⟩ := h
 refine ⟨h1, h2.imp id ?_⟩
 rintro ⟨g, cap, cur, h3, h4, h5, h6⟩
 exact ⟨g, cap, cur, h3, h4, (Below.heap_setCell _ _ _ _ (by show g ≠ q; omega)).trans h5, h6⟩
theorem own_base {w : World} {base base' z n : Nat} {e : TypeId} {v : Value} {xs : List Value} (h : w.ownsRow base e z v n xs) (hb : base' ≤ base) : w.ownsRow base' e z v n xs := by
 obtain ⟨h1, h2⟩ := h
 refine ⟨h1, h2.imp id ?_⟩
 rintro ⟨g, cap, cur, h3, h4, h5⟩
 exact ⟨g, cap, cur, h3, Nat.le_trans hb h4, h5⟩
theorem namesT_len (ts : List (By × Nat)) (i n : Nat) : (namesT ts i n).length = n := by simp [namesT]
theorem own_slice {w : World} {base z n : Nat} {e : TypeId} {v : Value} {xs : List Value} (h : w.ownsRow base e z v n xs) : ∃ an ln cn, v = .slice an ln cn := by
 rcases h.2 with ⟨rfl, _⟩ | ⟨g, cap, cur, rfl, _⟩
 ·exact ⟨_, _, _, rfl⟩
 ·exact ⟨_, _, _, rfl⟩
structure HrI (ts : List (By × Nat)) (wd : By) (vb : Int) (n : Nat) (rl : Bool) (w wr : World) (v : Value) (j : Nat) : Prop where
 h0 : wr.heap[w.heap.size]? = some (.cells #[.string ⟨wd.toArray⟩, .int .i64 vb, .int .i64 (n : Int), .bool rl] 75 (0, 0))
 h1 : wr.heap[w.heap.size + 1]? = some (.cells #[.int .i64 0, .slice none 0 0, .int .i64 0, .string ⟨#[]⟩, .int .i64 0, .slice none 0 0] 53 (0, 0))
 h2 : wr.heap[w.heap.size + 1 + 1]? = some (.cells #[.int .i64 vb, v, .int .i64 0, .string ⟨#[]⟩, .int .i64 0, .slice none 0 0] 53 (0, 0))
 own : wr.ownsRow (w.heap.size + 1 + 1 + 1) 9 1 v j (strs (namesT ts 1 j))
 bel : Below w.heap.size w wr
 nms : ∀ i, i < j → kN ts (1 + i) = 2
theorem HrI.step {ts : List (By × Nat)} {wd : By} {vb : Int} {n : Nat} {rl : Bool} {w wr : World} {v : Value} {j : Nat} (h : HrI ts wd vb n rl w wr v j) {o : Obj} {w2 : World} {v' : Value} (hg : (wr.alloc o).grownBy w2 v.ownBlock) (hk : kN ts (1 + j) = 2)
  (ho : w2.ownsRow (w.heap.size + 1 + 1 + 1) 9 1 v' (j + 1) (strs (namesT ts 1 j) ++ [.string ⟨(nT ts (1 + j)).toArray⟩])) : HrI ts wd vb n rl w (w2.setCell ⟨w.heap.size + 1 + 1, 1, none⟩ v') v' (j + 1) := by
 have hs2 := (Array.getElem?_eq_some_iff.1 h.h2).1
 have hkeep : ∀ q, q ≤ w.heap.size + 1 + 1 → w2.heap[q]? = wr.heap[q]? := fun q hq => by
  rw [hg.block q (by simp; omega) (fun e => by have := (h.own.lt q e.symm).1; omega), Below.heap_alloc _ _ _ (by omega)]
 refine ⟨?_, ?_, ?_, ?_, ?_, ?_⟩
 ·rw [Below.heap_setCell _ _ _ _ (by show w.heap.size ≠ w.heap.size + 1 + 1; omega), hkeep _ (by omega)]; exact h.h0
 ·rw [Below.heap_setCell _ _ _ _ (by show w.heap.size + 1 ≠ w.heap.size + 1 + 1; omega), hkeep _ (by omega)]; exact h.h1
 ·rw [setCell_block ((hkeep _ (by omega)).trans h.h2)]; rfl
 ·rw [namesT_succ, show strs (namesT ts 1 j ++ [nT ts (1 + j)]) = strs (namesT ts 1 j) ++ [.string ⟨(nT ts (1 + j)).toArray⟩] by simp [strs]]
  exact own_set ho (by omega)
 ·exact ((h.bel.alloc h.bel.size _).grown hg (by have := h.bel.size; simp; omega) (fun q hq => by have := (h.own.lt q hq).1; omega)).setCell (p := ⟨w.heap.size + 1 + 1, 1, none⟩) (by show w.heap.size ≤ w.heap.size + 1 + 1; omega) _
 ·intro i hi
  by_cases e : i = j
  ·subst e; exact hk
  ·exact h.nms i (by omega)
theorem HrI.drew {ts : List (By × Nat)} {wd : By} {vb : Int} {n : Nat} {rl : Bool} {w wr : World} {v : Value} {j : Nat} (h : HrI ts wd vb n rl w wr v j) : HrI ts wd vb n rl w wr.drew v j := ⟨h.h0, h.h1, h.h2, h.own, h.bel.drew, h.nms⟩
theorem HrI.line {ts : List (By × Nat)} {wd : By} {vb : Int} {n : Nat} {rl : Bool} {w wr : World} {v : Value} {j : Nat} (h : HrI ts wd vb n rl w wr v j) {o : Obj} {w2 : World} (hg : (wr.alloc o).grownBy w2 v.ownBlock) : w2.heap[w.heap.size + 1 + 1]? = some (.cells #[.int .i64 vb, v, .int .i64 0, .string ⟨#[]⟩, .int .i64 0, .slice none 0 0] 53 (0, 0)) := by
 have hs2 := (Array.getElem?_eq_some_iff.1 h.h2).1
 rw [hg.block _ (by simp; omega) (fun e => by have := (h.own.lt _ e.symm).1; omega), Below.heap_alloc _ _ _ (by omega)]
 exact h.h2
theorem headRead (s : By) (ts : List (By × Nat)) (bl cp B0 n : Nat) (wd : By) (vb : Int) (rl : Bool) (w : World) (hE : Env w) (hB0 : 11 ≤ B0) (hok : OkT ts) (hN : ts.length ≤ 120) (hlen : ∀ t p, (t, p) ∈ ts → t.length ≤ 19) (hn : n ≤ 2) (h1 : 1 ≤ ts.length)
  (hown : w.ownsRow B0 78 4 (.slice (some ⟨bl, 0, none⟩) (ts.length + 1) cp) (ts.length + 1) (pcells ts ++ endC s.length)) :
  Calls Tryz.prog 23 #[.agg #[.string ⟨wd.toArray⟩, .int .i64 vb, .int .i64 (n : Int), .bool rl], .slice (some ⟨bl, 4, none⟩) ts.length (cp - 1)] w (HrPost s.length ts vb n rl w) := by
 obtain ⟨i0, hi, hz0, hz1, hz2⟩ := info_parts info9
 have hcp := (tok_cells hown 0 (by omega)).2.2.2.2
 have hblw := (tok_cells hown 0 (by omega)).2.2.2.1
 have HO := tZ hown
 have HE := tZ hE
 have HOK := tZ hok
 have HL := tZ hlen
 clear hown hE hok hlen
 go_enter Tryz.func23, Tryz.ntmps23
 go_wp2_with fail
 go_loopg [1, 13] n (fun gk s1 s13 wr => ∃ (j : Nat) (v : Value), j ≤ n ∧ n ≤ j + gk ∧ 1 + j ≤ ts.length ∧ s13 = .int .i64 (j : Int) ∧ s1 = .slice (some ⟨bl, (1 + j) * 4, none⟩) (ts.length - j) (cp - 1 - j) ∧ Hid (HrI ts wd vb n rl w wr v j))
 case atStart =>
  refine ⟨0, .slice none 0 0, Nat.zero_le _, by omega, by omega, rfl, rfl, ⟨?_, ?_, ?_, ?_, below3 _ _ _ _, fun i hi => by omega⟩⟩
  ·rw [Below.heap_alloc _ _ _ (by simp; omega), Below.heap_alloc _ _ _ (by simp)]; exact heap_alloc_new w _
  ·rw [Below.heap_alloc _ _ _ (by simp)]; exact alloc2_new' w _ _ _
  ·exact alloc3_new w _ _ _ _
  ·exact World.ownsRow_nil _ _ _ _
 case round =>
  obtain ⟨j, v, hj, hgk, hjt, rfl, rfl, HI⟩ := hrel
  obtain ⟨an, ln, cn, rfl⟩ : ∃ an ln cn, v = .slice an ln cn := own_slice HI.out.own
  have hsz := HI.out.bel.size
  obtain ⟨⟨a0, a1, a2, a3⟩, ⟨b0, b1, b2, b3⟩, hsz0⟩ := row4 HI.out.h0
  obtain ⟨⟨k0, k1, k2, k3, k4, k5⟩, ⟨f0, f1, f2, f3, f4, f5⟩, hsz1⟩ := row6 HI.out.h1
  obtain ⟨⟨l0, l1, l2, l3, l4, l5⟩, ⟨g0, g1, g2, g3, g4, g5⟩, hsz2⟩ := row6 HI.out.h2
  obtain ⟨c0, c1, c2, _, _⟩ := tok_cells HO.out (1 + j) hjt
  have d0 := (HI.out.bel.cell (p := ⟨bl, (1 + j) * 4, none⟩) hblw).trans c0
  have d1 := (HI.out.bel.cell (p := ⟨bl, (1 + j) * 4 + 1, none⟩) hblw).trans c1
  have d2 := (HI.out.bel.cell (p := ⟨bl, (1 + j) * 4 + 2, none⟩) hblw).trans c2
  have hne0 : bl ≠ w.heap.size := by omega
  have hne1 : bl ≠ w.heap.size + 1 := by omega
  have hne2 : bl ≠ w.heap.size + 1 + 1 := by omega
  have hme0 : w.heap.size ≠ bl := by omega
  have hme1 : w.heap.size + 1 ≠ bl := by omega
  have hme2 : w.heap.size + 1 + 1 ≠ bl := by omega
  clear c0 c1 c2
  by_cases hlt : j < n
  ·have hltz : (j : Int) < (n : Int) := by omega
   by_cases hk : kN ts (1 + j) = 2
   ·have hkl : 1 + j < ts.length := kN_lt (by omega)
    have hkb : (kN ts (1 + j) != 2) = false := by simp [hk]
    have HK := tZ hk
    obtain ⟨x, hx⟩ : ∃ x, ts.length - j = x + 2 := ⟨ts.length - j - 2, by omega⟩
    obtain ⟨y, hy⟩ : ∃ y, cp - 1 - j = y + 2 := ⟨cp - 1 - j - 2, by omega⟩
    have hxy : x ≤ y := by omega
    have hx1 : (0 : Int) < (x : Int) + 2 := by omega
    have hx2 : (0 : Int) ≤ (x : Int) := by omega
    have hx3 : (x : Int) ≤ (y : Int) := by omega
    rw [hx, hy]
    have HX := tZ (And.intro hx hy)
    clear hk hx hy
    generalize hnn : nT ts (1 + j) = nn at *
    have HNN := tZ hnn
    clear hnn
    have HD := tZ HI.out.drew
    have HK2 := tZ (fun w2 (hg : (wr.drew.alloc (.cells #[.string ⟨nn.toArray⟩] 9)).grownBy w2 (Value.slice an ln cn).ownBlock) => HD.out.line hg)
    have HK3 := tZ (fun w2 (hg : (wr.drew.alloc (.cells #[.string ⟨nn.toArray⟩] 9)).grownBy w2 (Value.slice an ln cn).ownBlock) => hg.cell (a := ⟨bl, (1 + j) * 4 + 2, none⟩) (v := .string ⟨nn.toArray⟩) ((World.cell?_of_block (Below.heap_alloc wr.drew _ _ (by show bl < wr.heap.size; omega))).trans d2) (fun e => by have := (HD.out.own.lt bl e.symm).1; omega))
    go_wp2_with fail
    go_region_law ((refine step_append_lies _ (by rfl) (.tmp 28) (.tmp 33) 22 (by rfl) (w.heap.size + 1 + 1 + 1) 9 i0 (.string ⟨#[]⟩) 1 16 Tryz.underlying22 hi hz0 hz1 hz2 rfl (by decide) (.slice an ln cn) j (strs (namesT ts 1 j)) (by rfl) (HD.out.own.alloc _) ⟨wr.heap.size, 0, none⟩ 1 1 [.string ⟨nn.toArray⟩] (by rfl) rfl (fun q u hq => cells_new wr.drew [.string ⟨nn.toArray⟩] 9 q u hq) (fun u hu => by simp at hu; subst hu; rfl) (by omega) (by unfold maxLen; omega) (by omega) (by simp; omega) (wr.heap.size + 1) (by simp) ?_; intro g' cap' w2 hown' hgrow hat hltg; obtain ⟨⟨m0, m1, m2, m3, m4, m5⟩, ⟨n0, n1, n2, n3, n4, n5⟩, hsm⟩ := row6 (HK2.out _ hgrow); have d2' := HK3.out _ hgrow; have B1 := tZ hown'; have B2 := tZ hgrow; clear hown' hgrow))
    all_goals have HS := tZ (HD.out.step B2.out HK.out (by rw [HNN.out]; exact B1.out))
    all_goals go_wp2
    all_goals go_roundg (n - (j + 1))
    all_goals try (case measure => omega)
    all_goals exact ⟨j + 1, _, by omega, by omega, by omega, by go_num, by obtain ⟨e1, e2⟩ := HX.out; rw [show (1 + (j + 1)) * 4 = (1 + j) * 4 + 4 by omega, show ts.length - (j + 1) = x + 1 by omega, show cp - 1 - (j + 1) = y + 1 by omega], HS⟩
   ·have hkb : (kN ts (1 + j) != 2) = true := by simp [hk]
    have HR := tZ (show HeadP s.length ts vb n rl (.err vb 3 (pAt s.length ts (1 + j))) from Or.inl ⟨j, hlt, HI.out.nms, hk, rfl⟩)
    obtain ⟨x, hx⟩ : ∃ x, ts.length - j = x + 1 := ⟨ts.length - j - 1, by omega⟩
    have hx1 : (0 : Int) < (x : Int) + 1 := by omega
    rw [hx]
    clear hk hx
    generalize pAt s.length ts (1 + j) = pos at *
    go_wp2_with fail
    go_region
    all_goals go_wp2
    all_goals refine bodyPost_ret (v := .tuple #[.agg #[.int .i64 vb, .slice none 0 0, .int .i64 0, .string ⟨#[]⟩, .int .i64 0, .slice none 0 0], .int .i64 3, .int .i64 (pos : Int)]) (by simp [results, Tryz.results23, go_sem, k0, k1, k2, k3, k4, k5, hsz1]) rfl ?_
    all_goals exact ⟨_, HR.out, rfl, (below6 HI.out.bel _ (by omega) _ _ _ _ _ _).drew⟩
  ·have hltz : ¬ (j : Int) < (n : Int) := by omega
   obtain rfl : j = n := by omega
   cases rl with
   | true =>
    by_cases hk : kN ts (1 + j) = 18
    ·have hkl : 1 + j < ts.length := kN_lt (by omega)
     obtain ⟨x, hx⟩ : ∃ x, ts.length - j = x + 2 := ⟨ts.length - j - 2, by omega⟩
     obtain ⟨y, hy⟩ : ∃ y, cp - 1 - j = y + 2 := ⟨cp - 1 - j - 2, by omega⟩
     have HB := tZ HI.out.bel
     have HC := tZ (show Calls Tryz.prog 35 #[.agg #[.int .i64 vb, .slice an ln cn, .int .i64 0, .string ⟨#[]⟩, .int .i64 0, .slice none 0 0], .slice (some ⟨bl, (1 + j) * 4, none⟩) (x + 2) (y + 2)] wr (LwPost vb an ln cn s.length (ts.drop (1 + j + 1)) wr) from
      withRule vb an ln cn s.length (ts.drop (1 + j + 1)) bl (1 + j) x y wr (by rw [d0, hk]) (by omega) (by omega) fun W hW => by
       have hb := HB.out.trans (hW.mono HB.out.size)
       have := readI s ts bl cp (1 + j + 1) B0 W (HE.out.next hb) hB0 HOK.out hN (by omega) HL.out (own_below HO.out hb)
       rw [show (ptoks s.length ts).length - (1 + j + 1) = x + 1 by rw [ptoks_length]; omega, show cp - (1 + j + 1) = y + 1 by omega, show (1 + j + 1) * 4 = (1 + j) * 4 + 4 by omega] at this
       exact this)
     rw [hx, hy]
     have HK := tZ hk
     clear hk hx hy
     go_wp2_with (first | (go_at_call 35; refine HC.out.mono ?_; rintro e w1 ⟨hb1, (⟨p, a, l, c, n0, rfl, hp, hrest⟩ | ⟨n0, rfl, hrest⟩ | ⟨er, p, n0, rfl, her, hrest⟩)⟩ <;> refine Hid.out ?_))
     ·have HP := tZ hp
      clear hp
      have HB1 := tZ (show Below w.heap.size w w1 from HB.out.trans (hb1.mono HB.out.size))
      have HB2 := tZ hb1
      have HX := tZ hrest
      obtain ⟨⟨q0, q1, q2, q3, q4, q5⟩, ⟨r0, r1, r2, r3, r4, r5⟩, hsq⟩ := row6 ((hb1.block (w.heap.size + 1) hsz1).trans HI.out.h1)
      clear hb1 hrest HC
      refine tZ ?_
      go_wp2
      refine bodyPost_ret (v := .tuple #[.agg #[.int .i64 vb, .slice an ln cn, .int .i64 (p.k : Int), .string ⟨p.nm.toArray⟩, .int .i64 (p.n : Int), .slice a l c], .int .i64 0, .int .i64 0]) (by simp [results, Tryz.results23, go_sem, q0, q1, q2, q3, q4, q5, hsq]) rfl ?_
      obtain ⟨x1, x2, x3, x4, x5⟩ := HX.out
      refine ⟨.ok vb (namesT ts 1 j) (some p), Or.inr ⟨HI.out.nms, Or.inr (Or.inr (Or.inr ⟨rfl, HK.out, 0, 0, n0, x4, ?_, Or.inr (Or.inr ⟨rfl, rfl, p, ?_, ?_, ?_, rfl⟩)⟩))⟩, ⟨an, ln, cn, a, l, c, rfl, ?_, ?_⟩, below6 HB1.out _ (by omega) _ _ _ _ _ _⟩
      ·rw [show 2 + j = 1 + j + 1 by omega]; exact x5
      ·rw [show 2 + j = 1 + j + 1 by omega]; exact x1
      ·rw [show 2 + j = 1 + j + 1 by omega]; exact x2
      ·rw [x2]; exact x3
      ·rw [namesT_len]
       exact own_base (own_set (own_set (own_set (own_set (own_set (own_set (own_below HI.out.own HB2.out) (by omega)) (by omega)) (by omega)) (by omega)) (by omega)) (by omega)) (by omega)
      ·refine (HP.out.next fun q hq => ?_).wide fun q hq => ?_
       ·have := hq.1
        rw [heap6 _ _ _ (by omega)]
       ·have h1 := hq.1
        have h2 := hq.2
        simp
        omega
     ·have HB1 := tZ (show Below w.heap.size w w1 from HB.out.trans (hb1.mono HB.out.size))
      have HB2 := tZ hb1
      have HX := tZ hrest
      obtain ⟨⟨q0, q1, q2, q3, q4, q5⟩, ⟨r0, r1, r2, r3, r4, r5⟩, hsq⟩ := row6 ((hb1.block (w.heap.size + 1) hsz1).trans HI.out.h1)
      clear hb1 hrest HC
      refine tZ ?_
      go_wp2
      refine bodyPost_ret (v := .tuple #[.agg #[.int .i64 vb, .slice none 0 0, .int .i64 0, .string ⟨#[]⟩, .int .i64 0, .slice none 0 0], .int .i64 7, .int .i64 0]) (by simp [results, Tryz.results23, go_sem, q0, q1, q2, q3, q4, q5, hsq]) rfl ?_
      obtain ⟨x1, x2, x3⟩ := HX.out
      refine ⟨.err vb 7 0, Or.inr ⟨HI.out.nms, Or.inr (Or.inr (Or.inr ⟨rfl, HK.out, 0, 0, n0, x2, ?_, Or.inr (Or.inl ⟨rfl, rfl, ?_, rfl⟩)⟩))⟩, rfl, below6 HB1.out _ (by omega) _ _ _ _ _ _⟩
      ·rw [show 2 + j = 1 + j + 1 by omega]; exact x3
      ·rw [show 2 + j = 1 + j + 1 by omega]; exact x1
     ·have HER := tZ her
      clear her
      have HB1 := tZ (show Below w.heap.size w w1 from HB.out.trans (hb1.mono HB.out.size))
      have HB2 := tZ hb1
      have HX := tZ hrest
      obtain ⟨⟨q0, q1, q2, q3, q4, q5⟩, ⟨r0, r1, r2, r3, r4, r5⟩, hsq⟩ := row6 ((hb1.block (w.heap.size + 1) hsz1).trans HI.out.h1)
      clear hb1 hrest HC
      refine tZ ?_
      go_wp2
      refine bodyPost_ret (v := .tuple #[.agg #[.int .i64 vb, .slice none 0 0, .int .i64 0, .string ⟨#[]⟩, .int .i64 0, .slice none 0 0], .int .i64 er, .int .i64 (p : Int)]) (by simp [results, Tryz.results23, go_sem, q0, q1, q2, q3, q4, q5, hsq]) rfl ?_
      obtain ⟨x1, x2⟩ := HX.out
      refine ⟨.err vb er p, Or.inr ⟨HI.out.nms, Or.inr (Or.inr (Or.inr ⟨rfl, HK.out, er, p, n0, x1, ?_, Or.inl ⟨HER.out, rfl⟩⟩))⟩, rfl, below6 HB1.out _ (by omega) _ _ _ _ _ _⟩
      rw [show 2 + j = 1 + j + 1 by omega]; exact x2
    ·obtain ⟨x, hx⟩ : ∃ x, ts.length - j = x + 1 := ⟨ts.length - j - 1, by omega⟩
     obtain ⟨y, hy⟩ : ∃ y, cp - 1 - j = y + 1 := ⟨cp - 1 - j - 1, by omega⟩
     have HB := tZ HI.out.bel
     have HC := tZ (withNone vb an ln cn bl (1 + j) x y (pAt s.length ts (1 + j)) (kN ts (1 + j)) hk wr d0 d1 (by omega))
     rw [hx, hy]
     have HK := tZ hk
     clear hk hx hy
     go_wp2_with (first | (go_at_call 35; refine HC.out.mono ?_; unfold zeroL; rintro e w1 ⟨rfl, hb1⟩; refine Hid.out ?_))
     have HB1 := tZ (show Below w.heap.size w w1 from HB.out.trans (hb1.mono HB.out.size))
     obtain ⟨⟨q0, q1, q2, q3, q4, q5⟩, ⟨r0, r1, r2, r3, r4, r5⟩, hsq⟩ := row6 ((hb1.block (w.heap.size + 1) hsz1).trans HI.out.h1)
     clear hb1 HC
     refine tZ ?_
     go_wp2
     refine bodyPost_ret (v := .tuple #[.agg #[.int .i64 vb, .slice none 0 0, .int .i64 0, .string ⟨#[]⟩, .int .i64 0, .slice none 0 0], .int .i64 3, .int .i64 (pAt s.length ts (1 + j) : Int)]) (by simp [results, Tryz.results23, go_sem, q0, q1, q2, q3, q4, q5, hsq]) rfl ?_
     exact ⟨.err vb 3 _, Or.inr ⟨HI.out.nms, Or.inr (Or.inr (Or.inl ⟨rfl, HK.out, rfl⟩))⟩, rfl, below6 HB1.out _ (by omega) _ _ _ _ _ _⟩
   | false =>
    obtain ⟨x, hx⟩ : ∃ x, ts.length - j = x + 1 := ⟨ts.length - j - 1, by omega⟩
    have hx1 : (0 : Int) < (x : Int) + 1 := by omega
    rw [hx]
    clear hx
    by_cases hk : kN ts (1 + j) = 0
    ·have hkb : (kN ts (1 + j) != 0) = false := by simp [hk]
     have HK := tZ hk
     clear hk
     go_wp2
     refine bodyPost_ret (v := .tuple #[.agg #[.int .i64 vb, .slice an ln cn, .int .i64 0, .string ⟨#[]⟩, .int .i64 0, .slice none 0 0], .int .i64 0, .int .i64 0]) (by simp [results, Tryz.results23, go_sem, k0, k1, k2, k3, k4, k5, hsz1]) rfl ?_
     refine ⟨.ok vb (namesT ts 1 j) none, Or.inr ⟨HI.out.nms, Or.inr (Or.inl ⟨rfl, HK.out, rfl⟩)⟩, ⟨an, ln, cn, rfl, ?_⟩, below6 HI.out.bel _ (by omega) _ _ _ _ _ _⟩
     rw [namesT_len]
     exact own_base (own_set (own_set (own_set (own_set (own_set (own_set HI.out.own (by omega)) (by omega)) (by omega)) (by omega)) (by omega)) (by omega)) (by omega)
    ·have hkb : (kN ts (1 + j) != 0) = true := by simp [hk]
     have HR := tZ (show HeadP s.length ts vb j false (.err vb 3 (pAt s.length ts (1 + j))) from Or.inr ⟨HI.out.nms, Or.inl ⟨rfl, hk, rfl⟩⟩)
     clear hk
     generalize pAt s.length ts (1 + j) = pos at *
     go_wp2_with fail
     go_region
     all_goals go_wp2
     all_goals refine bodyPost_ret (v := .tuple #[.agg #[.int .i64 vb, .slice none 0 0, .int .i64 0, .string ⟨#[]⟩, .int .i64 0, .slice none 0 0], .int .i64 3, .int .i64 (pos : Int)]) (by simp [results, Tryz.results23, go_sem, k0, k1, k2, k3, k4, k5, hsz1]) rfl ?_
     all_goals exact ⟨_, HR.out, rfl, (below6 HI.out.bel _ (by omega) _ _ _ _ _ _).drew⟩
end
section
theorem scan_ok (s : By) (w : World) (ts : List (By × Nat)) (hE : Env w) (hl : s.length ≤ 120) (h : toksOf s = (ts, none)) :
  Calls Tryz.prog 22 #[.string ⟨s.toArray⟩] w fun e w' => ∃ v, e = .returned (.tuple #[v, .int .i64 0, .int .i64 0]) ∧ w'.ownsRow w.heap.size 78 4 v (ts.length + 1) (pcells ts ++ endC s.length) ∧ Below w.heap.size w w' := by
 refine (scan7 s w hE hl).mono fun e w' hT => ?_
 obtain ⟨_, h2, h3⟩ := hT
 rw [h] at h2
 obtain ⟨v, he, ho⟩ := h2 rfl
 exact ⟨v, he, ho, h3⟩
theorem scan_bad (s : By) (w : World) (p : Nat) (hE : Env w) (hl : s.length ≤ 120) (h : (toksOf s).2 = some p) :
  Calls Tryz.prog 22 #[.string ⟨s.toArray⟩] w fun e w' => e = .returned (.tuple #[.slice none 0 0, .int .i64 2, .int .i64 (p : Int)]) ∧ Below w.heap.size w w' :=
 (scan7 s w hE hl).mono fun _ _ hT => ⟨hT.1 p h, hT.2.2⟩
end
section
attribute [local go_sem] idx_eq app_eq
def headsW : List (By × Int × Nat × Bool) :=
 [([115, 101, 116], 1, 1, true), ([100, 101, 108, 101, 116, 101], 2, 1, false), ([114, 101, 110, 97, 109, 101], 3, 2, false), ([98, 101, 103, 105, 110], 4, 0, false),
  ([99, 111, 109, 109, 105, 116], 5, 0, false), ([99, 97, 110, 99, 101, 108], 6, 0, false), ([117, 110, 100, 111], 7, 0, false), ([114, 101, 100, 111], 8, 0, false),
  ([118, 97, 108, 117, 101], 9, 1, false), ([114, 117, 108, 101], 10, 1, false), ([108, 105, 115, 116], 11, 0, false), ([111, 114, 100, 101, 114], 12, 0, false)]
def headsC : Array Value := (headsW.flatMap fun x => [Value.string ⟨x.1.toArray⟩, .int .i64 x.2.1, .int .i64 (x.2.2.1 : Int), .bool x.2.2.2]).toArray
def EnvL (w : World) : Prop := ∃ t fr, w.heap[0]? = some (.cells headsC t fr)
theorem EnvL.next {w w' : World} (h : EnvL w) (hE : Env w) (hb : Below w.heap.size w w') : EnvL w' := by
 obtain ⟨t, fr, h⟩ := h
 exact ⟨t, fr, (hb.block _ (by have := hE.size; omega)).trans h⟩
theorem head_idx (k : Nat) (h : k < 12) (w : World) : (Instr.index 76 (.agg headsC) (.int .i64 (k : Int))).run Tryz.prog w = .ok (.agg #[.string ⟨((headsW[k]'h).1).toArray⟩, .int .i64 (headsW[k]'h).2.1, .int .i64 ((headsW[k]'h).2.2.1 : Int), .bool (headsW[k]'h).2.2.2]) w := by
 rcases (show k = 0 ∨ k = 1 ∨ k = 2 ∨ k = 3 ∨ k = 4 ∨ k = 5 ∨ k = 6 ∨ k = 7 ∨ k = 8 ∨ k = 9 ∨ k = 10 ∨ k = 11 by omega) with h | h | h | h | h | h | h | h | h | h | h | h <;> subst h <;> kernel_rfl
def LineT (len : Nat) (ts : List (By × Nat)) (r : LnR) : Prop :=
 (∃ k, ∃ h : k < 12, (headsW[k]'h).1 = nT ts 0 ∧ HeadP len ts (headsW[k]'h).2.1 (headsW[k]'h).2.2.1 (headsW[k]'h).2.2.2 r) ∨
 ((∀ k (h : k < 12), (headsW[k]'h).1 ≠ nT ts 0) ∧ r = .err 0 3 (pAt len ts 0))
def LineP (s : By) (r : LnR) : Prop :=
 (120 < s.length ∧ r = .err 0 1 0) ∨ (s.length ≤ 120 ∧ ∃ p, (toksOf s).2 = some p ∧ r = .err 0 2 p) ∨ (s.length ≤ 120 ∧ ∃ ts, toksOf s = (ts, none) ∧ LineT s.length ts r)
def LrPost (s : By) (w : World) (e : Ending) (w' : World) : Prop := ∃ r, LineP s r ∧ RetL r w e w' ∧ Below w.heap.size w w'
theorem heads_facts : ∀ x, x ∈ headsW → x.1 ≠ [] ∧ x.2.2.1 ≤ 2 := by decide
theorem RetL.form {r : LnR} {W w1 : World} {e : Ending} (h : RetL r W e w1) : ∃ (vb : Int) (an : Option Addr) (ln cn : Nat) (k : Int) (nm : By) (n : Int) (a : Option Addr) (l c : Nat) (er p : Int), e = .returned (.tuple #[.agg #[.int .i64 vb, .slice an ln cn, .int .i64 k, .string ⟨nm.toArray⟩, .int .i64 n, .slice a l c], .int .i64 er, .int .i64 p]) :=
 match r, h with
 | .err vb er p, h => ⟨vb, none, 0, 0, 0, [], 0, none, 0, 0, er, p, h⟩
 | .ok vb ns none, ⟨an, ln, cn, h, _⟩ => ⟨vb, an, ln, cn, 0, [], 0, none, 0, 0, 0, 0, h⟩
 | .ok vb ns (some t), ⟨an, ln, cn, a, l, c, h, _⟩ => ⟨vb, an, ln, cn, _, _, _, a, l, c, 0, 0, h⟩
theorem RetL.put {r : LnR} {w W w1 : World} {e : Ending} (h : RetL r W e w1) (hw : w.heap.size < W.heap.size) (v0 v1 v2 v3 v4 v5 : Value) :
  RetL r w e ((((((w1.setCell ⟨w.heap.size, 0, none⟩ v0).setCell ⟨w.heap.size, 1, none⟩ v1).setCell ⟨w.heap.size, 2, none⟩ v2).setCell ⟨w.heap.size, 3, none⟩ v3).setCell ⟨w.heap.size, 4, none⟩ v4).setCell ⟨w.heap.size, 5, none⟩ v5) := by
 have own : ∀ {an ln cn n xs}, w1.ownsRow W.heap.size 9 1 (.slice an ln cn) n xs → ((((((w1.setCell ⟨w.heap.size, 0, none⟩ v0).setCell ⟨w.heap.size, 1, none⟩ v1).setCell ⟨w.heap.size, 2, none⟩ v2).setCell ⟨w.heap.size, 3, none⟩ v3).setCell ⟨w.heap.size, 4, none⟩ v4).setCell ⟨w.heap.size, 5, none⟩ v5).ownsRow w.heap.size 9 1 (.slice an ln cn) n xs := fun h =>
  own_base (own_set (own_set (own_set (own_set (own_set (own_set h hw) hw) hw) hw) hw) hw) (Nat.le_of_lt hw)
 match r, h with
 | .err vb er p, h => exact h
 | .ok vb ns none, h =>
  obtain ⟨an, ln, cn, h1, h2⟩ := h
  exact ⟨an, ln, cn, h1, own h2⟩
 | .ok vb ns (some t), h =>
  obtain ⟨an, ln, cn, a, l, c, h1, h2, h3⟩ := h
  refine ⟨an, ln, cn, a, l, c, h1, own h2, (h3.next fun q hq => ?_).wide fun q hq => ?_⟩
  ·have := hq.1
   rw [heap6 _ _ _ (by omega)]
  ·have h1 := hq.1
   have h2 := hq.2
   simp
   omega
theorem linesLong (s : By) (w : World) (h : 120 < s.length) : Calls Tryz.prog 14 #[.string ⟨s.toArray⟩] w (LrPost s w) := by
 have H := tZ (fun W => scan_long s W h)
 have HA := tZ (show LineP s (.err 0 1 0) from Or.inl ⟨h, rfl⟩)
 clear h
 go_enter Tryz.func14, Tryz.ntmps14
 go_wp2_with (first | (go_at_call 22; refine (H.out _).mono ?_; rintro e w' ⟨rfl, rfl⟩))
 refine bodyPost_ret (v := .tuple #[.agg #[.int .i64 0, .slice none 0 0, .int .i64 0, .string ⟨#[]⟩, .int .i64 0, .slice none 0 0], .int .i64 1, .int .i64 0]) (by simp [results, Tryz.results14, go_sem]) rfl ?_
 exact ⟨_, HA.out, rfl, (Below.refl _ _).alloc (Nat.le_refl _) _⟩
theorem linesBad (s : By) (w : World) (p : Nat) (hE : Env w) (hl : s.length ≤ 120) (h : (toksOf s).2 = some p) : Calls Tryz.prog 14 #[.string ⟨s.toArray⟩] w (LrPost s w) := by
 have H := tZ (fun W (hb : Below w.heap.size w W) => scan_bad s W p (hE.next hb) hl h)
 have HA := tZ (show LineP s (.err 0 2 p) from Or.inr (Or.inl ⟨hl, p, h, rfl⟩))
 clear h
 go_enter Tryz.func14, Tryz.ntmps14
 go_wp2_with (first | (go_at_call 22; refine (H.out _ (bZ _)).mono ?_; rintro e w1 ⟨rfl, hb⟩; refine Hid.out ?_))
 obtain ⟨⟨q0, q1, q2, q3, q4, q5⟩, ⟨r0, r1, r2, r3, r4, r5⟩, hsq⟩ := row6 ((hb.block w.heap.size (by simp)).trans (heap_alloc_new w _))
 have HB := tZ (show Below w.heap.size w w1 from (bZ _).trans (hb.mono (by simp)))
 clear hb H
 refine tZ ?_
 go_wp2
 refine bodyPost_ret (v := .tuple #[.agg #[.int .i64 0, .slice none 0 0, .int .i64 0, .string ⟨#[]⟩, .int .i64 0, .slice none 0 0], .int .i64 2, .int .i64 (p : Int)]) (by simp [results, Tryz.results14, go_sem, q0, q1, q2, q3, q4, q5, hsq]) rfl ?_
 exact ⟨_, HA.out, rfl, below6 HB.out _ (Nat.le_refl _) _ _ _ _ _ _⟩
theorem linesOk (s : By) (w : World) (ts : List (By × Nat)) (hE : Env w) (hEL : EnvL w) (hl : s.length ≤ 120) (h : toksOf s = (ts, none)) (hok : OkT ts) (hN : ts.length ≤ 120) (hlen : ∀ t p, (t, p) ∈ ts → t.length ≤ 19) : Calls Tryz.prog 14 #[.string ⟨s.toArray⟩] w (LrPost s w) := by
 have H := tZ (fun W (hb : Below w.heap.size w W) => scan_ok s W ts (hE.next hb) hl h)
 have HA := tZ (show ∀ r, LineT s.length ts r → LineP s r from fun r hr => Or.inr (Or.inr ⟨hl, ts, h, hr⟩))
 have HH := tZ (fun k (hk : k < 12) W (hb : Below w.heap.size w W) bl cp B0 (hB0 : 11 ≤ B0) (h1 : 1 ≤ ts.length) (hown : W.ownsRow B0 78 4 (.slice (some ⟨bl, 0, none⟩) (ts.length + 1) cp) (ts.length + 1) (pcells ts ++ endC s.length)) => headRead s ts bl cp B0 (headsW[k]'hk).2.2.1 (headsW[k]'hk).1 (headsW[k]'hk).2.1 (headsW[k]'hk).2.2.2 W (hE.next hb) hB0 hok hN hlen (heads_facts _ (List.getElem_mem hk)).2 h1 hown)
 have HE := tZ hE
 have HEL := tZ hEL
 clear h hok hlen hE hEL
 go_enter Tryz.func14, Tryz.ntmps14
 go_wp2_with (first | (go_at_call 22; refine (H.out _ (bZ _)).mono ?_; rintro e w1 ⟨v, rfl, hown, hb⟩; refine Hid.out ?_))
 have hR := (hb.block w.heap.size (by simp)).trans (heap_alloc_new w _)
 have HB := tZ (show Below w.heap.size w w1 from (bZ _).trans (hb.mono (by simp)))
 obtain ⟨bl, cp, rfl, hbl, hblw⟩ := hown.form (by omega)
 obtain ⟨c0, c1, c2, _, hcp⟩ := tok_cells hown 0 (by omega)
 simp only [Nat.zero_mul, Nat.zero_add] at c0 c1 c2
 simp at hbl
 have HO := tZ hown
 have HR := tZ hR
 obtain ⟨tt, fr, hm⟩ := HEL.out.next HE.out HB.out
 have HM := tZ hm
 have hnn : (0 : Int) < (ts.length : Int) + 1 := by omega
 clear hb hown H hR hm
 refine tZ ?_
 go_wp2_with (refine wpList_load_row rfl 76 _ rfl 0 rfl tt _ fr _ HM.out Tryz.underlying76 rfl (by kernel_rfl) ?_)
 go_loopg [9, 22] 12 (fun gk _ s22 wr => ∃ k : Nat, k ≤ 12 ∧ 12 ≤ k + gk ∧ s22 = .int .i64 (k : Int) ∧ Hid (Below w1.heap.size w1 wr) ∧ Hid (∀ j (hj : j < 12), j < k → (headsW[j]'hj).1 ≠ nT ts 0))
 case atStart => exact ⟨0, by omega, by omega, rfl, Below.refl _ _, fun _ _ h => by omega⟩
 case round =>
  obtain ⟨k, hk, hgk, rfl, HBr, HN⟩ := hrel
  have hsr := HBr.out.size
  have hsw := HB.out.size
  have d1 := (HBr.out.cell (p := ⟨bl, 1, none⟩) hblw).trans c1
  have d2 := (HBr.out.cell (p := ⟨bl, 2, none⟩) hblw).trans c2
  have hblr : bl < wr.heap.size := by omega
  have hwr : w.heap.size < wr.heap.size := by omega
  clear c0 c1 c2
  by_cases hlt : k < 12
  ·have hix := head_idx k hlt
   have hltz : (k : Int) < 12 := by omega
   by_cases he : (headsW[k]'hlt).1 = nT ts 0
   ·have heb : (nT ts 0 == (headsW[k]'hlt).1) = true := by simp [he]
    have h1 : 1 ≤ ts.length := by
     rcases Nat.eq_zero_or_pos ts.length with h0 | h0
     ·have := (heads_facts _ (List.getElem_mem hlt)).1
      rw [he] at this
      simp [nT, h0] at this
     ·exact h0
    obtain ⟨y, rfl⟩ : ∃ y, cp = y + 2 := ⟨cp - 2, by omega⟩
    have HBW := tZ (show Below w.heap.size w wr from HB.out.trans (HBr.out.mono hsw))
    have HC := tZ (fun W (hW : Below wr.heap.size wr W) => HH.out k hlt W (HBW.out.trans (hW.mono HBW.out.size)) bl (y + 2) w.heap.size HE.out.size h1 (own_base (own_below (own_below HO.out HBr.out) hW) (by simp)))
    have HT := tZ (fun r (hr : HeadP s.length ts (headsW[k]'hlt).2.1 (headsW[k]'hlt).2.2.1 (headsW[k]'hlt).2.2.2 r) => HA.out r (Or.inl ⟨k, hlt, he, hr⟩))
    have hy1 : (1 : Int) ≤ (ts.length : Int) + 1 := by omega
    have hy2 : (ts.length : Int) + 1 ≤ (y : Int) + 2 := by omega
    clear he HN
    generalize headsW[k]'hlt = hd at *
    obtain ⟨wd, vb, n, rl⟩ := hd
    simp only at *
    go_wp2_with fail
    go_region
    have HBA := tZ (show Below wr.heap.size wr (wr.alloc (.cells #[.string ⟨wd.toArray⟩, .int .i64 vb, .int .i64 (n : Int), .bool rl] 75)).drew.drew from (bZ _).drew.drew)
    have HRW := tZ (fun w2 (hb2 : Below (wr.alloc (.cells #[.string ⟨wd.toArray⟩, .int .i64 vb, .int .i64 (n : Int), .bool rl] 75)).drew.drew.heap.size (wr.alloc (.cells #[.string ⟨wd.toArray⟩, .int .i64 vb, .int .i64 (n : Int), .bool rl] 75)).drew.drew w2) => row6 ((hb2.block w.heap.size (by simp; omega)).trans ((HBA.out.block w.heap.size hwr).trans ((HBr.out.block w.heap.size (by omega)).trans HR.out))))
    have HC2 := tZ (HC.out _ HBA.out)
    go_wp2_with fail
    go_region_with (first | (go_at_call 23; refine HC2.out.mono ?_; rintro e w2 ⟨r, hr, hret, hb2⟩; obtain ⟨vb', an, ln, cn, k', nm', n', a, l, c, er, p, rfl⟩ := hret.form; obtain ⟨⟨q0, q1, q2, q3, q4, q5⟩, ⟨r0, r1, r2, r3, r4, r5⟩, hsq⟩ := HRW.out _ hb2; have HR3 := tZ hr; have HR4 := tZ hret; have HB3 := tZ hb2; clear hr hret hb2))
    all_goals go_wp2
    all_goals refine bodyPost_ret (v := .tuple #[.agg #[.int .i64 vb', .slice an ln cn, .int .i64 k', .string ⟨nm'.toArray⟩, .int .i64 n', .slice a l c], .int .i64 er, .int .i64 p]) (by simp [results, Tryz.results14, go_sem, q0, q1, q2, q3, q4, q5, hsq]) rfl ?_
    all_goals exact ⟨_, HT.out _ HR3.out, HR4.out.put (by simp; omega) _ _ _ _ _ _, below6 (HBW.out.trans ((HBA.out.trans (HB3.out.mono (by simp))).mono HBW.out.size)) _ (Nat.le_refl _) _ _ _ _ _ _⟩
   ·have heb : (nT ts 0 == (headsW[k]'hlt).1) = false := beq_eq_false_iff_ne.2 fun h => he h.symm
    have HN2 := tZ (show ∀ j (hj : j < 12), j < k + 1 → (headsW[j]'hj).1 ≠ nT ts 0 from fun j hj hjk => by
     rcases Nat.lt_or_ge j k with h1 | h1
     ·exact HN.out j hj h1
     ·obtain rfl : j = k := by omega
      exact he)
    clear he HN HH
    generalize headsW[k]'hlt = hd at *
    obtain ⟨wd, vb, n, rl⟩ := hd
    simp only at *
    go_wp2_with fail
    go_region
    go_wp2
    go_roundg (12 - (k + 1))
    case measure => omega
    case rel => exact ⟨k + 1, by omega, by omega, by go_num, (HBr.out.alloc hsr _).drew, HN2⟩
  ·have hltz : ¬ (k : Int) < 12 := by omega
   obtain ⟨⟨q0, q1, q2, q3, q4, q5⟩, ⟨r0, r1, r2, r3, r4, r5⟩, hsq⟩ := row6 ((HBr.out.block w.heap.size (by omega)).trans HR.out)
   have HT := tZ (HA.out (.err 0 3 (pAt s.length ts 0)) (Or.inr ⟨fun j hj => HN.out j hj (by omega), rfl⟩))
   have HB4 := tZ (show Below w.heap.size w wr from HB.out.trans (HBr.out.mono hsw))
   clear HN HH
   generalize pAt s.length ts 0 = pos at *
   go_wp2_with fail
   go_region
   all_goals go_wp2
   all_goals refine bodyPost_ret (v := .tuple #[.agg #[.int .i64 0, .slice none 0 0, .int .i64 0, .string ⟨#[]⟩, .int .i64 0, .slice none 0 0], .int .i64 3, .int .i64 (pos : Int)]) (by simp [results, Tryz.results14, go_sem, q0, q1, q2, q3, q4, q5, hsq]) rfl ?_
   all_goals exact ⟨_, HT.out, rfl, (below6 HB4.out _ (Nat.le_refl _) _ _ _ _ _ _).drew⟩
theorem linesRead (s : By) (w : World) (hE : Env w) (hEL : EnvL w) : Calls Tryz.prog 14 #[.string ⟨s.toArray⟩] w (LrPost s w) := by
 by_cases hl : 120 < s.length
 ·exact linesLong s w hl
 ·have hl' : s.length ≤ 120 := by omega
  cases h : (toksOf s).2 with
  | some p => exact linesBad s w p hE hl' h
  | none =>
   have h' : toksOf s = ((toksOf s).1, none) := by rw [← h]
   have htk : toks s.length s 0 = ((toksOf s).1, none) := h'
   have hmem : ∀ t p, (t, p) ∈ (toksOf s).1 → (t, p) ∈ (toks s.length s 0).1 := fun t p hm => hm
   refine linesOk s w (toksOf s).1 hE hEL hl' h' (fun t p hm => ⟨⟨toks_ok _ _ _ t p (hmem t p hm), toks_good _ _ _ t p (hmem t p hm)⟩, toks_allD _ _ _ t p (hmem t p hm)⟩) ?_ (fun t p hm => toks_len19 _ _ _ t p (hmem t p hm))
   exact Nat.le_trans (toks_length s.length s 0) hl'
end
end Go.Proofs.YtihgojcfpnhelabGreatDoor
