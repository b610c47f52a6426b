import Derived.Test.YtihgojcfpnhelabGreatDoorS2Bo
set_option maxRecDepth 100000
set_option maxHeartbeats 4000000
set_option linter.unusedVariables false
set_option linter.unusedSimpArgs false
namespace Go.Proofs.YtihgojcfpnhelabGreatDoor
open Go.RowKit
section
theorem setCells_row (g : Nat) (t : TypeId) : ∀ (vs : List Value) (o : Nat) (w : World) (cur : Array Value), w.heap[g]? = some (.cells cur t (0, 0)) → o + vs.length ≤ cur.size → ∃ cur', (w.setCells g o vs).heap[g]? = some (.cells cur' t (0, 0)) ∧ cur'.size = cur.size ∧ cur'.toList = cur.toList.take o ++ vs ++ cur.toList.drop (o + vs.length)
 | [], o, w, cur, h, hl => ⟨cur, h, rfl, by simp⟩
 | v :: r, o, w, cur, h, hl => by
  simp only [List.length_cons] at hl
  obtain ⟨cur', h1, h2, h3⟩ := setCells_row g t r (o + 1) (w.setCell ⟨g, o, none⟩ v) (cur.setIfInBounds o v) (setCell_block h o v) (by simp; omega)
  refine ⟨cur', h1, by simpa using h2, ?_⟩
  rw [h3]
  have ho : o < cur.toList.length := by simp; omega
  have hset : (cur.setIfInBounds o v).toList = cur.toList.take o ++ v :: cur.toList.drop (o + 1) := by
   rw [Array.toList_setIfInBounds, List.set_eq_take_append_cons_drop, if_pos ho]
  have hto : (cur.toList.take o).length = o := by simp at ho ⊢; omega
  have e1 : (cur.setIfInBounds o v).toList.take (o + 1) = cur.toList.take o ++ [v] := by
   rw [hset, List.take_append, hto, List.take_of_length_le (by omega)]
   simp
  have e2 : (cur.setIfInBounds o v).toList.drop (o + 1 + r.length) = cur.toList.drop (o + (v :: r).length) := by
   rw [hset, List.drop_append, hto, List.drop_of_length_le (by omega), List.nil_append, show o + 1 + r.length - o = r.length + 1 by omega, List.drop_succ_cons, List.drop_drop]
   congr 1
   simp
   omega
  rw [e1, e2]
  simp
theorem setCells_ks (g : Nat) : ∀ (vs : List Value) (o : Nat) (w : World), Ks (fun q => q = g) w (w.setCells g o vs) ∧ (w.setCells g o vs).heap.size = w.heap.size
 | [], o, w => ⟨Ks.refl _ _, rfl⟩
 | v :: r, o, w => by
  obtain ⟨h1, h2⟩ := setCells_ks g r (o + 1) (w.setCell ⟨g, o, none⟩ v)
  exact ⟨((Ks.refl (fun q => q = g) w).set g o v rfl).trans h1, by show ((w.setCell ⟨g, o, none⟩ v).setCells g (o + 1) r).heap.size = _; rw [h2]; simp⟩
theorem setCells_drew (g : Nat) : ∀ (vs : List Value) (o : Nat) (w : World), w.drew.setCells g o vs = (w.setCells g o vs).drew
 | [], _, _ => rfl
 | v :: r, o, w => setCells_drew g r (o + 1) (w.setCell ⟨g, o, none⟩ v)
theorem deleteAt (B g cap i m : Nat) (xs : List Value) (w : World) (ho : w.ownsRow B 84 1 (.slice (some ⟨g, 0, none⟩) (m + 1) cap) (m + 1) xs) (hi : i ≤ m) (hm : m ≤ 1000) (hx : ∀ v, v ∈ xs → v.oneCell' = true) :
  Calls Tryz.prog 57 #[.slice (some ⟨g, 0, none⟩) (m + 1) cap, .int .i64 (i : Int), .int .i64 ((i : Int) + 1)] w fun r w' => r = .returned (.slice (some ⟨g, 0, none⟩) m cap) ∧ Ks (fun q => q = g) w w' ∧ w'.ownsRow B 84 1 (.slice (some ⟨g, 0, none⟩) m cap) m (xs.eraseIdx i) := by
 obtain ⟨i1, gi, gz0, gz1, gz2⟩ := info_parts infoBack
 obtain ⟨hxl, hov⟩ := ho
 rcases hov with ⟨h1, _⟩ | ⟨g', cap', cur, h1, hB, hcur, hmc, hcm, hcs, htk⟩
 ·cases h1
 cases h1
 simp only [Nat.mul_one] at hxl hcs htk
 have hcell : ∀ j, j < m + 1 → w.cell? ⟨g, j, none⟩ = xs[j]? := fun j hj => by
  rw [cell_of_row w g j _ _ _ hcur, ← htk]
  simp [hj]
 have hfz : ∀ j, w.frozen? ⟨g, j, none⟩ = false := fun j => fz_of_row hcur j
 have hsome : ∀ j, j < m + 1 → (w.cell? ⟨g, j, none⟩).isSome = true := fun j hj => by
  rw [hcell j hj]
  simp [hxl, hj]
 have hw1 : ∃ cur1, (w.setCells g i (xs.drop (i + 1))).heap[g]? = some (.cells cur1 84 (0, 0)) ∧ cur1.size = cap ∧ cur1.toList.take m = xs.eraseIdx i ∧ ∃ u, cur1.toList[m]? = some u := by
  obtain ⟨cur1, k1, k2, k3⟩ := setCells_row g 84 (xs.drop (i + 1)) i w cur hcur (by simp [hxl]; omega)
  refine ⟨cur1, k1, by omega, ?_, ?_⟩
  ·rw [k3, List.eraseIdx_eq_take_drop_succ]
   have e1 : cur.toList.take i = xs.take i := by rw [← htk, List.take_take, show min i (m + 1) = i by omega]
   rw [e1, List.take_append_of_le_length (by simp [hxl]; omega)]
   exact List.take_of_length_le (by simp [hxl]; omega)
  ·have : m < cur1.toList.length := by simp; omega
   exact ⟨cur1.toList[m], List.getElem?_eq_getElem this⟩
 have hclr : ∀ (W : World) (c : Nat), W.heap = (w.setCells g i (xs.drop (i + 1))).heap → (Builtin.clear_ #[61] 0 #[.slice (some ⟨g, m, none⟩) 1 c]).run Tryz.prog W = .ok (.tuple #[]) (W.setCells g m [.nilFunc]) := fun W c hW => by
  obtain ⟨cur1, k1, k2, _, u, k4⟩ := hw1
  have k1' : W.heap[g]? = some (.cells cur1 84 (0, 0)) := by rw [hW]; exact k1
  have := Lib.run_clear_slice (P := Tryz.prog) W 61 84 0 .nilFunc Tryz.underlying61 (fun W => by simp [zeroValue, typeInfo, gi, gz0]) rfl rfl g m 1 c (by omega) (fun j hj => by
   obtain rfl : j = 0 := by omega
   rw [Nat.add_zero, cell_of_row W g m _ _ _ k1']
   rw [show cur1[m]? = cur1.toList[m]? by simp, k4]
   rfl) (fun j hj => fz_of_row k1' _)
  exact this
 have HFIN := tZ (show ∀ W : World, W.os = w.os → W.tape = w.tape → W.output = w.output → W.heap = (w.setCells g i (xs.drop (i + 1))).heap → Ks (fun q => q = g) w (W.setCells g m [.nilFunc]) ∧ (W.setCells g m [.nilFunc]).ownsRow B 84 1 (.slice (some ⟨g, 0, none⟩) m cap) m (xs.eraseIdx i) from fun W h1 h2 h3 h4 => by
  obtain ⟨cur1, k1, k2, k3, _⟩ := hw1
  have k1' : W.heap[g]? = some (.cells cur1 84 (0, 0)) := by rw [h4]; exact k1
  obtain ⟨a1, a2⟩ := setCells_ks g (xs.drop (i + 1)) i w
  have hkW : Ks (fun q => q = g) w W := ⟨h1, h2, h3, by rw [h4, a2]; exact Nat.le_refl _, fun k hk hn => by rw [h4]; exact a1.block k hk hn⟩
  obtain ⟨b1, b2⟩ := setCells_ks g [.nilFunc] m W
  refine ⟨hkW.trans b1, by simp [List.length_eraseIdx, hxl]; omega, Or.inr ?_⟩
  obtain ⟨cur2, c1, c2, c3⟩ := setCells_row g 84 [.nilFunc] m W cur1 k1' (by simp; omega)
  refine ⟨g, cap, cur2, rfl, hB, c1, by omega, hcm, by omega, ?_⟩
  rw [Nat.mul_one, c3, List.append_assoc, List.take_append_of_le_length (by simp; omega), List.take_take, Nat.min_self]
  exact k3)
 have q1 : (i : Int) ≤ (i : Int) + 1 := by omega
 have q2 : (i : Int) + 1 ≤ (m : Int) + 1 := by omega
 have q3 : (m : Int) + 1 ≤ (cap : Int) := by omega
 have q4 : (i : Int) ≤ (cap : Int) := by omega
 have q5 : (i : Int) + 1 ≤ (cap : Int) := by omega
 have q6 : ((i : Int) == (i : Int) + 1) = false := beq_eq_false_iff_ne.2 (by omega)
 have q7 : (i : Int) ≤ (m : Int) + 1 := by omega
 have q8 : (0 : Int) ≤ (i : Int) + 1 := by omega
 have q9 : (0 : Int) ≤ (m : Int) + 1 := by omega
 have q10 : (m : Int) ≤ (m : Int) + 1 := by omega
 have q11 : (m : Int) ≤ (cap : Int) := by omega
 have q12 : ¬ cap = m := by omega
 have HCE := tZ hcell
 have HSO := tZ hsome
 have HFZ := tZ hfz
 have HXL := tZ hxl
 have HX := tZ hx
 clear hcur hcell hsome hfz htk hcs hxl hw1 hx
 go_enter Tryz.func57, Tryz.ntmps57
 go_wp2_with fail
 have hdl : (xs.drop (i + 1)).length = m + 1 - (i + 1) := by simp [HXL.out]
 have HDL := tZ hdl
 clear hdl
 have hwr : IntKind.i64.wrap ((m : Int)) = (m : Int) := by rw [IntKind.wrap_i64]; omega
 by_cases hc0 : cap = i + 1
 ·obtain rfl : i = m := by omega
  subst hc0
  go_region_law (refine step_append_room (by rfl) (.tmp 22) (.tmp 25) 61 (by rfl) 84 i1 1 Tryz.underlying61 gi gz1 g 0 i (i + 1) (by rfl) ⟨g, 0, none⟩ 0 0 [] (by rfl) rfl (fun j u h => by simp at h) (fun u h => by simp at h) (by omega) (fun j h => by simp at h) ?_)
  all_goals go_wp2_with fail
  all_goals have hW1 : (w.drew.setCells g i []).heap = (w.setCells g i (xs.drop (i + 1))).heap := by rw [setCells_drew, List.drop_of_length_le (by rw [HXL.out]; exact Nat.le_refl _)]; rfl
  all_goals have hc1 := hclr _ 1 hW1
  all_goals have hkk := (setCells_ks g [] i w.drew).1
  all_goals obtain ⟨f1, f2⟩ := HFIN.out _ hkk.os hkk.tape hkk.output hW1
  all_goals have F1 := tZ f1
  all_goals have F2 := tZ f2
  all_goals clear hW1 hkk f1 f2 hclr HFIN
  all_goals rw [hc1]
  all_goals go_wp2
  all_goals refine bodyPost_ret (v := .slice (some ⟨g, 0, none⟩) i (i + 1)) (by simp [results, Tryz.results57, go_sem]) (by simp [go_sem]) ?_
  all_goals exact ⟨rfl, F1.out, F2.out⟩
 ·have y1 : ¬ cap = i + 1 := hc0
  have HNEWS := tZ (show ∀ j u, (xs.drop (i + 1))[j]? = some u → w.drew.cell? ((⟨g, i + 1, none⟩ : Addr).add j) = some u from fun j u h => by
   rw [List.getElem?_drop] at h
   have hj : i + 1 + j < m + 1 := by
    have := (List.getElem?_eq_some_iff.1 h).1
    have := HXL.out
    omega
   have h3 := HCE.out (i + 1 + j) hj
   rw [h] at h3
   have hadd : (⟨g, i + 1, none⟩ : Addr).add j = ⟨g, i + 1 + j, none⟩ := by unfold Addr.add; split <;> simp_all
   rw [hadd]
   exact h3)
  go_region_law (refine step_append_room (by rfl) (.tmp 22) (.tmp 25) 61 (by rfl) 84 i1 1 Tryz.underlying61 gi gz1 g 0 i cap (by rfl) ⟨g, i + 1, none⟩ (m - i) (cap - (i + 1)) (xs.drop (i + 1)) (by rfl) (by rw [HDL.out]; omega) HNEWS.out (fun u h => HX.out u (List.mem_of_mem_drop h)) (by omega) (fun j h => by rw [HDL.out] at h; simp only [Nat.mul_one, Nat.zero_add]; exact ⟨HSO.out (i + j) (by omega), HFZ.out _⟩) ?_)
  all_goals go_wp2_with fail
  all_goals have hW1 : (w.drew.setCells g i (xs.drop (i + 1))).heap = (w.setCells g i (xs.drop (i + 1))).heap := by rw [setCells_drew]; rfl
  all_goals have hc1 := hclr _ (cap - m) hW1
  all_goals have hkk := (setCells_ks g (xs.drop (i + 1)) i w.drew).1
  all_goals obtain ⟨f1, f2⟩ := HFIN.out _ hkk.os hkk.tape hkk.output hW1
  all_goals have F1 := tZ f1
  all_goals have F2 := tZ f2
  all_goals clear hW1 hkk f1 f2 hclr HFIN
  all_goals rw [hc1]
  all_goals go_wp2
  all_goals refine bodyPost_ret (v := .slice (some ⟨g, 0, none⟩) m cap) (by simp [results, Tryz.results57, go_sem]) (by simp [go_sem]) ?_
  all_goals exact ⟨rfl, F1.out, F2.out⟩
end
section
structure RowB (w : World) (S : Nat → Prop) (e : Nat) (D : Nat → Prop) (v : Value) (bs : List (List Wr)) (N : Nat → Nat) (cs : Nat → Array Value) : Prop where
 own : w.ownsRow 0 84 1 v bs.length ((List.range bs.length).map fun j => fnV (N j) (cs j))
 bk : ∀ j, j < bs.length → BkAt e D w S (N j) (cs j) (bs.getD j [])
 ob : ∀ q, v.ownBlock = some q → ¬ S q ∧ q ≠ e ∧ ¬ D q
variable {S S' S1 O : Nat → Prop} {e : Nat} {D D' : Nat → Prop} {σ σ0 σ1 : Sta} {v1 v2 v3 v4 v5 v v' : Value} {te : TypeId} {w w' W w1 w2 w3 : World} {bs : List (List Wr)} {N : Nat → Nat} {cs : Nat → Array Value}
theorem RowB.nil (w : World) (S : Nat → Prop) (e : Nat) (D : Nat → Prop) : RowB w S e D (.slice none 0 0) [] (fun _ => 0) (fun _ => #[]) :=
 ⟨World.ownsRow_nil _ _ _ _, fun j hj => by simp at hj, fun q hq => by simp [Value.ownBlock] at hq⟩
theorem RowB.keep {P : Nat → Prop} (h : RowB w S e D v bs N cs) (hk : Ks P w w') (hS : ∀ q, S q → w'.heap[q]? = w.heap[q]?) (hP : ∀ q, v.ownBlock = some q → ¬ P q) : RowB w' S e D v bs N cs :=
 ⟨own_ke h.own hk hP, fun j hj => (h.bk j hj).next hS, h.ob⟩
theorem RowB.wide (h : RowB w S e D v bs N cs) (hS : ∀ q, S q → S' q) (hD : ∀ q, D q → D' q) (ho : ∀ q, v.ownBlock = some q → ¬ S' q ∧ ¬ D' q) : RowB w S' e D' v bs N cs :=
 ⟨h.own, fun j hj => (h.bk j hj).wide hS hD, fun q hq => ⟨(ho q hq).1, (h.ob q hq).2.1, (ho q hq).2⟩⟩
theorem RowB.lt (h : RowB w S e D v bs N cs) : ∀ q, v.ownBlock = some q → q < w.heap.size := fun q hq => (h.own.lt q hq).2
theorem RowB.snoc (h : RowB w1 S e D v bs N cs) {us : List Wr} {N1 : Nat} {cs1 : Array Value} (hbk : BkAt e D w1 S N1 cs1 us) (hS : ∀ q, S q → q < w1.heap.size) (he : e < w1.heap.size) (hD : ∀ q, D q → q < w1.heap.size) {o : Obj} (hg : (w1.alloc o).grownBy w2 v.ownBlock) (ho : w2.ownsRow 0 84 1 v' (bs.length + 1) (((List.range bs.length).map fun j => fnV (N j) (cs j)) ++ [fnV N1 cs1])) (hv : v.ownBlock = v'.ownBlock ∨ ∃ g, v'.ownBlock = some g ∧ w1.heap.size ≤ g) :
  RowB w2 S e D v' (bs ++ [us]) (fun j => if j = bs.length then N1 else N j) (fun j => if j = bs.length then cs1 else cs j) := by
 have blkS : ∀ q, S q → w2.heap[q]? = w1.heap[q]? := fun q hq => by
  rw [hg.block q (by have := hS q hq; simp; omega) (fun e' => (h.ob q e'.symm).1 hq), Below.heap_alloc _ _ _ (hS q hq)]
 refine ⟨?_, fun j hj => ?_, fun q hq => ?_⟩
 ·have : ((List.range (bs ++ [us]).length).map fun j => fnV (if j = bs.length then N1 else N j) (if j = bs.length then cs1 else cs j)) = ((List.range bs.length).map fun j => fnV (N j) (cs j)) ++ [fnV N1 cs1] := by
   rw [List.length_append, List.length_singleton, List.range_succ, List.map_append]
   congr 1
   ·refine List.map_congr_left fun j hj => ?_
    have : j ≠ bs.length := by have := List.mem_range.1 hj; omega
    simp [this]
   ·simp
  rw [this, List.length_append, List.length_singleton]
  exact ho
 ·by_cases e' : j = bs.length
  ·subst e'
   simp only [if_true]
   rw [List.getD_eq_getElem?_getD, List.getElem?_append_right (Nat.le_refl _)]
   simp only [Nat.sub_self, List.getElem?_cons_zero, Option.getD_some]
   exact hbk.next blkS
  ·have hj' : j < bs.length := by simp at hj; omega
   simp only [e', if_false]
   rw [List.getD_eq_getElem?_getD, List.getElem?_append_left hj', ← List.getD_eq_getElem?_getD]
   exact (h.bk j hj').next blkS
 ·rcases hv with h1 | ⟨g, h1, h2⟩
  ·rw [← h1] at hq
   exact h.ob q hq
  ·rw [h1] at hq
   cases hq
   refine ⟨fun h3 => ?_, fun h3 => ?_, fun h3 => ?_⟩
   ·have := hS _ h3; omega
   ·omega
   ·have := hD _ h3; omega
theorem RowB.erase (h : RowB w1 S e D v bs N cs) {i : Nat} (hi : i < bs.length) (hS : ∀ q, S q → w2.heap[q]? = w1.heap[q]?) (ho : w2.ownsRow 0 84 1 v' (bs.length - 1) (((List.range bs.length).map fun j => fnV (N j) (cs j)).eraseIdx i)) (hv : v'.ownBlock = v.ownBlock) :
  RowB w2 S e D v' (bs.eraseIdx i) (fun j => if j < i then N j else N (j + 1)) (fun j => if j < i then cs j else cs (j + 1)) := by
 have hl : (bs.eraseIdx i).length = bs.length - 1 := by rw [List.length_eraseIdx, if_pos hi]
 refine ⟨?_, fun j hj => ?_, fun q hq => h.ob q (hv ▸ hq)⟩
 ·have : ((List.range (bs.eraseIdx i).length).map fun j => fnV (if j < i then N j else N (j + 1)) (if j < i then cs j else cs (j + 1))) = (((List.range bs.length).map fun j => fnV (N j) (cs j)).eraseIdx i) := by
   apply List.ext_getElem
   ·simp [List.length_eraseIdx, hi]
   ·intro k h1 h2
    rw [List.getElem_eraseIdx]
    simp only [List.getElem_map, List.getElem_range]
    split <;> simp_all
  rw [this, hl]
  exact ho
 ·rw [hl] at hj
  by_cases h1 : j < i
  ·simp only [h1, if_true]
   rw [List.getD_eq_getElem?_getD, List.getElem?_eraseIdx, if_pos h1, ← List.getD_eq_getElem?_getD]
   exact (h.bk j (by omega)).next hS
  ·simp only [h1, if_false]
   rw [List.getD_eq_getElem?_getD, List.getElem?_eraseIdx, if_neg h1, ← List.getD_eq_getElem?_getD]
   exact (h.bk (j + 1) (by omega)).next hS
end
end Go.Proofs.YtihgojcfpnhelabGreatDoor
