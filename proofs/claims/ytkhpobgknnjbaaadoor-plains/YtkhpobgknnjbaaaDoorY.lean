import Derived.Test.YtkhpobgknnjbaaaDoorXd
namespace Go.Proofs.YtkhpobgknnjbaaaDoor
open Go.RowKit

theorem Env.spellAt {w : World} (h : Env w) (k : Nat) (hk : k < 20) : w.cell? ⟨0, k, none⟩ = some (.string ⟨(spellOf (k : Int)).toArray⟩) := by
  obtain ⟨t, fr, hb⟩ := h.spell
  rw [cell_of_row w 0 k _ _ _ hb]
  have hl : k < spellW.length := hk
  simp [spellC, spellOf, List.getD_eq_getElem?_getD, hl]

theorem ptc_get (tk : List PT) (j : Nat) (h : j < tk.length) : (ptc tk)[j * 3]? = some (.int .i64 tk[j].1) ∧ (ptc tk)[j * 3 + 1]? = some (.int .i64 (tk[j].2.1 : Int)) ∧ (ptc tk)[j * 3 + 2]? = some (.string ⟨tk[j].2.2.toArray⟩) := by
  induction tk generalizing j with
  | nil => simp at h
  | cons t tk ih =>
    have hc : ptc (t :: tk) = .int .i64 t.1 :: .int .i64 (t.2.1 : Int) :: .string ⟨t.2.2.toArray⟩ :: ptc tk := by simp [ptc]
    rw [hc]
    cases j with
    | zero => simp
    | succ j =>
      have := ih j (by simpa using h)
      rw [show (j + 1) * 3 = j * 3 + 1 + 1 + 1 by omega]
      simpa using this

theorem pslice {w : World} {B : Nat} {v : Value} {tk : List PT} (h : w.ownsRow B 46 3 v tk.length (ptc tk)) :
    ∃ ao cap, v = .slice ao tk.length cap ∧ ∀ j (hj : j < tk.length), ∃ g, ao = some ⟨g, 0, none⟩ ∧ w.cell? ⟨g, j * 3, none⟩ = some (.int .i64 tk[j].1) ∧ w.cell? ⟨g, j * 3 + 1, none⟩ = some (.int .i64 (tk[j].2.1 : Int)) ∧ w.cell? ⟨g, j * 3 + 2, none⟩ = some (.string ⟨tk[j].2.2.toArray⟩) := by
  rcases h.2 with ⟨rfl, h0⟩ | ⟨g, cap, cur, rfl, hb, hgg, h1⟩
  · exact ⟨none, 0, by rw [h0], fun j hj => by omega⟩
  · refine ⟨some ⟨g, 0, none⟩, cap, rfl, fun j hj => ⟨g, rfl, ?_, ?_, ?_⟩⟩
    · rw [h.cellAt (j * 3) (by omega)]; exact (ptc_get tk j hj).1
    · rw [h.cellAt (j * 3 + 1) (by omega)]; exact (ptc_get tk j hj).2.1
    · rw [h.cellAt (j * 3 + 2) (by omega)]; exact (ptc_get tk j hj).2.2

theorem spell_take (tk : List PT) (k : Nat) (h : k < tk.length) : spellAll (tk.take (k + 1)) = spellAll (tk.take k) ++ spellOf tk[k].1 ++ tk[k].2.2 := by
  rw [List.take_succ_eq_append_getElem h, spellAll_snoc, List.append_assoc]

theorem spell_le (tk : List PT) (k : Nat) : (spellAll (tk.take k)).length ≤ (spellAll tk).length := by
  have h : spellAll (tk.take k ++ tk.drop k) = spellAll (tk.take k) ++ spellAll (tk.drop k) := List.flatMap_append
  rw [List.take_append_drop] at h
  rw [h, List.length_append]
  omega

set_option maxRecDepth 100000 in
set_option maxHeartbeats 4000000 in
theorem rulePlain9 (tk : List PT) (tv : Value) (B0 : Nat) (w : World) (hE : Env w) (hown : w.ownsRow B0 46 3 tv tk.length (ptc tk)) (hl : tk.length ≤ 1000) (hk : ∀ t, t ∈ tk → 0 ≤ t.1 ∧ t.1 < 20) (hs : (spellAll tk).length ≤ 1000000) :
    Calls Tryd.prog 9 #[.agg #[tv]] w fun e w' => e = .returned (.string ⟨(spellAll tk).toArray⟩) ∧ Below w.heap.size w w' := by
  obtain ⟨ao, cap, rfl, hcl⟩ := pslice hown
  have HC := toHid hcl
  have HE := toHid hE
  have HK := toHid hk
  have HF := toHid (show Lib.IsBuilderF 55 5 (w.heap.size + 1) (w.heap.size + 1) [] ((w.alloc (.cells #[.slice ao tk.length cap] 34)).alloc (.cells #[.pointer none, .slice none 0 0] 55)) by
    have := Lib.IsBuilderF.of (Lib.fresh_isBuilder 55 5 (w.alloc (.cells #[.slice ao tk.length cap] 34)))
    simpa using this)
  clear hcl hown hE hk
  go_enter Tryd.func9, Tryd.ntmps9
  go_wp2
  go_loopw [9] (fun i wr => ∃ k : Nat, k ≤ tk.length ∧ i = .int .i64 (k : Int) ∧ Hid (Lib.IsBuilderF 55 5 (w.heap.size + 1) (w.heap.size + 1) (Lib.byteCells (spellAll (tk.take k))) wr) ∧ Below w.heap.size w wr ∧ w.heap.size + 1 < wr.heap.size) (fun i _ => tk.length - (intOf i).toNat)
  case atStart => exact ⟨0, Nat.zero_le _, rfl, HF, ((Below.refl _ _).alloc (Nat.le_refl _) _).alloc (by simp) _, by simp⟩
  case round =>
    obtain ⟨k, hk, rfl, HBu, hb, hsz⟩ := hrel
    by_cases hlt : k < tk.length
    · obtain ⟨g, rfl, c0, c1, c2⟩ := HC.out k hlt
      have hgw := World.block_lt_of_cell? w _ c0
      have d0 := (hb.cell (p := ⟨g, k * 3, none⟩) hgw).trans c0
      have d1 := (hb.cell (p := ⟨g, k * 3 + 1, none⟩) hgw).trans c1
      have d2 := (hb.cell (p := ⟨g, k * 3 + 2, none⟩) hgw).trans c2
      obtain ⟨hk0, hk20⟩ := HK.out tk[k] (List.getElem_mem hlt)
      have HST := toHid (spell_take tk k hlt)
      have hl1 := spell_le tk (k + 1)
      have hl0 := spell_le tk k
      rw [HST.out] at hl1
      simp only [List.length_append] at hl1
      obtain ⟨kn, hkn⟩ := Int.eq_ofNat_of_zero_le hk0
      rw [hkn] at d0 HST hl1 hk20
      generalize tk[k].2.2 = x at *
      generalize tk[k].2.1 = p at *
      have hkn1 : (0 : Int) ≤ (kn : Int) := by omega
      have hkn2 : (kn : Int) < 20 := by omega
      have hE1 := (HE.out.next hb).spellAt kn (by omega)
      have hge : (0 : Nat) < wr.heap.size := by omega
      generalize spellOf (kn : Int) = y at *
      clear c0 c1 c2 hkn
      have HBu1 := toHid (HBu.out.alloc (.cells #[.int .i64 (kn : Int), .int .i64 (p : Int), .string ⟨x.toArray⟩] 46))
      have HLA := toHid (show (Lib.byteCells (spellAll (tk.take k))).length + (ByteArray.mk y.toArray).size ≤ 140737488355328 by
        show ((spellAll (tk.take k)).map _).length + y.length ≤ _
        rw [List.length_map]; omega)
      have HLB := toHid (show (Lib.byteCells (spellAll (tk.take k)) ++ Lib.strCells ⟨y.toArray⟩).length + (ByteArray.mk x.toArray).size ≤ 140737488355328 by
        rw [List.length_append]
        show ((spellAll (tk.take k)).map _).length + (y.map _).length + x.length ≤ _
        rw [List.length_map, List.length_map]; omega)
      have HCC := toHid (show Lib.byteCells (spellAll (tk.take k)) ++ Lib.strCells ⟨y.toArray⟩ ++ Lib.strCells ⟨x.toArray⟩ = Lib.byteCells (spellAll (tk.take (k + 1))) by
        rw [HST.out]
        show (spellAll (tk.take k)).map _ ++ y.map _ ++ x.map _ = (spellAll (tk.take k) ++ y ++ x).map _
        rw [List.map_append, List.map_append])
      clear hl0 hl1
      go_wp2_with (first | (go_at_call 15; refine (Tryd.Builder_WriteString_k (w.heap.size + 1) (w.heap.size + 1) _ ⟨y.toArray⟩ _ HBu1.out HLA.out (by simp; omega)).mono ?_; rintro e w1 ⟨rfl, hB1, hb1, hk1⟩; refine Hid.out ?_))
      have hblk : w1.heap[wr.heap.size]? = some (.cells #[.int .i64 (kn : Int), .int .i64 (p : Int), .string ⟨x.toArray⟩] 46 (0, 0)) :=
        hk1 wr.heap.size _ (heap_alloc_new wr _) (by simp; omega) (fun c fz h => by cases h)
      have e2 : w1.cell? ⟨wr.heap.size, 2, none⟩ = some (.string ⟨x.toArray⟩) := by rw [cell_of_row w1 _ 2 _ _ _ hblk]; rfl
      have HBa := toHid (show Below w.heap.size w w1 from (hb.alloc (by omega) _).trans (hb1.mono (by omega)))
      have hs1 : w.heap.size + 1 < w1.heap.size := by have := hb1.size; simp at this; omega
      have HB1 := toHid hB1
      clear hB1 hb1 hk1 hblk HBu1
      refine toHid ?_
      go_wp2_with (first | (go_at_call 15; refine (Tryd.Builder_WriteString_k (w.heap.size + 1) (w.heap.size + 1) _ ⟨x.toArray⟩ _ (Or.inr HB1.out) HLB.out (by omega)).mono ?_; rintro e w2 ⟨rfl, hB2, hb2, hk2⟩; refine Hid.out ?_))
      have HB2 := toHid (show Lib.IsBuilderF 55 5 (w.heap.size + 1) (w.heap.size + 1) (Lib.byteCells (spellAll (tk.take (k + 1)))) w2 by rw [← HCC.out]; exact Or.inr hB2)
      have HBb := HBa.out.trans (hb2.mono (by omega))
      have hs2 : w.heap.size + 1 < w2.heap.size := by have := hb2.size; omega
      clear hB2 hb2 hk2
      refine toHid ?_
      go_wp2
      go_roundw
      case rel => exact ⟨k + 1, by omega, by go_num, HB2, HBb, hs2⟩
      case measure => simp [intOf]; omega
    · obtain rfl : k = tk.length := by omega
      have HBu2 := toHid (show Lib.IsBuilderF 55 5 (w.heap.size + 1) (w.heap.size + 1) (Lib.byteCells (spellAll tk)) wr by have := HBu.out; rw [List.take_length] at this; exact this)
      go_wp2_with (first | (go_at_call 16; refine (Tryd.Builder_String_any_k (w.heap.size + 1) (w.heap.size + 1) (spellAll tk) _ HBu2.out (by omega)).mono ?_; rintro e w2 ⟨rfl, hB2, hb2⟩))
      go_ret
      exact ⟨rfl, hb.trans (hb2.1.mono (by omega))⟩
end Go.Proofs.YtkhpobgknnjbaaaDoor
