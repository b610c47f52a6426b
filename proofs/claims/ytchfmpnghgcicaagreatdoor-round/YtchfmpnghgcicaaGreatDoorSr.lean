import Derived.Test.YtchfmpnghgcicaaGreatDoorSq
set_option linter.unusedVariables false
set_option linter.unusedSimpArgs false
namespace Go.Proofs.YtchfmpnghgcicaaGreatDoor
open Go.RowKit

/-- A line that sets a field is read. -/
theorem readSet (nm : UInt8) (h : isL nm = true) (rest : By) (rts : List (By × Nat)) (p : Pt) (hl : rest.length ≤ 112) (ht : toks (rest.length + 2) rest 8 = (rts, none)) (hD : Der rts 1 0 rts.length p) (ho : opn p ≤ 6) (hx : (txt p).length ≤ 100) (w : World) (hE : Env w) (hEL : EnvL w) :
    Calls Tryz.prog 45 #[.string ⟨(setL nm rest).toArray⟩] w fun e w' => ∃ (gn cn : Nat) (ar : Option Addr) (lr cr : Nat), e = .returned (.tuple #[.agg #[.int .i64 1, .slice (some ⟨gn, 0, none⟩) 1 cn, .int .i64 (p.k : Int), .string ⟨p.nm.toArray⟩, .int .i64 (p.n : Int), .slice ar lr cr], .int .i64 0, .int .i64 0]) ∧ w'.cell? ⟨gn, 0, none⟩ = some (.string ⟨([nm] : By).toArray⟩) ∧ gn < w'.heap.size ∧ PIs w' (fun q => w.heap.size ≤ q ∧ q < w'.heap.size) p ar lr cr ∧ Below w.heap.size w w' := by
  refine (linesRead (setL nm rest) w hE hEL).mono ?_
  rintro e w' ⟨r, hr, hret, hb⟩
  rw [line_set nm h rest rts p hl ht hD ho hx r hr] at hret
  obtain ⟨an, ln, cn, a, l, c, rfl, hown, hp⟩ := hret
  obtain ⟨g, cap, hv, hg, hgl⟩ := hown.form (by simp)
  simp at hv
  obtain ⟨rfl, rfl, rfl⟩ := hv
  refine ⟨g, cn, a, l, c, rfl, ?_, hgl, hp, hb⟩
  have := hown.cellAt 0 (by simp)
  simpa [strs] using this

/-- A line that asks for a value is read. -/
theorem readValue (nm : UInt8) (h : isL nm = true) (w : World) (hE : Env w) (hEL : EnvL w) :
    Calls Tryz.prog 45 #[.string ⟨([118, 97, 108, 117, 101, 32, nm] : By).toArray⟩] w fun e w' => ∃ (gn cn : Nat), e = .returned (.tuple #[.agg #[.int .i64 9, .slice (some ⟨gn, 0, none⟩) 1 cn, .int .i64 0, .string ⟨#[]⟩, .int .i64 0, .slice none 0 0], .int .i64 0, .int .i64 0]) ∧ w'.cell? ⟨gn, 0, none⟩ = some (.string ⟨([nm] : By).toArray⟩) ∧ gn < w'.heap.size ∧ Below w.heap.size w w' := by
  refine (linesRead [118, 97, 108, 117, 101, 32, nm] w hE hEL).mono ?_
  rintro e w' ⟨r, hr, hret, hb⟩
  rw [line_value nm h r hr] at hret
  obtain ⟨an, ln, cn, rfl, hown⟩ := hret
  obtain ⟨g, cap, hv, hg, hgl⟩ := hown.form (by simp)
  simp at hv
  obtain ⟨rfl, rfl, rfl⟩ := hv
  refine ⟨g, cn, rfl, ?_, hgl, hb⟩
  have := hown.cellAt 0 (by simp)
  simpa [strs] using this

set_option maxRecDepth 100000 in
set_option maxHeartbeats 4000000 in
theorem tellValue (e gn cn : Nat) (x : By) (k n : Int) (w : World) (hc : w.cell? ⟨gn, 0, none⟩ = some (.string ⟨x.toArray⟩)) (hg : gn < w.heap.size)
    (hS : ∀ W, Below w.heap.size w W → Calls Tryz.prog 68 #[.pointer (some ⟨e, 0, none⟩), .string ⟨x.toArray⟩] W fun r w' => r = .returned (.tuple #[.agg #[.int .i64 k, .int .i64 n], .int .i64 0]) ∧ Below W.heap.size W w') :
    Calls Tryz.prog 49 #[.pointer (some ⟨e, 0, none⟩), .agg #[.int .i64 9, .slice (some ⟨gn, 0, none⟩) 1 cn, .int .i64 0, .string ⟨#[]⟩, .int .i64 0, .slice none 0 0]] w fun r w' => r = .returned (.agg #[.int .i64 0, .int .i64 0, .string ⟨#[]⟩, .slice none 0 0, .int .i64 k, .int .i64 n]) ∧ Below w.heap.size w w' := by
  have HS := toHid hS
  have hg1 : gn < w.heap.size + 1 := by omega
  have hg2 : gn < w.heap.size + 1 + 1 := by omega
  clear hS
  go_enter Tryz.func49, Tryz.ntmps49
  have HS2 := toHid (HS.out (((w.alloc (.cells #[.int .i64 9, .slice (some ⟨gn, 0, none⟩) 1 cn, .int .i64 0, .string ⟨#[]⟩, .int .i64 0, .slice none 0 0] 96)).alloc (.cells #[.int .i64 0, .int .i64 0, .string ⟨#[]⟩, .slice none 0 0, .int .i64 0, .int .i64 0] 39)).alloc (.cells #[.int .i64 0, .int .i64 0] 154)).drew (below3 _ _ _ _).drew)
  have HR := toHid (show ∀ w3, Below (((w.alloc (.cells #[.int .i64 9, .slice (some ⟨gn, 0, none⟩) 1 cn, .int .i64 0, .string ⟨#[]⟩, .int .i64 0, .slice none 0 0] 96)).alloc (.cells #[.int .i64 0, .int .i64 0, .string ⟨#[]⟩, .slice none 0 0, .int .i64 0, .int .i64 0] 39)).alloc (.cells #[.int .i64 0, .int .i64 0] 154)).drew.heap.size (((w.alloc (.cells #[.int .i64 9, .slice (some ⟨gn, 0, none⟩) 1 cn, .int .i64 0, .string ⟨#[]⟩, .int .i64 0, .slice none 0 0] 96)).alloc (.cells #[.int .i64 0, .int .i64 0, .string ⟨#[]⟩, .slice none 0 0, .int .i64 0, .int .i64 0] 39)).alloc (.cells #[.int .i64 0, .int .i64 0] 154)).drew w3 → w3.heap[w.heap.size + 1]? = some (.cells #[.int .i64 0, .int .i64 0, .string ⟨#[]⟩, .slice none 0 0, .int .i64 0, .int .i64 0] 39 (0, 0)) ∧ w3.heap[w.heap.size + 1 + 1]? = some (.cells #[.int .i64 0, .int .i64 0] 154 (0, 0)) ∧ Below w.heap.size w w3 from fun w3 hb => by
    refine ⟨(hb.block _ (by simp)).trans ?_, (hb.block _ (by simp)).trans ?_, (below3 _ _ _ _).drew.trans (hb.mono (by simp; omega))⟩
    · show (((w.alloc (.cells #[.int .i64 9, .slice (some ⟨gn, 0, none⟩) 1 cn, .int .i64 0, .string ⟨#[]⟩, .int .i64 0, .slice none 0 0] 96)).alloc (.cells #[.int .i64 0, .int .i64 0, .string ⟨#[]⟩, .slice none 0 0, .int .i64 0, .int .i64 0] 39)).alloc (.cells #[.int .i64 0, .int .i64 0] 154)).heap[w.heap.size + 1]? = _
      rw [Below.heap_alloc _ _ _ (by simp)]
      exact alloc2_new' w _ _ _
    · exact alloc3_new w _ _ _ _)
  clear HS
  go_wp2_with fail
  go_region_with (first | (go_at_call 68; refine HS2.out.mono ?_; rintro r w3 ⟨rfl, hb3⟩; obtain ⟨hr1, hr2, hbb⟩ := HR.out _ hb3; obtain ⟨⟨k0, k1, k2, k3, k4, k5⟩, ⟨f0, f1, f2, f3, f4, f5⟩, hsz⟩ := row6 hr1; obtain ⟨⟨l0, l1⟩, ⟨g0, g1⟩, hsz2⟩ := row2 hr2; have C1 := toHid hbb; have C2 := toHid hr1; have C3 := toHid hr2; clear hb3 hr1 hr2 hbb))
  have HB4 := toHid (((C1.out.setCell (p := ⟨w.heap.size + 1 + 1, 0, none⟩) (by show w.heap.size ≤ w.heap.size + 1 + 1; omega) (.int .i64 k)).setCell (p := ⟨w.heap.size + 1 + 1, 1, none⟩) (by show w.heap.size ≤ w.heap.size + 1 + 1; omega) (.int .i64 n)).setCell (p := ⟨w.heap.size + 1, 0, none⟩) (by show w.heap.size ≤ w.heap.size + 1; omega) (.int .i64 0))
  have hr1 : (((w3.setCell ⟨w.heap.size + 1 + 1, 0, none⟩ (.int .i64 k)).setCell ⟨w.heap.size + 1 + 1, 1, none⟩ (.int .i64 n)).setCell ⟨w.heap.size + 1, 0, none⟩ (.int .i64 0)).heap[w.heap.size + 1]? = some (.cells #[.int .i64 0, .int .i64 0, .string ⟨#[]⟩, .slice none 0 0, .int .i64 0, .int .i64 0] 39 (0, 0)) := by
    rw [setCell_block ((Below.heap_setCell _ _ _ _ (by show w.heap.size + 1 ≠ w.heap.size + 1 + 1; omega)).trans ((Below.heap_setCell _ _ _ _ (by show w.heap.size + 1 ≠ w.heap.size + 1 + 1; omega)).trans C2.out))]
    rfl
  have hr2 : (((w3.setCell ⟨w.heap.size + 1 + 1, 0, none⟩ (.int .i64 k)).setCell ⟨w.heap.size + 1 + 1, 1, none⟩ (.int .i64 n)).setCell ⟨w.heap.size + 1, 0, none⟩ (.int .i64 0)).heap[w.heap.size + 1 + 1]? = some (.cells #[.int .i64 k, .int .i64 n] 154 (0, 0)) := by
    rw [Below.heap_setCell _ _ _ _ (by show w.heap.size + 1 + 1 ≠ w.heap.size + 1; omega), setCell_block (setCell_block C3.out _ _)]
    rfl
  clear k0 k1 k2 k3 k4 k5 f0 f1 f2 f3 f4 f5 l0 l1 g0 g1 hsz hsz2
  generalize (((w3.setCell ⟨w.heap.size + 1 + 1, 0, none⟩ (.int .i64 k)).setCell ⟨w.heap.size + 1 + 1, 1, none⟩ (.int .i64 n)).setCell ⟨w.heap.size + 1, 0, none⟩ (.int .i64 0)) = W4 at *
  obtain ⟨⟨k0, k1, k2, k3, k4, k5⟩, ⟨f0, f1, f2, f3, f4, f5⟩, hsz⟩ := row6 hr1
  obtain ⟨⟨l0, l1⟩, ⟨g0, g1⟩, hsz2⟩ := row2 hr2
  have hne1 : w.heap.size + 1 ≠ w.heap.size + 1 + 1 := by omega
  have hne2 : w.heap.size + 1 + 1 ≠ w.heap.size + 1 := by omega
  have hF := setCell_block (setCell_block (setCell_block (setCell_block (setCell_block (setCell_block (setCell_block (setCell_block hr1 4 (.int .i64 k)) 5 (.int .i64 n)) 0 (.int .i64 0)) 1 (.int .i64 0)) 2 (.string ⟨#[]⟩)) 3 (.slice none 0 0)) 4 (.int .i64 k)) 5 (.int .i64 n)
  obtain ⟨⟨_, _, _, _, _, F5⟩, _, _⟩ := row6 (show _ = some (Obj.cells #[.int .i64 0, .int .i64 0, .string ⟨#[]⟩, .slice none 0 0, .int .i64 k, .int .i64 n] 39 (0, 0)) from hF)
  have HF5 := toHid F5
  clear hr1 hr2 C1 C2 C3 hF F5
  go_wp2_with fail
  go_region
  all_goals go_wp2
  all_goals have F5 := HF5.out
  all_goals refine bodyPost_ret (v := .agg #[.int .i64 0, .int .i64 0, .string ⟨#[]⟩, .slice none 0 0, .int .i64 k, .int .i64 n]) (by simp [results, Tryz.results49, go_sem, k0, k1, k2, k3, k4, k5, hsz, F5]) (by simp [go_sem]) ?_
  all_goals refine ⟨rfl, Below.drew ?_⟩
  all_goals iterate 8 refine Below.setCell ?_ (by show w.heap.size ≤ w.heap.size + 1; omega) _
  all_goals exact HB4.out

set_option maxRecDepth 100000 in
set_option maxHeartbeats 4000000 in
theorem doValue (e : Nat) (nm : UInt8) (hnm : isL nm = true) (k n : Int) (w : World) (hE : Env w) (hEL : EnvL w)
    (hS : ∀ W, Below w.heap.size w W → Calls Tryz.prog 68 #[.pointer (some ⟨e, 0, none⟩), .string ⟨([nm] : By).toArray⟩] W fun r w' => r = .returned (.tuple #[.agg #[.int .i64 k, .int .i64 n], .int .i64 0]) ∧ Below W.heap.size W w') :
    Calls Tryz.prog 19 #[.pointer (some ⟨e, 0, none⟩), .string ⟨([118, 97, 108, 117, 101, 32, nm] : By).toArray⟩] w fun r w' => r = .returned (.agg #[.int .i64 0, .int .i64 0, .string ⟨#[]⟩, .slice none 0 0, .int .i64 k, .int .i64 n]) ∧ Below w.heap.size w w' := by
  have hb0 : Below w.heap.size w (w.alloc (.cells #[.int .i64 0, .int .i64 0, .string ⟨#[]⟩, .slice none 0 0, .int .i64 0, .int .i64 0] 39)) := (Below.refl _ _).alloc (Nat.le_refl _) _
  have HRD := toHid (readValue nm hnm _ (hE.next hb0) (hEL.next hE hb0))
  have HT := toHid (show ∀ (gn cn : Nat) W, Below w.heap.size w W → W.cell? ⟨gn, 0, none⟩ = some (.string ⟨([nm] : By).toArray⟩) → gn < W.heap.size → Calls Tryz.prog 49 #[.pointer (some ⟨e, 0, none⟩), .agg #[.int .i64 9, .slice (some ⟨gn, 0, none⟩) 1 cn, .int .i64 0, .string ⟨#[]⟩, .int .i64 0, .slice none 0 0]] W fun r w' => r = .returned (.agg #[.int .i64 0, .int .i64 0, .string ⟨#[]⟩, .slice none 0 0, .int .i64 k, .int .i64 n]) ∧ Below W.heap.size W w' from fun gn cn W hW hc hg => tellValue e gn cn [nm] k n W hc hg fun W' hW' => hS W' (hW.trans (hW'.mono hW.size)))
  have HB0 := toHid hb0
  clear hE hEL hS hb0
  go_enter Tryz.func19, Tryz.ntmps19
  go_wp2_with (first | (go_at_call 45; refine HRD.out.mono ?_; rintro r w1 ⟨gn, cn, rfl, hc1, hg1, hb1⟩; refine Hid.out ?_))
  have HB1 := toHid (HB0.out.trans (hb1.mono (by simp)))
  have HR1 := toHid ((hb1.block w.heap.size (by simp)).trans (heap_alloc_new w _))
  have HT2 := toHid (HT.out gn cn (w1.alloc (.cells #[.int .i64 9, .slice (some ⟨gn, 0, none⟩) 1 cn, .int .i64 0, .string ⟨#[]⟩, .int .i64 0, .slice none 0 0] 96)) (HB1.out.alloc HB1.out.size _) ((World.cell?_of_block (a := ⟨gn, 0, none⟩) (Below.heap_alloc w1 _ _ hg1)).trans hc1) (by simp; omega))
  have hsz1 := (Array.getElem?_eq_some_iff.1 HR1.out).1
  clear hb1 HRD HT
  refine toHid ?_
  go_wp2_with (first | (go_at_call 49; refine HT2.out.mono ?_; rintro r w2 ⟨rfl, hb2⟩; refine Hid.out ?_))
  have HB2 := toHid ((HB1.out.alloc HB1.out.size (.cells #[.int .i64 9, .slice (some ⟨gn, 0, none⟩) 1 cn, .int .i64 0, .string ⟨#[]⟩, .int .i64 0, .slice none 0 0] 96)).trans (hb2.mono (by simp; have := HB1.out.size; omega)))
  obtain ⟨⟨k0, k1, k2, k3, k4, k5⟩, ⟨f0, f1, f2, f3, f4, f5⟩, hsz⟩ := row6 ((hb2.block w.heap.size (by simp; omega)).trans ((Below.heap_alloc w1 _ _ hsz1).trans HR1.out))
  clear hb2 HT2
  refine toHid ?_
  go_wp2
  refine bodyPost_ret (v := .agg #[.int .i64 0, .int .i64 0, .string ⟨#[]⟩, .slice none 0 0, .int .i64 k, .int .i64 n]) (by simp [results, Tryz.results19, go_sem, k0, k1, k2, k3, k4, k5, hsz]) (by simp [go_sem]) ?_
  exact ⟨rfl, below6 HB2.out _ (Nat.le_refl _) _ _ _ _ _ _⟩

set_option maxRecDepth 100000 in
set_option maxHeartbeats 4000000 in
theorem doSet (e : Nat) (nm : UInt8) (hnm : isL nm = true) (rest : By) (rts : List (By × Nat)) (p : Pt) (hl : rest.length ≤ 112) (ht : toks (rest.length + 2) rest 8 = (rts, none)) (hD : Der rts 1 0 rts.length p) (ho : opn p ≤ 6) (hx : (txt p).length ≤ 100) (w : World) (hE : Env w) (hEL : EnvL w) (Q : World → Prop) (hQ : ∀ w1 j u, Q w1 → Q (w1.setCell ⟨w.heap.size, j, none⟩ u))
    (hEd : ∀ (gn cn : Nat) (ar : Option Addr) (lr cr : Nat) W1 W, Below w.heap.size w W1 → w.heap.size < W1.heap.size → Below W1.heap.size W1 W → W1.cell? ⟨gn, 0, none⟩ = some (.string ⟨([nm] : By).toArray⟩) → gn < W1.heap.size → PIs W1 (fun q => w.heap.size + 1 ≤ q ∧ q < W1.heap.size) p ar lr cr → Calls Tryz.prog 46 #[.pointer (some ⟨e, 0, none⟩), .agg #[.int .i64 1, .slice (some ⟨gn, 0, none⟩) 1 cn, .int .i64 (p.k : Int), .string ⟨p.nm.toArray⟩, .int .i64 (p.n : Int), .slice ar lr cr]] W fun r w' => ∃ (bn : Option Addr) (ln' cn' : Nat), r = .returned (.agg #[.int .i64 0, .int .i64 0, .string ⟨#[]⟩, .slice bn ln' cn', .int .i64 0, .int .i64 0]) ∧ w'.heap[w.heap.size]? = W.heap[w.heap.size]? ∧ Q w') :
    Calls Tryz.prog 19 #[.pointer (some ⟨e, 0, none⟩), .string ⟨(setL nm rest).toArray⟩] w fun r w' => (∃ (bn : Option Addr) (ln' cn' : Nat), r = .returned (.agg #[.int .i64 0, .int .i64 0, .string ⟨#[]⟩, .slice bn ln' cn', .int .i64 0, .int .i64 0])) ∧ Q w' := by
  have hb0 : Below w.heap.size w (w.alloc (.cells #[.int .i64 0, .int .i64 0, .string ⟨#[]⟩, .slice none 0 0, .int .i64 0, .int .i64 0] 39)) := (Below.refl _ _).alloc (Nat.le_refl _) _
  have HRD := toHid (readSet nm hnm rest rts p hl ht hD ho hx _ (hE.next hb0) (hEL.next hE hb0))
  have HEd := toHid hEd
  have HB0 := toHid hb0
  clear hE hEL hEd hb0 ht hD
  go_enter Tryz.func19, Tryz.ntmps19
  go_wp2_with (first | (go_at_call 45; refine HRD.out.mono ?_; rintro r w1 ⟨gn, cn, ar, lr, cr, rfl, hc1, hg1, hp1, hb1⟩; refine Hid.out ?_))
  have HB1 := toHid (HB0.out.trans (hb1.mono (by simp)))
  have hsz1 : w.heap.size < w1.heap.size := by have := hb1.size; simp at this; omega
  have HR1 := toHid ((hb1.block w.heap.size (by simp)).trans (heap_alloc_new w _))
  have HT2 := toHid (HEd.out gn cn ar lr cr w1 (w1.alloc (.cells #[.int .i64 1, .slice (some ⟨gn, 0, none⟩) 1 cn, .int .i64 (p.k : Int), .string ⟨p.nm.toArray⟩, .int .i64 (p.n : Int), .slice ar lr cr] 96)) HB1.out hsz1 ((Below.refl _ _).alloc (Nat.le_refl _) _) hc1 hg1 (hp1.wide fun q hq => ⟨by have := hq.1; simpa using this, hq.2⟩))
  clear hb1 HRD HEd hp1
  refine toHid ?_
  go_wp2_with (first | (go_at_call 46; refine HT2.out.mono ?_; rintro r w2 ⟨bn, ln', cn', rfl, hk2, hq2⟩; refine Hid.out ?_))
  obtain ⟨⟨k0, k1, k2, k3, k4, k5⟩, ⟨f0, f1, f2, f3, f4, f5⟩, hsz⟩ := row6 (hk2.trans ((Below.heap_alloc w1 _ _ hsz1).trans HR1.out))
  have HQ2 := toHid hq2
  clear hk2 hq2 HT2
  refine toHid ?_
  go_wp2
  refine bodyPost_ret (v := .agg #[.int .i64 0, .int .i64 0, .string ⟨#[]⟩, .slice bn ln' cn', .int .i64 0, .int .i64 0]) (by simp [results, Tryz.results19, go_sem, k0, k1, k2, k3, k4, k5, hsz]) (by simp [go_sem]) ?_
  exact ⟨⟨bn, ln', cn', rfl⟩, hQ _ _ _ (hQ _ _ _ (hQ _ _ _ (hQ _ _ _ (hQ _ _ _ (hQ _ _ _ HQ2.out)))))⟩
end Go.Proofs.YtchfmpnghgcicaaGreatDoor
