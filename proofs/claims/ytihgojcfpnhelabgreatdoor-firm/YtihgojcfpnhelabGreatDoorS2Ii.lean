import Derived.Test.YtihgojcfpnhelabGreatDoorS2Ih
set_option maxRecDepth 100000
set_option maxHeartbeats 4000000
set_option linter.unusedVariables false
set_option linter.unusedSimpArgs false
namespace Go.Proofs.YtihgojcfpnhelabGreatDoor
open Go.RowKit
section
theorem tellValueE (e gn cn : Nat) (x : By) (k n er : Int) (w : World) (hc : w.cell? ⟨gn, 0, none⟩ = some (.string ⟨x.toArray⟩)) (hg : gn < w.heap.size)
  (hS : ∀ W, Below w.heap.size w W → Calls Tryz.prog 40 #[.pointer (some ⟨e, 0, none⟩), .string ⟨x.toArray⟩] W fun r w' => r = .returned (.tuple #[.agg #[.int .i64 k, .int .i64 n], .int .i64 er]) ∧ Below W.heap.size W w') :
  Calls Tryz.prog 29 #[.pointer (some ⟨e, 0, none⟩), .agg #[.int .i64 9, .slice (some ⟨gn, 0, none⟩) 1 cn, .int .i64 0, .string ⟨#[]⟩, .int .i64 0, .slice none 0 0]] w fun r w' => r = .returned (.agg #[.int .i64 er, .int .i64 0, .string ⟨#[]⟩, .slice none 0 0, .int .i64 k, .int .i64 n]) ∧ Below w.heap.size w w' := by
 have HS := tZ hS
 have hg1 : gn < w.heap.size + 1 := by omega
 have hg2 : gn < w.heap.size + 1 + 1 := by omega
 clear hS
 go_enter Tryz.func29, Tryz.ntmps29
 have HS2 := tZ (HS.out (((w.alloc (.cells #[.int .i64 9, .slice (some ⟨gn, 0, none⟩) 1 cn, .int .i64 0, .string ⟨#[]⟩, .int .i64 0, .slice none 0 0] 53)).alloc (.cells #[.int .i64 0, .int .i64 0, .string ⟨#[]⟩, .slice none 0 0, .int .i64 0, .int .i64 0] 30)).alloc (.cells #[.int .i64 0, .int .i64 0] 96)).drew (below3 _ _ _ _).drew)
 have HR := tZ (show ∀ w3, Below (((w.alloc (.cells #[.int .i64 9, .slice (some ⟨gn, 0, none⟩) 1 cn, .int .i64 0, .string ⟨#[]⟩, .int .i64 0, .slice none 0 0] 53)).alloc (.cells #[.int .i64 0, .int .i64 0, .string ⟨#[]⟩, .slice none 0 0, .int .i64 0, .int .i64 0] 30)).alloc (.cells #[.int .i64 0, .int .i64 0] 96)).drew.heap.size (((w.alloc (.cells #[.int .i64 9, .slice (some ⟨gn, 0, none⟩) 1 cn, .int .i64 0, .string ⟨#[]⟩, .int .i64 0, .slice none 0 0] 53)).alloc (.cells #[.int .i64 0, .int .i64 0, .string ⟨#[]⟩, .slice none 0 0, .int .i64 0, .int .i64 0] 30)).alloc (.cells #[.int .i64 0, .int .i64 0] 96)).drew w3 → w3.heap[w.heap.size + 1]? = some (.cells #[.int .i64 0, .int .i64 0, .string ⟨#[]⟩, .slice none 0 0, .int .i64 0, .int .i64 0] 30 (0, 0)) ∧ w3.heap[w.heap.size + 1 + 1]? = some (.cells #[.int .i64 0, .int .i64 0] 96 (0, 0)) ∧ Below w.heap.size w w3 from fun w3 hb => by
  refine ⟨(hb.block _ (by simp)).trans ?_, (hb.block _ (by simp)).trans ?_, (below3 _ _ _ _).drew.trans (hb.mono (by simp; omega))⟩
  ·show (((w.alloc (.cells #[.int .i64 9, .slice (some ⟨gn, 0, none⟩) 1 cn, .int .i64 0, .string ⟨#[]⟩, .int .i64 0, .slice none 0 0] 53)).alloc (.cells #[.int .i64 0, .int .i64 0, .string ⟨#[]⟩, .slice none 0 0, .int .i64 0, .int .i64 0] 30)).alloc (.cells #[.int .i64 0, .int .i64 0] 96)).heap[w.heap.size + 1]? = _
   rw [Below.heap_alloc _ _ _ (by simp)]
   exact alloc2_new' w _ _ _
  ·exact alloc3_new w _ _ _ _)
 clear HS
 go_wp2_with fail
 go_region_with (first | (go_at_call 40; refine HS2.out.mono ?_; rintro r w3 ⟨rfl, hb3⟩; obtain ⟨hr1, hr2, hbb⟩ := HR.out _ hb3; obtain ⟨⟨k0, k1, k2, k3, k4, k5⟩, ⟨f0, f1, f2, f3, f4, f5⟩, hsz⟩ := row6 hr1; obtain ⟨⟨l0, l1⟩, ⟨g0, g1⟩, hsz2⟩ := row2 hr2; have C1 := tZ hbb; have C2 := tZ hr1; have C3 := tZ hr2; clear hb3 hr1 hr2 hbb))
 have HB4 := tZ (((C1.out.setCell (p := ⟨w.heap.size + 1 + 1, 0, none⟩) (by show w.heap.size ≤ w.heap.size + 1 + 1; omega) (.int .i64 k)).setCell (p := ⟨w.heap.size + 1 + 1, 1, none⟩) (by show w.heap.size ≤ w.heap.size + 1 + 1; omega) (.int .i64 n)).setCell (p := ⟨w.heap.size + 1, 0, none⟩) (by show w.heap.size ≤ w.heap.size + 1; omega) (.int .i64 er))
 have hr1 : (((w3.setCell ⟨w.heap.size + 1 + 1, 0, none⟩ (.int .i64 k)).setCell ⟨w.heap.size + 1 + 1, 1, none⟩ (.int .i64 n)).setCell ⟨w.heap.size + 1, 0, none⟩ (.int .i64 er)).heap[w.heap.size + 1]? = some (.cells #[.int .i64 er, .int .i64 0, .string ⟨#[]⟩, .slice none 0 0, .int .i64 0, .int .i64 0] 30 (0, 0)) := by
  rw [setCell_block ((Below.heap_setCell _ _ _ _ (by show w.heap.size + 1 ≠ w.heap.size + 1 + 1; omega)).trans ((Below.heap_setCell _ _ _ _ (by show w.heap.size + 1 ≠ w.heap.size + 1 + 1; omega)).trans C2.out))]
  rfl
 have hr2 : (((w3.setCell ⟨w.heap.size + 1 + 1, 0, none⟩ (.int .i64 k)).setCell ⟨w.heap.size + 1 + 1, 1, none⟩ (.int .i64 n)).setCell ⟨w.heap.size + 1, 0, none⟩ (.int .i64 er)).heap[w.heap.size + 1 + 1]? = some (.cells #[.int .i64 k, .int .i64 n] 96 (0, 0)) := by
  rw [Below.heap_setCell _ _ _ _ (by show w.heap.size + 1 + 1 ≠ w.heap.size + 1; omega), setCell_block (setCell_block C3.out _ _)]
  rfl
 clear k0 k1 k2 k3 k4 k5 f0 f1 f2 f3 f4 f5 l0 l1 g0 g1 hsz hsz2
 generalize (((w3.setCell ⟨w.heap.size + 1 + 1, 0, none⟩ (.int .i64 k)).setCell ⟨w.heap.size + 1 + 1, 1, none⟩ (.int .i64 n)).setCell ⟨w.heap.size + 1, 0, none⟩ (.int .i64 er)) = W4 at *
 obtain ⟨⟨k0, k1, k2, k3, k4, k5⟩, ⟨f0, f1, f2, f3, f4, f5⟩, hsz⟩ := row6 hr1
 obtain ⟨⟨l0, l1⟩, ⟨g0, g1⟩, hsz2⟩ := row2 hr2
 have hne1 : w.heap.size + 1 ≠ w.heap.size + 1 + 1 := by omega
 have hne2 : w.heap.size + 1 + 1 ≠ w.heap.size + 1 := by omega
 have hF := setCell_block (setCell_block (setCell_block (setCell_block (setCell_block (setCell_block (setCell_block (setCell_block hr1 4 (.int .i64 k)) 5 (.int .i64 n)) 0 (.int .i64 er)) 1 (.int .i64 0)) 2 (.string ⟨#[]⟩)) 3 (.slice none 0 0)) 4 (.int .i64 k)) 5 (.int .i64 n)
 obtain ⟨⟨_, _, _, _, _, F5⟩, _, _⟩ := row6 (show _ = some (Obj.cells #[.int .i64 er, .int .i64 0, .string ⟨#[]⟩, .slice none 0 0, .int .i64 k, .int .i64 n] 30 (0, 0)) from hF)
 have HF5 := tZ F5
 clear hr1 hr2 C1 C2 C3 hF F5
 go_wp2_with fail
 go_region
 all_goals go_wp2
 all_goals have F5 := HF5.out
 all_goals refine bodyPost_ret (v := .agg #[.int .i64 er, .int .i64 0, .string ⟨#[]⟩, .slice none 0 0, .int .i64 k, .int .i64 n]) (by simp [results, Tryz.results29, go_sem, k0, k1, k2, k3, k4, k5, hsz, F5]) (by simp [go_sem]) ?_
 all_goals refine ⟨rfl, Below.drew ?_⟩
 all_goals iterate 8 refine Below.setCell ?_ (by show w.heap.size ≤ w.heap.size + 1; omega) _
 all_goals exact HB4.out
theorem tellRuleE (e gn cn : Nat) (x tx : By) (er : Int) (w : World) (hc : w.cell? ⟨gn, 0, none⟩ = some (.string ⟨x.toArray⟩)) (hg : gn < w.heap.size)
  (hS : ∀ W, Below w.heap.size w W → Calls Tryz.prog 41 #[.pointer (some ⟨e, 0, none⟩), .string ⟨x.toArray⟩] W fun r w' => r = .returned (.tuple #[.string ⟨tx.toArray⟩, .int .i64 er]) ∧ Below W.heap.size W w') :
  Calls Tryz.prog 29 #[.pointer (some ⟨e, 0, none⟩), .agg #[.int .i64 10, .slice (some ⟨gn, 0, none⟩) 1 cn, .int .i64 0, .string ⟨#[]⟩, .int .i64 0, .slice none 0 0]] w fun r w' => r = .returned (.agg #[.int .i64 er, .int .i64 0, .string ⟨tx.toArray⟩, .slice none 0 0, .int .i64 0, .int .i64 0]) ∧ Below w.heap.size w w' := by
 have HS := tZ hS
 have hg1 : gn < w.heap.size + 1 := by omega
 have hg2 : gn < w.heap.size + 1 + 1 := by omega
 clear hS
 go_enter Tryz.func29, Tryz.ntmps29
 have HS2 := tZ (HS.out ((w.alloc (.cells #[.int .i64 10, .slice (some ⟨gn, 0, none⟩) 1 cn, .int .i64 0, .string ⟨#[]⟩, .int .i64 0, .slice none 0 0] 53)).alloc (.cells #[.int .i64 0, .int .i64 0, .string ⟨#[]⟩, .slice none 0 0, .int .i64 0, .int .i64 0] 30)).drew (below2 _ _ _).drew)
 have HR := tZ (show ∀ w3, Below ((w.alloc (.cells #[.int .i64 10, .slice (some ⟨gn, 0, none⟩) 1 cn, .int .i64 0, .string ⟨#[]⟩, .int .i64 0, .slice none 0 0] 53)).alloc (.cells #[.int .i64 0, .int .i64 0, .string ⟨#[]⟩, .slice none 0 0, .int .i64 0, .int .i64 0] 30)).drew.heap.size ((w.alloc (.cells #[.int .i64 10, .slice (some ⟨gn, 0, none⟩) 1 cn, .int .i64 0, .string ⟨#[]⟩, .int .i64 0, .slice none 0 0] 53)).alloc (.cells #[.int .i64 0, .int .i64 0, .string ⟨#[]⟩, .slice none 0 0, .int .i64 0, .int .i64 0] 30)).drew w3 → w3.heap[w.heap.size + 1]? = some (.cells #[.int .i64 0, .int .i64 0, .string ⟨#[]⟩, .slice none 0 0, .int .i64 0, .int .i64 0] 30 (0, 0)) ∧ Below w.heap.size w w3 from fun w3 hb => ⟨(hb.block _ (by simp)).trans (alloc2_new' w _ _ _), (below2 _ _ _).drew.trans (hb.mono (by simp; omega))⟩)
 clear HS
 go_wp2_with fail
 go_region_with (first | (go_at_call 41; refine HS2.out.mono ?_; rintro r w3 ⟨rfl, hb3⟩; obtain ⟨hr1, hbb⟩ := HR.out _ hb3; obtain ⟨⟨k0, k1, k2, k3, k4, k5⟩, ⟨f0, f1, f2, f3, f4, f5⟩, hsz⟩ := row6 hr1; have C1 := tZ hbb; have C2 := tZ hr1; clear hb3 hr1 hbb))
 have hF := setCell_block (setCell_block (setCell_block (setCell_block (setCell_block (setCell_block (setCell_block (setCell_block C2.out 2 (.string ⟨tx.toArray⟩)) 0 (.int .i64 er)) 0 (.int .i64 er)) 1 (.int .i64 0)) 2 (.string ⟨tx.toArray⟩)) 3 (.slice none 0 0)) 4 (.int .i64 0)) 5 (.int .i64 0)
 obtain ⟨⟨F0, F1, F2, F3, F4, F5⟩, _, Fs⟩ := row6 (show _ = some (Obj.cells #[.int .i64 er, .int .i64 0, .string ⟨tx.toArray⟩, .slice none 0 0, .int .i64 0, .int .i64 0] 30 (0, 0)) from hF)
 have HF := tZ (And.intro F0 (And.intro F1 (And.intro F2 (And.intro F3 (And.intro F4 (And.intro F5 Fs))))))
 have HBF := tZ (show Below w.heap.size w ((((((((w3.setCell ⟨w.heap.size + 1, 2, none⟩ (.string ⟨tx.toArray⟩)).setCell ⟨w.heap.size + 1, 0, none⟩ (.int .i64 er)).setCell ⟨w.heap.size + 1, 0, none⟩ (.int .i64 er)).setCell ⟨w.heap.size + 1, 1, none⟩ (.int .i64 0)).setCell ⟨w.heap.size + 1, 2, none⟩ (.string ⟨tx.toArray⟩)).setCell ⟨w.heap.size + 1, 3, none⟩ (.slice none 0 0)).setCell ⟨w.heap.size + 1, 4, none⟩ (.int .i64 0)).setCell ⟨w.heap.size + 1, 5, none⟩ (.int .i64 0)) from by
  iterate 8 refine Below.setCell ?_ (by show w.heap.size ≤ w.heap.size + 1; omega) _
  exact C1.out)
 clear F0 F1 F2 F3 F4 F5 Fs hF C1 C2
 go_wp2
 generalize ((((((((w3.setCell ⟨w.heap.size + 1, 2, none⟩ (.string ⟨tx.toArray⟩)).setCell ⟨w.heap.size + 1, 0, none⟩ (.int .i64 er)).setCell ⟨w.heap.size + 1, 0, none⟩ (.int .i64 er)).setCell ⟨w.heap.size + 1, 1, none⟩ (.int .i64 0)).setCell ⟨w.heap.size + 1, 2, none⟩ (.string ⟨tx.toArray⟩)).setCell ⟨w.heap.size + 1, 3, none⟩ (.slice none 0 0)).setCell ⟨w.heap.size + 1, 4, none⟩ (.int .i64 0)).setCell ⟨w.heap.size + 1, 5, none⟩ (.int .i64 0)) = WF at *
 obtain ⟨F0, F1, F2, F3, F4, F5, Fs⟩ := HF.out
 refine bodyPost_ret (v := .agg #[.int .i64 er, .int .i64 0, .string ⟨tx.toArray⟩, .slice none 0 0, .int .i64 0, .int .i64 0]) (by simp [results, Tryz.results29, go_sem, F0, F1, F2, F3, F4, F5]) (by simp [go_sem]) ?_
 exact ⟨rfl, HBF.out⟩
end
end Go.Proofs.YtihgojcfpnhelabGreatDoor
