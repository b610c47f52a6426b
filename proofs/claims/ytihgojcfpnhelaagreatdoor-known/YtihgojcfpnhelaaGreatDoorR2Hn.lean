import Derived.Test.YtihgojcfpnhelaaGreatDoorR2Hm
set_option maxRecDepth 100000
set_option maxHeartbeats 4000000
set_option linter.unusedVariables false
set_option linter.unusedSimpArgs false
namespace Go.Proofs.YtihgojcfpnhelaaGreatDoor
open Go.RowKit
section
def ChPost (e : Nat) (Q : Int → Option Addr → Nat → Nat → World → Prop) (q : Nat) (row : Obj) (r : Ending) (w1 : World) : Prop :=
 ∃ (bn : Option Addr) (ln cn : Nat) (bk : Value) (er : Int), r = .returned (.tuple #[.slice bn ln cn, bk, .int .i64 er]) ∧ w1.heap[q]? = some row ∧
  ((er = 0 ∧ ∃ N cs, bk = .func (.func N) #[] cs ∧ Calls Tryz.prog 99 #[.pointer (some ⟨e, 1, none⟩), .func (.func N) #[] cs] w1 fun r w2 => r = .returned (.tuple #[]) ∧ w2.heap[q]? = some row ∧ Q 0 bn ln cn w2) ∨ (er ≠ 0 ∧ bk = .nilFunc ∧ Q er bn ln cn w1))
theorem editAny (e : Nat) (vb : Int) (an : Option Addr) (ln cn : Nat) (k : Int) (nm : By) (n : Int) (ar : Option Addr) (lr cr : Nat) (w : World) (Q : Int → Option Addr → Nat → Nat → World → Prop) (hQ : ∀ er a l c w1 j u, Q er a l c w1 → Q er a l c (w1.setCell ⟨w.heap.size + 1, j, none⟩ u))
  (hC : ∀ W, Below w.heap.size w W → w.heap.size + 1 < W.heap.size → W.heap[w.heap.size + 1]? = some zRep → Calls Tryz.prog 98 #[.pointer (some ⟨e, 0, none⟩), .agg #[.int .i64 vb, .slice an ln cn, .int .i64 k, .string ⟨nm.toArray⟩, .int .i64 n, .slice ar lr cr]] W (ChPost e Q (w.heap.size + 1) zRep) ) :
  Calls Tryz.prog 65 #[.pointer (some ⟨e, 0, none⟩), .agg #[.int .i64 vb, .slice an ln cn, .int .i64 k, .string ⟨nm.toArray⟩, .int .i64 n, .slice ar lr cr]] w fun r w' => ∃ er bn ln' cn', r = .returned (.agg #[.int .i64 er, .int .i64 0, .string ⟨#[]⟩, .slice bn ln' cn', .int .i64 0, .int .i64 0]) ∧ Q er bn ln' cn' w' := by
 have HQ := tZ hQ
 have HC2 := tZ ((hC ((w.alloc (.cells #[.int .i64 vb, .slice an ln cn, .int .i64 k, .string ⟨nm.toArray⟩, .int .i64 n, .slice ar lr cr] 97)).alloc (.cells #[.int .i64 0, .int .i64 0, .string ⟨#[]⟩, .slice none 0 0, .int .i64 0, .int .i64 0] 39)) (below2 _ _ _) (by simp) (alloc2_new' w _ _ _)).mono (R' := fun r w1 => ∃ (bn : Option Addr) (ln cn : Nat) (bk : Value) (er : Int), r = .returned (.tuple #[.slice bn ln cn, bk, .int .i64 er]) ∧ Hid (w1.heap[w.heap.size + 1]? = some zRep) ∧ Hid ((er = 0 ∧ ∃ N cs, bk = .func (.func N) #[] cs ∧ Calls Tryz.prog 99 #[.pointer (some ⟨e, 1, none⟩), .func (.func N) #[] cs] w1 fun r w2 => r = .returned (.tuple #[]) ∧ w2.heap[w.heap.size + 1]? = some zRep ∧ Q 0 bn ln cn w2) ∨ (er ≠ 0 ∧ bk = .nilFunc ∧ Q er bn ln cn w1))) (by
  rintro r w1 ⟨bn, ln, cn, bk, er, h1, h2, h3⟩
  exact ⟨bn, ln, cn, bk, er, h1, h2, h3⟩))
 clear hC hQ
 go_enter Tryz.func65, Tryz.ntmps65
 go_wp2_with (first | (go_at_call 98; refine HC2.out.mono ?_; rintro r w1 ⟨bn, ln', cn', bk, er, rfl, H1, H2⟩; refine Hid.out ?_))
 refine tZ ?_
 clear HC2
 obtain ⟨⟨k0, k1, k2, k3, k4, k5⟩, ⟨f0, f1, f2, f3, f4, f5⟩, hsz⟩ := row6 H1.out
 rcases H2.out with ⟨rfl, N, cs, rfl, hadd⟩ | ⟨her, rfl, hq⟩
 ·have HAD := tZ hadd
  clear hadd H2
  go_wp2_with (first | (go_at_call 99; refine HAD.out.mono ?_; rintro r w2 ⟨rfl, h2, hq2⟩; refine Hid.out ?_))
  obtain ⟨⟨m0, m1, m2, m3, m4, m5⟩, ⟨n0, n1, n2, n3, n4, n5⟩, hsz2⟩ := row6 h2
  have HQ2 := tZ hq2
  clear h2 hq2 HAD
  refine tZ ?_
  go_wp2
  refine bodyPost_ret (v := .agg #[.int .i64 0, .int .i64 0, .string ⟨#[]⟩, .slice bn ln' cn', .int .i64 0, .int .i64 0]) (by simp [results, Tryz.results65, go_sem, m0, m1, m2, m3, m4, m5, hsz2]) rfl ?_
  exact ⟨0, bn, ln', cn', rfl, HQ.out _ _ _ _ _ _ _ (HQ.out _ _ _ _ _ _ _ (HQ.out _ _ _ _ _ _ _ (HQ.out _ _ _ _ _ _ _ (HQ.out _ _ _ _ _ _ _ (HQ.out _ _ _ _ _ _ _ HQ2.out)))))⟩
 ·have her' : (er == 0) = false := by simpa using her
  have HQ2 := tZ hq
  clear hq H2 her
  go_wp2
  refine bodyPost_ret (v := .agg #[.int .i64 er, .int .i64 0, .string ⟨#[]⟩, .slice bn ln' cn', .int .i64 0, .int .i64 0]) (by simp [results, Tryz.results65, go_sem, k0, k1, k2, k3, k4, k5, hsz]) rfl ?_
  exact ⟨er, bn, ln', cn', rfl, HQ.out _ _ _ _ _ _ _ (HQ.out _ _ _ _ _ _ _ (HQ.out _ _ _ _ _ _ _ (HQ.out _ _ _ _ _ _ _ (HQ.out _ _ _ _ _ _ _ (HQ.out _ _ _ _ _ _ _ HQ2.out)))))⟩
def ChQ (Q : Ending → World → Prop) (r : Ending) (w' : World) : Prop := ∃ (bn : Option Addr) (ln cn : Nat) (bk : Value) (er : Int), r = .returned (.tuple #[.slice bn ln cn, bk, .int .i64 er]) ∧ Q r w'
theorem changeSetQ (e gn cn : Nat) (x : By) (k : Int) (nm : By) (n : Int) (ar : Option Addr) (lr cr : Nat) (w : World) (Q : Ending → World → Prop) (hc : w.cell? ⟨gn, 0, none⟩ = some (.string ⟨x.toArray⟩)) (hg : gn < w.heap.size)
  (hS : ∀ W, Below w.heap.size w W → Calls Tryz.prog 133 #[.pointer (some ⟨e, 0, none⟩), .string ⟨x.toArray⟩, .agg #[.int .i64 k, .string ⟨nm.toArray⟩, .int .i64 n, .slice ar lr cr]] W (ChQ Q)) :
  Calls Tryz.prog 98 #[.pointer (some ⟨e, 0, none⟩), .agg #[.int .i64 1, .slice (some ⟨gn, 0, none⟩) 1 cn, .int .i64 k, .string ⟨nm.toArray⟩, .int .i64 n, .slice ar lr cr]] w (ChQ Q) := by
 have HS2 := tZ (hS (w.alloc (.cells #[.int .i64 1, .slice (some ⟨gn, 0, none⟩) 1 cn, .int .i64 k, .string ⟨nm.toArray⟩, .int .i64 n, .slice ar lr cr] 97)).drew (bZ _).drew)
 clear hS
 go_enter Tryz.func98, Tryz.ntmps98
 go_wp2_with fail
 go_region_with (first | (go_at_call 133; refine HS2.out.mono ?_; rintro r w3 ⟨bn, ln', cn', bk, er, rfl, hq⟩; have C1 := tZ hq; clear hq))
 all_goals go_wp2
 all_goals refine bodyPost_ret (v := .tuple #[.slice bn ln' cn', bk, .int .i64 er]) (by simp [results, Tryz.results98, go_sem]) (by simp [go_sem]) ?_
 all_goals exact ⟨bn, ln', cn', bk, er, rfl, C1.out⟩
theorem changeDelQ (e gn cn : Nat) (x : By) (k : Int) (nm : By) (n : Int) (ar : Option Addr) (lr cr : Nat) (w : World) (Q : Ending → World → Prop) (hc : w.cell? ⟨gn, 0, none⟩ = some (.string ⟨x.toArray⟩)) (hg : gn < w.heap.size)
  (hS : ∀ W, Below w.heap.size w W → Calls Tryz.prog 134 #[.pointer (some ⟨e, 0, none⟩), .string ⟨x.toArray⟩] W (ChQ Q)) :
  Calls Tryz.prog 98 #[.pointer (some ⟨e, 0, none⟩), .agg #[.int .i64 2, .slice (some ⟨gn, 0, none⟩) 1 cn, .int .i64 k, .string ⟨nm.toArray⟩, .int .i64 n, .slice ar lr cr]] w (ChQ Q) := by
 have HS2 := tZ (hS (w.alloc (.cells #[.int .i64 2, .slice (some ⟨gn, 0, none⟩) 1 cn, .int .i64 k, .string ⟨nm.toArray⟩, .int .i64 n, .slice ar lr cr] 97)).drew (bZ _).drew)
 clear hS
 go_enter Tryz.func98, Tryz.ntmps98
 go_wp2_with fail
 go_region_with (first | (go_at_call 134; refine HS2.out.mono ?_; rintro r w3 ⟨bn, ln', cn', bk, er, rfl, hq⟩; have C1 := tZ hq; clear hq))
 all_goals go_wp2
 all_goals refine bodyPost_ret (v := .tuple #[.slice bn ln' cn', bk, .int .i64 er]) (by simp [results, Tryz.results98, go_sem]) (by simp [go_sem]) ?_
 all_goals exact ⟨bn, ln', cn', bk, er, rfl, C1.out⟩
theorem changeRenQ (e gn cn : Nat) (x y : By) (k : Int) (nm : By) (n : Int) (ar : Option Addr) (lr cr : Nat) (w : World) (Q : Ending → World → Prop) (hc : w.cell? ⟨gn, 0, none⟩ = some (.string ⟨x.toArray⟩)) (hc1 : w.cell? ⟨gn, 1, none⟩ = some (.string ⟨y.toArray⟩)) (hg : gn < w.heap.size)
  (hS : ∀ W, Below w.heap.size w W → Calls Tryz.prog 135 #[.pointer (some ⟨e, 0, none⟩), .string ⟨x.toArray⟩, .string ⟨y.toArray⟩] W (ChQ Q)) :
  Calls Tryz.prog 98 #[.pointer (some ⟨e, 0, none⟩), .agg #[.int .i64 3, .slice (some ⟨gn, 0, none⟩) 2 cn, .int .i64 k, .string ⟨nm.toArray⟩, .int .i64 n, .slice ar lr cr]] w (ChQ Q) := by
 have HS2 := tZ (hS (w.alloc (.cells #[.int .i64 3, .slice (some ⟨gn, 0, none⟩) 2 cn, .int .i64 k, .string ⟨nm.toArray⟩, .int .i64 n, .slice ar lr cr] 97)).drew (bZ _).drew)
 clear hS
 go_enter Tryz.func98, Tryz.ntmps98
 go_wp2_with fail
 go_region_with (first | (go_at_call 135; refine HS2.out.mono ?_; rintro r w3 ⟨bn, ln', cn', bk, er, rfl, hq⟩; have C1 := tZ hq; clear hq))
 all_goals go_wp2
 all_goals refine bodyPost_ret (v := .tuple #[.slice bn ln' cn', bk, .int .i64 er]) (by simp [results, Tryz.results98, go_sem]) (by simp [go_sem]) ?_
 all_goals exact ⟨bn, ln', cn', bk, er, rfl, C1.out⟩
end
end Go.Proofs.YtihgojcfpnhelaaGreatDoor
