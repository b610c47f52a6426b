import Derived.Test.YtihgojcfpnhelaaGreatDoorSp
import Derived.Test.YtihgojcfpnhelaaGreatDoorSl
import Derived.Test.YtihgojcfpnhelaaGreatDoorMv
set_option linter.unusedVariables false
set_option linter.unusedSimpArgs false
namespace Go.Proofs.YtihgojcfpnhelaaGreatDoor
open Go.RowKit

set_option maxRecDepth 100000 in
set_option maxHeartbeats 4000000 in
theorem new44 (M : Nat) (hM : M ≤ 6) (w : World) :
    Calls Tryz.prog 45 #[.int .i64 (M : Int)] w fun r w' => r = .returned (.tuple #[.pointer (some ⟨w.heap.size, 0, none⟩), .int .i64 0]) ∧ w' = w.alloc (.cells #[.slice none 0 0, .int .i64 (M : Int), .slice none 0 0, .slice none 0 0, .bool false, .slice none 0 0] 108) := by
  have h0 : ¬ (M : Int) < 0 := by omega
  have h6 : ¬ (6 : Int) < (M : Int) := by omega
  clear hM
  go_enter Tryz.func45, Tryz.ntmps45
  go_wp2
  go_ret2
  exact ⟨rfl, rfl⟩

/-- A line as a value. -/
def lineV (vb : Int) (an : Option Addr) (ln cn : Nat) (k : Int) (nm : By) (n : Int) (ar : Option Addr) (lr cr : Nat) : Value := .agg #[.int .i64 vb, .slice an ln cn, .int .i64 k, .string ⟨nm.toArray⟩, .int .i64 n, .slice ar lr cr]

set_option maxRecDepth 100000 in
set_option maxHeartbeats 4000000 in
theorem changeSet (e : Nat) (gn cn : Nat) (x : By) (k : Int) (nm : By) (n : Int) (ar : Option Addr) (lr cr : Nat) (w : World) (Q : Ending → World → Prop) (hc : w.cell? ⟨gn, 0, none⟩ = some (.string ⟨x.toArray⟩)) (hg : gn < w.heap.size)
    (hS : ∀ W, Below w.heap.size w W → Calls Tryz.prog 133 #[.pointer (some ⟨e, 0, none⟩), .string ⟨x.toArray⟩, .agg #[.int .i64 k, .string ⟨nm.toArray⟩, .int .i64 n, .slice ar lr cr]] W fun r w' => ∃ (bn : Option Addr) (ln' cn' g : Nat), r = .returned (.tuple #[.slice bn ln' cn', .func (.func 106) #[] #[.pointer (some ⟨g, 0, none⟩)], .int .i64 0]) ∧ Q r w') :
    Calls Tryz.prog 98 #[.pointer (some ⟨e, 0, none⟩), .agg #[.int .i64 1, .slice (some ⟨gn, 0, none⟩) 1 cn, .int .i64 k, .string ⟨nm.toArray⟩, .int .i64 n, .slice ar lr cr]] w fun r w' => ∃ (bn : Option Addr) (ln' cn' g : Nat), r = .returned (.tuple #[.slice bn ln' cn', .func (.func 106) #[] #[.pointer (some ⟨g, 0, none⟩)], .int .i64 0]) ∧ Q r w' := by
  have HS := toHid hS
  clear hS
  go_enter Tryz.func98, Tryz.ntmps98
  have HS2 := toHid (HS.out (w.alloc (.cells #[.int .i64 1, .slice (some ⟨gn, 0, none⟩) 1 cn, .int .i64 k, .string ⟨nm.toArray⟩, .int .i64 n, .slice ar lr cr] 97)).drew ((Below.refl _ _).alloc (Nat.le_refl _) _).drew)
  go_wp2_with fail
  go_region_with (first | (go_at_call 133; refine HS2.out.mono ?_; rintro r w3 ⟨bn, ln', cn', g, rfl, hq⟩; have C1 := toHid hq; clear hq))
  all_goals go_wp2
  all_goals refine bodyPost_ret (v := .tuple #[.slice bn ln' cn', .func (.func 106) #[] #[.pointer (some ⟨g, 0, none⟩)], .int .i64 0]) (by simp [results, Tryz.results98, go_sem]) (by simp [go_sem]) ?_
  all_goals exact ⟨bn, ln', cn', g, rfl, C1.out⟩

set_option maxRecDepth 100000 in
set_option maxHeartbeats 4000000 in
theorem editOk (e : Nat) (vb : Int) (an : Option Addr) (ln cn : Nat) (k : Int) (nm : By) (n : Int) (ar : Option Addr) (lr cr : Nat) (w : World) (Q : World → Prop) (hQ : ∀ w1 j u, Q w1 → Q (w1.setCell ⟨w.heap.size + 1, j, none⟩ u))
    (hC : ∀ W, Below w.heap.size w W → w.heap.size + 1 < W.heap.size → Calls Tryz.prog 98 #[.pointer (some ⟨e, 0, none⟩), .agg #[.int .i64 vb, .slice an ln cn, .int .i64 k, .string ⟨nm.toArray⟩, .int .i64 n, .slice ar lr cr]] W fun r w' => ∃ (bn : Option Addr) (ln' cn' g : Nat), r = .returned (.tuple #[.slice bn ln' cn', .func (.func 106) #[] #[.pointer (some ⟨g, 0, none⟩)], .int .i64 0]) ∧
      (∀ q cs te, w.heap.size ≤ q → W.heap[q]? = some (.cells cs te (0, 0)) → w'.heap[q]? = some (.cells cs te (0, 0))) ∧ Calls Tryz.prog 99 #[.pointer (some ⟨e, 1, none⟩), .func (.func 106) #[] #[.pointer (some ⟨g, 0, none⟩)]] w' fun r w'' => r = .returned (.tuple #[]) ∧ (∀ q cs te, w.heap.size ≤ q → W.heap[q]? = some (.cells cs te (0, 0)) → w''.heap[q]? = some (.cells cs te (0, 0))) ∧ Q w'') :
    Calls Tryz.prog 65 #[.pointer (some ⟨e, 0, none⟩), .agg #[.int .i64 vb, .slice an ln cn, .int .i64 k, .string ⟨nm.toArray⟩, .int .i64 n, .slice ar lr cr]] w fun r w' => ∃ (bn : Option Addr) (ln' cn' : Nat), r = .returned (.agg #[.int .i64 0, .int .i64 0, .string ⟨#[]⟩, .slice bn ln' cn', .int .i64 0, .int .i64 0]) ∧ Q w' := by
  have HC := toHid hC
  clear hC
  go_enter Tryz.func65, Tryz.ntmps65
  have HC2 := toHid (HC.out ((w.alloc (.cells #[.int .i64 vb, .slice an ln cn, .int .i64 k, .string ⟨nm.toArray⟩, .int .i64 n, .slice ar lr cr] 97)).alloc (.cells #[.int .i64 0, .int .i64 0, .string ⟨#[]⟩, .slice none 0 0, .int .i64 0, .int .i64 0] 39)) (below2 _ _ _) (by simp))
  have HROW := toHid (alloc2_new' w (.cells #[.int .i64 vb, .slice an ln cn, .int .i64 k, .string ⟨nm.toArray⟩, .int .i64 n, .slice ar lr cr] 97) #[.int .i64 0, .int .i64 0, .string ⟨#[]⟩, .slice none 0 0, .int .i64 0, .int .i64 0] 39)
  clear HC
  go_wp2_with (first | (go_at_call 98; refine HC2.out.mono ?_; rintro r w1 ⟨bn, ln', cn', g, rfl, hk1, hkeep⟩; refine Hid.out ?_))
  have HKP := toHid hkeep
  obtain ⟨⟨k0, k1, k2, k3, k4, k5⟩, ⟨f0, f1, f2, f3, f4, f5⟩, hsz⟩ := row6 (hk1 (w.heap.size + 1) _ _ (by omega) HROW.out)
  clear hkeep hk1 HC2
  refine toHid ?_
  go_wp2_with (first | (go_at_call 99; refine HKP.out.mono ?_; rintro r w2 ⟨rfl, hk2, hq2⟩; refine Hid.out ?_))
  obtain ⟨⟨m0, m1, m2, m3, m4, m5⟩, ⟨n0, n1, n2, n3, n4, n5⟩, hsz2⟩ := row6 (hk2 (w.heap.size + 1) _ _ (by omega) HROW.out)
  have HQ2 := toHid hq2
  clear hk2 hq2 HKP
  refine toHid ?_
  go_wp2
  refine bodyPost_ret (v := .agg #[.int .i64 0, .int .i64 0, .string ⟨#[]⟩, .slice bn ln' cn', .int .i64 0, .int .i64 0]) (by simp [results, Tryz.results65, go_sem, m0, m1, m2, m3, m4, m5, hsz2]) rfl ?_
  exact ⟨bn, ln', cn', rfl, hQ _ _ _ (hQ _ _ _ (hQ _ _ _ (hQ _ _ _ (hQ _ _ _ (hQ _ _ _ HQ2.out)))))⟩
end Go.Proofs.YtihgojcfpnhelaaGreatDoor
