import Derived.Test.YtihgojcfpnhelaaGreatDoorMv
import Derived.Test.YtihgojcfpnhelaaGreatDoorSy
set_option linter.unusedVariables false
set_option linter.unusedSimpArgs false
namespace Go.Proofs.YtihgojcfpnhelaaGreatDoor
open Go.RowKit

set_option maxRecDepth 100000 in
set_option maxHeartbeats 4000000 in
theorem new44 (M : Nat) (hM : M ≤ 6) (w : World) :
    Calls Tryz.prog 45 #[.int .i64 (M : Int)] w fun r w' => r = .returned (.tuple #[.pointer (some ⟨w.heap.size, 0, none⟩), .int .i64 0]) ∧ w' = w.alloc (.cells #[.slice none 0 0, .int .i64 (M : Int), .slice none 0 0, .slice none 0 0, .bool false, .slice none 0 0] 108) := by
  have h0 : ¬ (M : Int) < 0 := by omega
  have h6 : ¬ (6 : Int) < (M : Int) := by omega
  clear hM
  go_enter Tryz.func45, Tryz.ntmps45
  go_wp2
  go_ret2
  exact ⟨rfl, rfl⟩

/-- A line as a value. -/
def lineV (vb : Int) (an : Option Addr) (ln cn : Nat) (k : Int) (nm : By) (n : Int) (ar : Option Addr) (lr cr : Nat) : Value := .agg #[.int .i64 vb, .slice an ln cn, .int .i64 k, .string ⟨nm.toArray⟩, .int .i64 n, .slice ar lr cr]

end Go.Proofs.YtihgojcfpnhelaaGreatDoor
namespace Go.Proofs.YtihgojcfpnhelaaGreatDoor
open Go.RowKit

set_option maxRecDepth 100000 in
set_option maxHeartbeats 4000000 in
theorem followTell (e : Nat) (vb : Int) (hvb : vb = 9 ∨ vb = 10 ∨ vb = 11 ∨ vb = 12) (an : Option Addr) (ln cn : Nat) (k : Int) (nm : By) (n : Int) (ar : Option Addr) (lr cr : Nat) (w : World) (er at_ : Int) (tx : By) (bn : Option Addr) (ln' cn' : Nat) (kd nn : Int) (Q : World → Prop) (hQ : ∀ w1 j u, Q w1 → Q (w1.setCell ⟨w.heap.size + 1, j, none⟩ u))
    (hT : ∀ W, Below w.heap.size w W → w.heap.size + 1 < W.heap.size → Calls Tryz.prog 70 #[.pointer (some ⟨e, 0, none⟩), .agg #[.int .i64 vb, .slice an ln cn, .int .i64 k, .string ⟨nm.toArray⟩, .int .i64 n, .slice ar lr cr]] W fun r w' => r = .returned (.agg #[.int .i64 er, .int .i64 at_, .string ⟨tx.toArray⟩, .slice bn ln' cn', .int .i64 kd, .int .i64 nn]) ∧ (∀ q, q = w.heap.size + 1 → w'.heap[q]? = W.heap[q]?) ∧ Q w') :
    Calls Tryz.prog 47 #[.pointer (some ⟨e, 0, none⟩), .agg #[.int .i64 vb, .slice an ln cn, .int .i64 k, .string ⟨nm.toArray⟩, .int .i64 n, .slice ar lr cr]] w fun r w' => r = .returned (.agg #[.int .i64 er, .int .i64 at_, .string ⟨tx.toArray⟩, .slice bn ln' cn', .int .i64 kd, .int .i64 nn]) ∧ Q w' := by
  have HT := toHid hT
  have b1 : (vb == 1) = false := by simp; omega
  have b2 : (vb == 2) = false := by simp; omega
  have b3 : (vb == 3) = false := by simp; omega
  have b4 : (vb == 4) = false := by simp; omega
  have b5 : (vb == 5) = false := by simp; omega
  have b6 : (vb == 6) = false := by simp; omega
  have b7 : (vb == 7) = false := by simp; omega
  have b8 : (vb == 8) = false := by simp; omega
  clear hT hvb
  go_enter Tryz.func47, Tryz.ntmps47
  have HT2 := toHid (HT.out ((w.alloc (.cells #[.int .i64 vb, .slice an ln cn, .int .i64 k, .string ⟨nm.toArray⟩, .int .i64 n, .slice ar lr cr] 97)).alloc (.cells #[.int .i64 0, .int .i64 0, .string ⟨#[]⟩, .slice none 0 0, .int .i64 0, .int .i64 0] 39)) (below2 _ _ _) (by simp))
  have HROW := toHid (alloc2_new' w (.cells #[.int .i64 vb, .slice an ln cn, .int .i64 k, .string ⟨nm.toArray⟩, .int .i64 n, .slice ar lr cr] 97) #[.int .i64 0, .int .i64 0, .string ⟨#[]⟩, .slice none 0 0, .int .i64 0, .int .i64 0] 39)
  clear HT
  go_wp2_with (first | (go_at_call 70; refine HT2.out.mono ?_; rintro r w1 ⟨rfl, hk1, hq⟩; refine Hid.out ?_))
  obtain ⟨⟨k0, k1, k2, k3, k4, k5⟩, ⟨f0, f1, f2, f3, f4, f5⟩, hsz⟩ := row6 ((hk1 (w.heap.size + 1) rfl).trans HROW.out)
  have HQ := toHid hq
  clear hk1 hq HT2
  refine toHid ?_
  go_wp2
  refine bodyPost_ret (v := .agg #[.int .i64 er, .int .i64 at_, .string ⟨tx.toArray⟩, .slice bn ln' cn', .int .i64 kd, .int .i64 nn]) (by simp [results, Tryz.results47, go_sem, k0, k1, k2, k3, k4, k5, hsz]) rfl ?_
  exact ⟨rfl, hQ _ _ _ (hQ _ _ _ (hQ _ _ _ (hQ _ _ _ (hQ _ _ _ (hQ _ _ _ HQ.out)))))⟩
set_option maxRecDepth 100000 in
set_option maxHeartbeats 4000000 in
theorem followEdit (e : Nat) (vb : Int) (hvb : vb = 1 ∨ vb = 2 ∨ vb = 3) (an : Option Addr) (ln cn : Nat) (k : Int) (nm : By) (n : Int) (ar : Option Addr) (lr cr : Nat) (w : World) (Q : Int → Option Addr → Nat → Nat → World → Prop) (hQ : ∀ er a l c w1 j u, Q er a l c w1 → Q er a l c (w1.setCell ⟨w.heap.size + 1, j, none⟩ u))
    (hT : ∀ W, Below w.heap.size w W → w.heap.size + 1 < W.heap.size → Calls Tryz.prog 65 #[.pointer (some ⟨e, 0, none⟩), .agg #[.int .i64 vb, .slice an ln cn, .int .i64 k, .string ⟨nm.toArray⟩, .int .i64 n, .slice ar lr cr]] W fun r w' => ∃ er bn ln' cn', r = .returned (.agg #[.int .i64 er, .int .i64 0, .string ⟨#[]⟩, .slice bn ln' cn', .int .i64 0, .int .i64 0]) ∧ (∀ q, q = w.heap.size + 1 → w'.heap[q]? = W.heap[q]?) ∧ Q er bn ln' cn' w') :
    Calls Tryz.prog 47 #[.pointer (some ⟨e, 0, none⟩), .agg #[.int .i64 vb, .slice an ln cn, .int .i64 k, .string ⟨nm.toArray⟩, .int .i64 n, .slice ar lr cr]] w fun r w' => ∃ er bn ln' cn', r = .returned (.agg #[.int .i64 er, .int .i64 0, .string ⟨#[]⟩, .slice bn ln' cn', .int .i64 0, .int .i64 0]) ∧ Q er bn ln' cn' w' := by
  have HT := toHid hT
  clear hT
  have HT2 := toHid (HT.out ((w.alloc (.cells #[.int .i64 vb, .slice an ln cn, .int .i64 k, .string ⟨nm.toArray⟩, .int .i64 n, .slice ar lr cr] 97)).alloc (.cells #[.int .i64 0, .int .i64 0, .string ⟨#[]⟩, .slice none 0 0, .int .i64 0, .int .i64 0] 39)) (below2 _ _ _) (by simp))
  have HROW := toHid (alloc2_new' w (.cells #[.int .i64 vb, .slice an ln cn, .int .i64 k, .string ⟨nm.toArray⟩, .int .i64 n, .slice ar lr cr] 97) #[.int .i64 0, .int .i64 0, .string ⟨#[]⟩, .slice none 0 0, .int .i64 0, .int .i64 0] 39)
  clear HT
  rcases hvb with rfl | rfl | rfl <;> go_enter Tryz.func47, Tryz.ntmps47
  all_goals go_wp2_with (first | (go_at_call 65; refine HT2.out.mono ?_; rintro r w1 ⟨er, bn, ln', cn', rfl, hk1, hq⟩; refine Hid.out ?_))
  all_goals obtain ⟨⟨k0, k1, k2, k3, k4, k5⟩, ⟨f0, f1, f2, f3, f4, f5⟩, hsz⟩ := row6 ((hk1 (w.heap.size + 1) rfl).trans HROW.out)
  all_goals have HQ := toHid hq
  all_goals clear hk1 hq HT2
  all_goals refine toHid ?_
  all_goals go_wp2
  all_goals refine bodyPost_ret (v := .agg #[.int .i64 er, .int .i64 0, .string ⟨#[]⟩, .slice bn ln' cn', .int .i64 0, .int .i64 0]) (by simp [results, Tryz.results47, go_sem, k0, k1, k2, k3, k4, k5, hsz]) rfl ?_
  all_goals exact ⟨er, bn, ln', cn', rfl, hQ _ _ _ _ _ _ _ (hQ _ _ _ _ _ _ _ (hQ _ _ _ _ _ _ _ (hQ _ _ _ _ _ _ _ (hQ _ _ _ _ _ _ _ (hQ _ _ _ _ _ _ _ HQ.out)))))⟩
end Go.Proofs.YtihgojcfpnhelaaGreatDoor
namespace Go.Proofs.YtihgojcfpnhelaaGreatDoor
open Go.RowKit

/-- A reply that tells nothing. -/
def zRep : Obj := .cells #[.int .i64 0, .int .i64 0, .string ⟨#[]⟩, .slice none 0 0, .int .i64 0, .int .i64 0] 39 (0, 0)

def rpV (er at_ : Int) (tx : By) (bn : Option Addr) (ln cn : Nat) (kd nn : Int) : Value := .agg #[.int .i64 er, .int .i64 at_, .string ⟨tx.toArray⟩, .slice bn ln cn, .int .i64 kd, .int .i64 nn]

def lineO (vb : Int) (an : Option Addr) (ln cn : Nat) (k : Int) (nm : By) (n : Int) (ar : Option Addr) (lr cr : Nat) : Obj := .cells #[.int .i64 vb, .slice an ln cn, .int .i64 k, .string ⟨nm.toArray⟩, .int .i64 n, .slice ar lr cr] 97 (0, 0)

end Go.Proofs.YtihgojcfpnhelaaGreatDoor
namespace Go.Proofs.YtihgojcfpnhelaaGreatDoor
open Go.RowKit
attribute [local go_sem] idx_eq app_eq

set_option maxRecDepth 100000 in
set_option maxHeartbeats 4000000 in
theorem does_ok (e : Nat) (s : By) (w : World) (Q : World → Prop) (hQ : ∀ w1 w2, Q w1 → Below w1.heap.size w1 w2 → Q w2)
    (hD : Calls Tryz.prog 20 #[.pointer (some ⟨e, 0, none⟩), .string ⟨s.toArray⟩] w fun r w' => (∃ (tx : By) (an : Option Addr) (ln cn : Nat) (k n : Int), r = .returned (.agg #[.int .i64 0, .int .i64 0, .string ⟨tx.toArray⟩, .slice an ln cn, .int .i64 k, .int .i64 n])) ∧ Q w') :
    Calls Tryz.prog 19 #[.pointer (some ⟨e, 0, none⟩), .string ⟨s.toArray⟩] w fun r w' => r = .returned (.bool true) ∧ Q w' := by
  have HD := toHid hD
  clear hD
  go_enter Tryz.func19, Tryz.ntmps19
  go_wp2_with (first | (go_at_call 20; refine HD.out.mono ?_; rintro r w1 ⟨⟨tx, an, ln, cn, k, n, rfl⟩, hq⟩; have HQ := toHid hq; clear hq))
  go_ret
  exact ⟨rfl, hQ _ _ HQ.out ((Below.refl _ _).alloc (Nat.le_refl _) _)⟩

set_option maxRecDepth 100000 in
set_option maxHeartbeats 4000000 in
theorem worth_ok (e : Nat) (s : By) (w : World) (hl : s.length ≤ 100) (Q : World → Prop) (hQ : ∀ w1 w2, Q w1 → Below w1.heap.size w1 w2 → Q w2) (k n : Int)
    (hD : Calls Tryz.prog 20 #[.pointer (some ⟨e, 0, none⟩), .string ⟨(118 :: 97 :: 108 :: 117 :: 101 :: 32 :: s).toArray⟩] w fun r w' => (∃ (er at_ : Int) (tx : By) (an : Option Addr) (ln cn : Nat), r = .returned (.agg #[.int .i64 er, .int .i64 at_, .string ⟨tx.toArray⟩, .slice an ln cn, .int .i64 k, .int .i64 n])) ∧ Q w') :
    Calls Tryz.prog 24 #[.pointer (some ⟨e, 0, none⟩), .string ⟨s.toArray⟩] w fun r w' => r = .returned (.tuple #[.int .i64 k, .int .i64 n]) ∧ Q w' := by
  have HD := toHid hD
  clear hD
  go_enter Tryz.func24, Tryz.ntmps24
  go_wp2_with (first | (go_at_call 20; refine HD.out.mono ?_; rintro r w1 ⟨⟨er, at_, tx, an, ln, cn, rfl⟩, hq⟩; have HQ := toHid hq; clear hq))
  go_region
  all_goals go_wp2
  all_goals go_ret2
  all_goals exact ⟨rfl, hQ _ _ HQ.out ((Below.refl _ _).alloc (Nat.le_refl _) _).drew⟩

set_option maxRecDepth 100000 in
set_option maxHeartbeats 4000000 in
theorem is_ok (e : Nat) (s : By) (w : World) (Q : World → Prop) (n : Int)
    (hD : Calls Tryz.prog 24 #[.pointer (some ⟨e, 0, none⟩), .string ⟨s.toArray⟩] w fun r w' => r = .returned (.tuple #[.int .i64 1, .int .i64 n]) ∧ Q w') :
    Calls Tryz.prog 26 #[.pointer (some ⟨e, 0, none⟩), .string ⟨s.toArray⟩, .int .i64 n] w fun r w' => r = .returned (.bool true) ∧ Q w' := by
  have HD := toHid hD
  have hnb : (n == n) = true := by simp
  clear hD
  go_enter Tryz.func26, Tryz.ntmps26
  go_wp2_with (first | (go_at_call 24; refine HD.out.mono ?_; rintro r w1 ⟨rfl, hq⟩; have HQ := toHid hq; clear hq))
  go_ret
  exact ⟨rfl, HQ.out⟩

set_option maxRecDepth 100000 in
set_option maxHeartbeats 4000000 in
theorem begin_ok (u : Int) (w : World) (Q : Nat → World → Prop)
    (hN : Calls Tryz.prog 45 #[.int .i64 u] w fun r w' => ∃ e, r = .returned (.tuple #[.pointer (some ⟨e, 0, none⟩), .int .i64 0]) ∧ Q e w') :
    Calls Tryz.prog 18 #[.int .i64 u] w fun r w' => ∃ e, r = .returned (.tuple #[.pointer (some ⟨e, 0, none⟩), .bool true]) ∧ Q e w' := by
  have HN := toHid hN
  clear hN
  go_enter Tryz.func18, Tryz.ntmps18
  go_wp2_with (first | (go_at_call 45; refine HN.out.mono ?_; rintro r w1 ⟨e, rfl, hq⟩; have HQ := toHid hq; clear hq))
  go_ret2
  exact ⟨e, rfl, HQ.out⟩

end Go.Proofs.YtihgojcfpnhelaaGreatDoor
namespace Go.Proofs.YtihgojcfpnhelaaGreatDoor
open Go.RowKit

def rhoF (fs : List Fd) (x : By) : Vl := match fs.find? (fun f => f.nm == x) with | some f => f.v | none => (3, 3)

section
variable {Ed : World → Nat → List Fd → Prop}

end

end Go.Proofs.YtihgojcfpnhelaaGreatDoor
