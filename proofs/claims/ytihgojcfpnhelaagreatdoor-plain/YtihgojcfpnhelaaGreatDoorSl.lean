import Derived.Test.YtihgojcfpnhelaaGreatDoorSc
set_option linter.unusedVariables false
set_option linter.unusedSimpArgs false
namespace Go.Proofs.YtihgojcfpnhelaaGreatDoor
open Go.RowKit

set_option maxRecDepth 100000 in
set_option maxHeartbeats 4000000 in
theorem value68 (x : By) {S : Nat → Prop} (e c : Nat) (a : Option Addr) (fs : List (Nat × Fd)) (w : World) (hs : Sh w S a fs) (hc : w.cell? ⟨e, 0, none⟩ = some (.slice a fs.length c)) (he : e < w.heap.size) (hl : fs.length ≤ 1000) :
    Calls Tryz.prog 102 #[.pointer (some ⟨e, 0, none⟩), .string ⟨x.toArray⟩] w fun r w' => r = .returned (.tuple #[.agg #[.int .i64 (match findF fs x with | some f => f.2.v.1 | none => 0), .int .i64 (match findF fs x with | some f => f.2.v.2 | none => 0)], .int .i64 (match findF fs x with | some _ => 0 | none => 5)]) ∧ Below w.heap.size w w' := by
  have H := toHid (fun W (hb : Below w.heap.size w W) => find101 x e c a fs W (hs.next hb) ((hb.cell (p := ⟨e, 0, none⟩) he).trans hc) hl)
  have HS := toHid hs
  clear hs
  cases hf : findF fs x with
  | some f =>
    have hfb : findB fs x = some ⟨f.1, 0, none⟩ := by simp [findB, hf]
    rw [hfb] at H
    obtain ⟨_, _, _, _, a1, l1, c1, hb, _⟩ := HS.out.fld f (findF_mem hf).1
    have HR := toHid hb
    clear hb
    go_enter Tryz.func102, Tryz.ntmps102
    go_wp2_with (first | (go_at_call 137; refine (H.out _ ((Below.refl _ _).alloc (Nat.le_refl _) _)).mono ?_; rintro r w1 ⟨rfl, rfl⟩; refine Hid.out ?_))
    obtain ⟨⟨k0, k1, k2, k3, k4, k5, k6⟩, hfz, hsz⟩ := row7 ((Below.heap_alloc w (.cells #[.int .i64 0, .int .i64 0] 177) _ (HS.out.fld f (findF_mem hf).1).lt).trans HR.out)
    have hne : f.1 ≠ w.heap.size := by have := (HS.out.fld f (findF_mem hf).1).lt; omega
    have hne' : w.heap.size ≠ f.1 := fun h => hne h.symm
    generalize f.1 = q at *
    clear hfz H hf hfb
    refine toHid ?_
    go_wp2
    refine bodyPost_ret (v := .tuple #[.agg #[.int .i64 f.2.v.1, .int .i64 f.2.v.2], .int .i64 0]) (by simp [results, Tryz.results102, go_sem]) rfl ?_
    exact ⟨rfl, (Below.refl _ _).alloc (Nat.le_refl _) _⟩
  | none =>
    have hfb : findB fs x = none := by simp [findB, hf]
    rw [hfb] at H
    go_enter Tryz.func102, Tryz.ntmps102
    go_wp2_with (first | (go_at_call 137; refine (H.out _ ((Below.refl _ _).alloc (Nat.le_refl _) _)).mono ?_; rintro r w1 ⟨rfl, rfl⟩))
    refine bodyPost_ret (v := .tuple #[.agg #[.int .i64 0, .int .i64 0], .int .i64 5]) (by simp [results, Tryz.results102, go_sem]) rfl ?_
    exact ⟨rfl, (Below.refl _ _).alloc (Nat.le_refl _) _⟩

/-- What 'Rule' answers. -/
def RlPost (fs : List (Nat × Fd)) (x : By) (w : World) (r : Ending) (w' : World) : Prop :=
  Below w.heap.size w w' ∧ match findF fs x with | some f => r = .returned (.tuple #[.string ⟨(txt f.2.p).toArray⟩, .int .i64 0]) | none => r = .returned (.tuple #[.string ⟨#[]⟩, .int .i64 5])

set_option maxRecDepth 100000 in
set_option maxHeartbeats 4000000 in
theorem rule69 (x : By) {S : Nat → Prop} (e c : Nat) (a : Option Addr) (fs : List (Nat × Fd)) (w : World) (hs : Sh w S a fs) (hE : Env w) (hc : w.cell? ⟨e, 0, none⟩ = some (.slice a fs.length c)) (he : e < w.heap.size) (hl : fs.length ≤ 1000) :
    Calls Tryz.prog 103 #[.pointer (some ⟨e, 0, none⟩), .string ⟨x.toArray⟩] w (RlPost fs x w) := by
  have H := toHid (find101 x e c a fs w hs hc hl)
  unfold RlPost
  cases hf : findF fs x with
  | some f =>
    have hfb : findB fs x = some ⟨f.1, 0, none⟩ := by simp [findB, hf]
    rw [hfb] at H
    obtain ⟨_, hsh, hgd, htx, a1, l1, c1, hb, hP⟩ := hs.fld f (findF_mem hf).1
    have HPL := toHid (rulePlain9 f.2.p a1 l1 c1 w hP hs.still hE hgd (by omega))
    obtain ⟨⟨k0, k1, k2, k3, k4, k5, k6⟩, hfz, hsz⟩ := row7 hb
    clear hb hs hE hP hsh hgd htx
    go_enter Tryz.func103, Tryz.ntmps103
    go_wp2_with (first | (go_at_call 137; refine H.out.mono ?_; rintro r w1 ⟨rfl, rfl⟩) | (go_at_call 44; refine HPL.out.mono ?_; rintro r w2 ⟨rfl, hb2⟩))
    go_ret2
    exact ⟨hb2, rfl⟩
  | none =>
    have hfb : findB fs x = none := by simp [findB, hf]
    rw [hfb] at H
    go_enter Tryz.func103, Tryz.ntmps103
    go_wp2_with (first | (go_at_call 137; refine H.out.mono ?_; rintro r w1 ⟨rfl, rfl⟩))
    go_ret2
    exact ⟨Below.refl _ _, rfl⟩

set_option maxRecDepth 100000 in
set_option maxHeartbeats 4000000 in
theorem order71 {S : Nat → Prop} (e c : Nat) (a : Option Addr) (fs : List (Nat × Fd)) (w : World) (hs : Sh w S a fs) (hc : w.cell? ⟨e, 0, none⟩ = some (.slice a fs.length c)) (hl : fs.length ≤ 1000) :
    Calls Tryz.prog 105 #[.pointer (some ⟨e, 0, none⟩)] w fun r w' => ∃ v, r = .returned v ∧ w'.ownsRow w.heap.size 9 1 v fs.length (strs (nmsF fs)) ∧ Below w.heap.size w w' := by
  have H := toHid (names107 a c fs w hs hl)
  clear hs
  go_enter Tryz.func105, Tryz.ntmps105
  go_wp2_with (first | (go_at_call 142; refine H.out.mono ?_; rintro r w1 ⟨v, rfl, ho, hb1⟩))
  go_ret
  exact ⟨v, rfl, ho, hb1⟩
end Go.Proofs.YtihgojcfpnhelaaGreatDoor
