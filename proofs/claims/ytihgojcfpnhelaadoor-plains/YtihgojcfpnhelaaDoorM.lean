import Derived.Test.YtihgojcfpnhelaaDoorL
namespace Go.Proofs.YtihgojcfpnhelaaDoor
open Go.RowKit
attribute [local go_sem] idx_eq app_eq

/-- What Plain answers. -/
def PlainPost (w : World) (a : By) (err : Int) (at_ : Nat) (e : Ending) (w' : World) : Prop :=
  e = .returned (.tuple #[.string ⟨a.toArray⟩, .int .i64 err, .int .i64 (at_ : Int)]) ∧ Below w.heap.size w w'

set_option maxHeartbeats 1000000 in
theorem refLong (s : By) (w : World) (h : 120 < s.length) : Calls Tryd.prog 6 #[.string ⟨s.toArray⟩] w (PlainPost w [] 1 0) := by
  go_enter Tryd.func6, Tryd.ntmps6
  go_wp2
  go_ret3
  exact ⟨rfl, Below.refl _ _⟩

theorem symR0 : symB 82 0 = [63, 82, 48] := by decide

set_option maxRecDepth 100000 in
set_option maxHeartbeats 1000000 in
theorem read10_bad (s : By) (v0 : Value) (w : World) (p : Nat) (hl : s.length ≤ 1000) (hp : (toksOf s).2 = some p) :
    Calls Tryd.prog 10 #[.string ⟨s.toArray⟩, v0] w fun e w' => e = .returned (.tuple #[.slice none 0 0, .int .i64 2, .int .i64 (p : Int)]) ∧ Below w.heap.size w w' := by
  have HP := toHid hp
  clear hp
  go_enter Tryd.func10, Tryd.ntmps10
  go_wp2_with (first | (go_at_call 17; refine (tokens17_bad s _ p hl HP.out).mono ?_; rintro e w1 ⟨rfl, hb1⟩))
  go_ret3
  exact ⟨rfl, by assumption⟩

set_option maxHeartbeats 1000000 in
theorem refTok (s : By) (w : World) (p : Nat) (hl : s.length ≤ 120) (hp : (toksOf s).2 = some p) : Calls Tryd.prog 6 #[.string ⟨s.toArray⟩] w (PlainPost w [] 2 p) := by
  have HP := toHid hp
  clear hp
  go_enter Tryd.func6, Tryd.ntmps6
  go_wp2_with (first | (go_at_call 10; refine (read10_bad s _ _ p (by omega) HP.out).mono ?_; rintro e w1 ⟨rfl, hb1⟩))
  go_ret3
  exact ⟨rfl, ((Below.refl _ _).alloc (Nat.le_refl _) _).trans (hb1.mono (by simp))⟩

set_option maxHeartbeats 2000000 in
theorem refRun (s : By) (w : World) (ts : List (By × Nat)) (hl : s.length ≤ 120) (hts : toksOf s = (ts, none)) (n0 : Nat) (hn0 : n0 ≤ 1000000) (err : Int) (p : Nat)
    (hrun : runB s.length n0 [symB 82 0] ts = some (err, p)) (he : err ≠ 0) : Calls Tryd.prog 6 #[.string ⟨s.toArray⟩] w (PlainPost w [] err p) := by
  have hp1 : runB s.length n0 [symB 82 0] (toksOf s).1 = some (err, p) := by rw [hts]; exact hrun
  have hp2 : (toksOf s).2 = none := by rw [hts]
  have HR := toHid (fun (wx : World) => read10 s [symB 82 0] _ _ (by omega) (Rds.own (own_lit wx [symB 82 0] (by simp))) (by simp) (good_one (good_sym 82 0 (by decide) (by decide))) n0 hn0 (err, p) hp2 hp1)
  have heb : (err == 0) = false := beq_eq_false_iff_ne.2 he
  have heb2 : (err != 0) = true := by simp [he]
  clear hrun hp1 hp2 hts he
  go_enter Tryd.func6, Tryd.ntmps6
  go_wp2_with (first | (go_at_call 10; refine (HR.out _).mono ?_; rintro e w1 ⟨v, rfl, hown, hb1⟩))
  go_ret3
  exact ⟨rfl, ((Below.refl _ _).alloc (Nat.le_refl _) _).trans (hb1.mono (by simp))⟩

set_option maxHeartbeats 2000000 in
theorem refOk (s : By) (w : World) (ts : List (By × Nat)) (hl : s.length ≤ 120) (hts : toksOf s = (ts, none)) (n0 : Nat) (hn0 : n0 ≤ 1000000)
    (hrun : runB s.length n0 [symB 82 0] ts = some (0, 0)) :
    Calls Tryd.prog 6 #[.string ⟨s.toArray⟩] w (if 100 < (toldTo ts ts.length).length then PlainPost w [] 7 0 else PlainPost w (toldTo ts ts.length) 0 0) := by
  have hp1 : runB s.length n0 [symB 82 0] (toksOf s).1 = some (0, 0) := by rw [hts]; exact hrun
  have hp2 : (toksOf s).2 = none := by rw [hts]
  have htl : ts.length ≤ s.length := by have := toks_length s.length s 0; rw [show toks s.length s 0 = (ts, none) from hts] at this; exact this
  have hgl : ∀ t p, (t, p) ∈ ts → t ≠ [] ∧ t.length ≤ 19 := by
    intro t p h
    have h' : (t, p) ∈ (toks s.length s 0).1 := by rw [show toks s.length s 0 = (ts, none) from hts]; exact h
    obtain ⟨c, r, hc, _⟩ := toks_good _ _ _ t p h'
    exact ⟨by rw [hc]; simp, toks_len19 _ _ _ t p h'⟩
  have hl21 := toldTo_len ts (fun t p h => (hgl t p h).2) ts.length
  have HR := toHid (fun (wx : World) => read10 s [symB 82 0] _ _ (by omega) (Rds.own (own_lit wx [symB 82 0] (by simp))) (by simp) (good_one (good_sym 82 0 (by decide) (by decide))) n0 hn0 (0, 0) hp2 hp1)
  have HGL := toHid hgl
  have HTS := toHid (show (toksOf s).1 = ts by rw [hts])
  clear hrun hp1 hp2 hts hgl
  by_cases hbig : 100 < (toldTo ts ts.length).length
  · rw [if_pos hbig]
    go_enter Tryd.func6, Tryd.ntmps6
    go_wp2_with (first | (go_at_call 10; refine (HR.out _).mono ?_; rintro e w1 ⟨v, rfl, hown, hb1⟩; rw [HTS.out] at hown) | (go_at_call 11; refine (told11 ts _ _ _ hown (by omega) HGL.out).mono ?_; rintro e w2 ⟨rfl, hb2⟩))
    go_ret3
    exact ⟨rfl, (((Below.refl _ _).alloc (Nat.le_refl _) _).trans (hb1.mono (by simp))).trans (hb2.mono (by have := hb1.size; simp at this; omega))⟩
  · rw [if_neg hbig]
    go_enter Tryd.func6, Tryd.ntmps6
    go_wp2_with (first | (go_at_call 10; refine (HR.out _).mono ?_; rintro e w1 ⟨v, rfl, hown, hb1⟩; rw [HTS.out] at hown) | (go_at_call 11; refine (told11 ts _ _ _ hown (by omega) HGL.out).mono ?_; rintro e w2 ⟨rfl, hb2⟩))
    go_ret3
    exact ⟨rfl, (((Below.refl _ _).alloc (Nat.le_refl _) _).trans (hb1.mono (by simp))).trans (hb2.mono (by have := hb1.size; simp at this; omega))⟩
end Go.Proofs.YtihgojcfpnhelaaDoor
