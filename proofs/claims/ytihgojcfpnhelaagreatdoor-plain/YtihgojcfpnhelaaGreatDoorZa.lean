import Derived.Test.YtihgojcfpnhelaaGreatDoorL
import Derived.Test.YtihgojcfpnhelaaGreatDoorMp
set_option linter.unusedVariables false
set_option linter.unusedSimpArgs false
namespace Go.Proofs.YtihgojcfpnhelaaGreatDoor
open Go.RowKit
attribute [local go_sem] idx_eq app_eq

/-- What Plain answers. -/
def PlainPost (w : World) (a : By) (err : Int) (at_ : Nat) (e : Ending) (w' : World) : Prop :=
  e = .returned (.tuple #[.string ⟨a.toArray⟩, .int .i64 err, .int .i64 (at_ : Int)]) ∧ Below w.heap.size w w'

set_option maxHeartbeats 1000000 in
theorem refLong (s : By) (w : World) (h : 120 < s.length) : Calls Tryz.prog 80 #[.string ⟨s.toArray⟩] w (PlainPost w [] 1 0) := by
  go_enter Tryz.func80, Tryz.ntmps80
  go_wp2
  go_ret3
  exact ⟨rfl, Below.refl _ _⟩

theorem symR0 : symB 82 0 = [63, 82, 48] := by decide

set_option maxRecDepth 100000 in
set_option maxHeartbeats 1000000 in
theorem read10_bad (s : By) (v0 : Value) (w : World) (p : Nat) (hl : s.length ≤ 1000) (hp : (toksOf s).2 = some p) :
    Calls Tryz.prog 53 #[.string ⟨s.toArray⟩, v0] w fun e w' => e = .returned (.tuple #[.slice none 0 0, .int .i64 2, .int .i64 (p : Int)]) ∧ Below w.heap.size w w' := by
  have HP := toHid hp
  clear hp
  go_enter Tryz.func53, Tryz.ntmps53
  go_wp2_with (first | (go_at_call 51; refine (tokens17_bad s _ p hl HP.out).mono ?_; rintro e w1 ⟨rfl, hb1⟩))
  go_ret3
  exact ⟨rfl, by assumption⟩

set_option maxHeartbeats 1000000 in
theorem refTok (s : By) (w : World) (p : Nat) (hl : s.length ≤ 120) (hp : (toksOf s).2 = some p) : Calls Tryz.prog 80 #[.string ⟨s.toArray⟩] w (PlainPost w [] 2 p) := by
  have HP := toHid hp
  clear hp
  go_enter Tryz.func80, Tryz.ntmps80
  go_wp2_with (first | (go_at_call 53; refine (read10_bad s _ _ p (by omega) HP.out).mono ?_; rintro e w1 ⟨rfl, hb1⟩))
  go_ret3
  exact ⟨rfl, ((Below.refl _ _).alloc (Nat.le_refl _) _).trans (hb1.mono (by simp))⟩

set_option maxHeartbeats 2000000 in
theorem refRun (s : By) (w : World) (ts : List (By × Nat)) (hl : s.length ≤ 120) (hts : toksOf s = (ts, none)) (n0 : Nat) (hn0 : n0 ≤ 1000000) (err : Int) (p : Nat)
    (hrun : runB s.length n0 [symB 82 0] ts = some (err, p)) (he : err ≠ 0) : Calls Tryz.prog 80 #[.string ⟨s.toArray⟩] w (PlainPost w [] err p) := by
  have hp1 : runB s.length n0 [symB 82 0] (toksOf s).1 = some (err, p) := by rw [hts]; exact hrun
  have hp2 : (toksOf s).2 = none := by rw [hts]
  have HR := toHid (fun (wx : World) => read10 s [symB 82 0] _ _ (by omega) (Rds.own (own_lit wx [symB 82 0] (by simp))) (by simp) (good_one (good_sym 82 0 (by decide) (by decide))) n0 hn0 (err, p) hp2 hp1)
  have heb : (err == 0) = false := beq_eq_false_iff_ne.2 he
  have heb2 : (err != 0) = true := by simp [he]
  clear hrun hp1 hp2 hts he
  go_enter Tryz.func80, Tryz.ntmps80
  go_wp2_with (first | (go_at_call 53; refine (HR.out _).mono ?_; rintro e w1 ⟨v, rfl, hown, hb1⟩))
  go_ret3
  exact ⟨rfl, ((Below.refl _ _).alloc (Nat.le_refl _) _).trans (hb1.mono (by simp))⟩

set_option maxHeartbeats 2000000 in
theorem refOk (s : By) (w : World) (ts : List (By × Nat)) (hl : s.length ≤ 120) (hts : toksOf s = (ts, none)) (n0 : Nat) (hn0 : n0 ≤ 1000000)
    (hrun : runB s.length n0 [symB 82 0] ts = some (0, 0)) :
    Calls Tryz.prog 80 #[.string ⟨s.toArray⟩] w (if 100 < (toldTo ts ts.length).length then PlainPost w [] 7 0 else PlainPost w (toldTo ts ts.length) 0 0) := by
  have hp1 : runB s.length n0 [symB 82 0] (toksOf s).1 = some (0, 0) := by rw [hts]; exact hrun
  have hp2 : (toksOf s).2 = none := by rw [hts]
  have htl : ts.length ≤ s.length := by have := toks_length s.length s 0; rw [show toks s.length s 0 = (ts, none) from hts] at this; exact this
  have hgl : ∀ t p, (t, p) ∈ ts → t ≠ [] ∧ t.length ≤ 19 := by
    intro t p h
    have h' : (t, p) ∈ (toks s.length s 0).1 := by rw [show toks s.length s 0 = (ts, none) from hts]; exact h
    obtain ⟨c, r, hc, _⟩ := toks_good _ _ _ t p h'
    exact ⟨by rw [hc]; simp, toks_len19 _ _ _ t p h'⟩
  have hl21 := toldTo_len ts (fun t p h => (hgl t p h).2) ts.length
  have HR := toHid (fun (wx : World) => read10 s [symB 82 0] _ _ (by omega) (Rds.own (own_lit wx [symB 82 0] (by simp))) (by simp) (good_one (good_sym 82 0 (by decide) (by decide))) n0 hn0 (0, 0) hp2 hp1)
  have HGL := toHid hgl
  have HTS := toHid (show (toksOf s).1 = ts by rw [hts])
  clear hrun hp1 hp2 hts hgl
  by_cases hbig : 100 < (toldTo ts ts.length).length
  · rw [if_pos hbig]
    go_enter Tryz.func80, Tryz.ntmps80
    go_wp2_with (first | (go_at_call 53; refine (HR.out _).mono ?_; rintro e w1 ⟨v, rfl, hown, hb1⟩; rw [HTS.out] at hown) | (go_at_call 54; refine (told11 ts _ _ _ hown (by omega) HGL.out).mono ?_; rintro e w2 ⟨rfl, hb2⟩))
    go_ret3
    exact ⟨rfl, (((Below.refl _ _).alloc (Nat.le_refl _) _).trans (hb1.mono (by simp))).trans (hb2.mono (by have := hb1.size; simp at this; omega))⟩
  · rw [if_neg hbig]
    go_enter Tryz.func80, Tryz.ntmps80
    go_wp2_with (first | (go_at_call 53; refine (HR.out _).mono ?_; rintro e w1 ⟨v, rfl, hown, hb1⟩; rw [HTS.out] at hown) | (go_at_call 54; refine (told11 ts _ _ _ hown (by omega) HGL.out).mono ?_; rintro e w2 ⟨rfl, hb2⟩))
    go_ret3
    exact ⟨rfl, (((Below.refl _ _).alloc (Nat.le_refl _) _).trans (hb1.mono (by simp))).trans (hb2.mono (by have := hb1.size; simp at this; omega))⟩
end Go.Proofs.YtihgojcfpnhelaaGreatDoor
namespace Go.Proofs.YtihgojcfpnhelaaGreatDoor
open Go.RowKit

theorem scan_ok (s : By) (w : World) (ts : List (By × Nat)) (hE : Env w) (hl : s.length ≤ 120) (h : toksOf s = (ts, none)) :
    Calls Tryz.prog 42 #[.string ⟨s.toArray⟩] w fun e w' => ∃ v, e = .returned (.tuple #[v, .int .i64 0, .int .i64 0]) ∧ w'.ownsRow w.heap.size 134 4 v (ts.length + 1) (pcells ts ++ endC s.length) ∧ Below w.heap.size w w' := by
  refine (scan7 s w hE hl).mono fun e w' hT => ?_
  obtain ⟨_, h2, h3⟩ := hT
  rw [h] at h2
  obtain ⟨v, he, ho⟩ := h2 rfl
  exact ⟨v, he, ho, h3⟩

theorem scan_bad (s : By) (w : World) (p : Nat) (hE : Env w) (hl : s.length ≤ 120) (h : (toksOf s).2 = some p) :
    Calls Tryz.prog 42 #[.string ⟨s.toArray⟩] w fun e w' => e = .returned (.tuple #[.slice none 0 0, .int .i64 2, .int .i64 (p : Int)]) ∧ Below w.heap.size w w' :=
  (scan7 s w hE hl).mono fun _ _ hT => ⟨hT.1 p h, hT.2.2⟩

/-- What Plain must answer. -/
def Ans (s a : By) (err : Int) (at_ : Nat) : Prop :=
  (120 < s.length ∧ a = [] ∧ err = 1 ∧ at_ = 0) ∨
  (s.length ≤ 120 ∧ ∃ p, (toksOf s).2 = some p ∧ a = [] ∧ err = 2 ∧ at_ = p) ∨
  (s.length ≤ 120 ∧ ∃ ts er p n0, toksOf s = (ts, none) ∧ n0 ≤ 1000000 ∧ runB s.length n0 [symB 82 0] ts = some (er, p) ∧
    ((er ≠ 0 ∧ a = [] ∧ err = er ∧ at_ = p) ∨ (er = 0 ∧ p = 0 ∧ 100 < (toldTo ts ts.length).length ∧ a = [] ∧ err = 7 ∧ at_ = 0) ∨
     (er = 0 ∧ p = 0 ∧ ¬ 100 < (toldTo ts ts.length).length ∧ a = toldTo ts ts.length ∧ err = 0 ∧ at_ = 0)))

theorem ref6 (s a : By) (err : Int) (at_ : Nat) (w : World) (h : Ans s a err at_) : Calls Tryz.prog 80 #[.string ⟨s.toArray⟩] w (PlainPost w a err at_) := by
  rcases h with ⟨h, rfl, rfl, rfl⟩ | ⟨hl, p, hp, rfl, rfl, rfl⟩ | ⟨hl, ts, er, p, n0, hts, hn0, hrun, h⟩
  · exact refLong s w h
  · exact refTok s w _ hl hp
  · rcases h with ⟨he, rfl, rfl, rfl⟩ | ⟨rfl, rfl, hb, rfl, rfl, rfl⟩ | ⟨rfl, rfl, hb, rfl, rfl, rfl⟩
    · exact refRun s w ts hl hts n0 hn0 _ _ hrun he
    · have := refOk s w ts hl hts n0 hn0 hrun
      rw [if_pos hb] at this
      exact this
    · have := refOk s w ts hl hts n0 hn0 hrun
      rw [if_neg hb] at this
      exact this

/-- Plain's post, the answer some. -/
def APost (s : By) (w : World) (e : Ending) (w' : World) : Prop :=
  ∃ a err at_, Ans s a err at_ ∧ e = .returned (.tuple #[.string ⟨a.toArray⟩, .int .i64 err, .int .i64 ((at_ : Nat) : Int)]) ∧ Below w.heap.size w w'

set_option maxHeartbeats 1000000 in
theorem plain_long (s : By) (w : World) (h : 120 < s.length) : Calls Tryz.prog 17 #[.string ⟨s.toArray⟩] w (APost s w) := by
  have H := toHid (scan_long s w h)
  have HA := toHid (show Ans s [] 1 0 from Or.inl ⟨h, rfl, rfl, rfl⟩)
  go_enter Tryz.func17, Tryz.ntmps17
  go_wp2_with (first | (go_at_call 42; refine H.out.mono ?_; rintro e w' ⟨rfl, rfl⟩))
  go_ret3
  exact ⟨[], 1, 0, HA.out, rfl, Below.refl _ _⟩

set_option maxHeartbeats 1000000 in
theorem plain_bad (s : By) (w : World) (p : Nat) (hE : Env w) (hl : s.length ≤ 120) (h : (toksOf s).2 = some p) : Calls Tryz.prog 17 #[.string ⟨s.toArray⟩] w (APost s w) := by
  have H := toHid (scan_bad s w p hE hl h)
  have HA := toHid (show Ans s [] 2 p from Or.inr (Or.inl ⟨hl, p, h, rfl, rfl, rfl⟩))
  clear h
  go_enter Tryz.func17, Tryz.ntmps17
  go_wp2_with (first | (go_at_call 42; refine H.out.mono ?_; rintro e w' ⟨rfl, hb⟩))
  go_ret3
  exact ⟨[], 2, p, HA.out, rfl, hb⟩

set_option maxRecDepth 100000 in
set_option maxHeartbeats 4000000 in
theorem plain_run (s : By) (w : World) (ts : List (By × Nat)) (hE : Env w) (hl : s.length ≤ 120) (h : toksOf s = (ts, none)) : Calls Tryz.prog 17 #[.string ⟨s.toArray⟩] w (APost s w) := by
  have htk : toks s.length s 0 = (ts, none) := h
  have hN : ts.length ≤ s.length := by have := toks_length s.length s 0; rw [htk] at this; exact this
  have hok : OkT ts := fun t p hm => by
    have h' : (t, p) ∈ (toks s.length s 0).1 := by rw [htk]; exact hm
    exact ⟨⟨toks_ok _ _ _ t p h', toks_good _ _ _ t p h'⟩, toks_allD _ _ _ t p h'⟩
  have hlen : ∀ t p, (t, p) ∈ ts → t.length ≤ 19 := fun t p hm => by
    have h' : (t, p) ∈ (toks s.length s 0).1 := by rw [htk]; exact hm
    exact toks_len19 _ _ _ t p h'
  have H := toHid (scan_ok s w ts hE hl h)
  have HSZ := toHid (toldTo_len ts hlen ts.length)
  have HOK := toHid hok
  have HLEN := toHid hlen
  have HE := toHid hE
  have HT := toHid h
  have hsz := hE.size
  have hAns := toHid (fun er p n0 (hn0 : n0 ≤ 1000000) (hrun : runB s.length n0 [symB 82 0] ts = some (er, p)) (a : By) (err : Int) (at_ : Nat) hh => (Or.inr (Or.inr ⟨hl, ts, er, p, n0, h, hn0, hrun, hh⟩) : Ans s a err at_))
  clear h htk hok hlen hE
  go_enter Tryz.func17, Tryz.ntmps17
  go_wp2_with (first | (go_at_call 42; refine H.out.mono ?_; rintro e w1 ⟨v, rfl, hown, hb1⟩; refine Hid.out ?_))
  have HR := toHid (read8 s ts v w.heap.size w1 (HE.out.next hb1) hsz HOK.out (by omega) HLEN.out hown)
  have HB1 := toHid hb1
  have HE1 := toHid (HE.out.next hb1)
  have hs1 := hb1.size
  clear hown hb1
  refine toHid ?_
  go_wp2_with (first | (go_at_call 43; refine HR.out.mono ?_; rintro e w2 ⟨hb2, (⟨p, a, l, c, n0, rfl, hp, hD, hsp, hbig, hn0, hrun⟩ | ⟨n0, rfl, hbig, hn0, hrun⟩ | ⟨er, p, n0, rfl, her, hn0, hrun⟩)⟩ <;> refine Hid.out ?_))
  · have HA := toHid (show Ans s (toldTo ts ts.length) 0 0 from hAns.out 0 0 n0 hn0 hrun (toldTo ts ts.length) 0 0 (Or.inr (Or.inr ⟨rfl, rfl, hbig, rfl, rfl, rfl⟩)))
    have HB2 := toHid (HB1.out.trans (hb2.mono hs1))
    have hs2 := hb2.size
    have hb3 : Below w2.heap.size w2 (w2.alloc (.cells #[.int .i64 (p.k : Int), .string ⟨p.nm.toArray⟩, .int .i64 (p.n : Int), .slice a l c] 89)) := (Below.refl _ _).alloc (Nat.le_refl _) _
    have HPL := toHid (rulePlain9 p a l c _ (hp.next fun q hq => hb3.block q hq.2) (fun q hq => Nat.lt_of_lt_of_le hq.2 hb3.size) ((HE1.out.next hb2).next hb3) (hD.good HOK.out) (by rw [hsp]; have := HSZ.out; omega))
    rw [hsp] at HPL
    clear hp hD hsp hbig hrun hb2 hb3
    refine toHid ?_
    go_wp2_with (first | (go_at_call 44; refine HPL.out.mono ?_; rintro e w3 ⟨rfl, hb3⟩))
    go_ret3
    exact ⟨_, 0, 0, HA.out, rfl, (HB2.out.alloc (by omega) _).trans (hb3.mono (by simp; omega))⟩
  · have HA := toHid (show Ans s [] 7 0 from hAns.out 0 0 n0 hn0 hrun [] 7 0 (Or.inr (Or.inl ⟨rfl, rfl, hbig, rfl, rfl, rfl⟩)))
    have HB2 := toHid (HB1.out.trans (hb2.mono hs1))
    have hs2 := hb2.size
    clear hbig hrun hb2
    refine toHid ?_
    go_wp2
    go_ret3
    exact ⟨[], 7, 0, HA.out, rfl, HB2.out.alloc (by omega) _⟩
  · have HA := toHid (show Ans s [] er p from hAns.out er p n0 hn0 hrun [] er p (Or.inl ⟨her, rfl, rfl, rfl⟩))
    have HB2 := toHid (HB1.out.trans (hb2.mono hs1))
    have hs2 := hb2.size
    have heb : (er == 0) = false := beq_eq_false_iff_ne.2 her
    have heb2 : (er != 0) = true := by simp [her]
    clear hrun hb2 her
    refine toHid ?_
    go_wp2
    go_ret3
    exact ⟨[], er, p, HA.out, rfl, HB2.out.alloc (by omega) _⟩

theorem plain5 (s : By) (w : World) (hE : Env w) : Calls Tryz.prog 17 #[.string ⟨s.toArray⟩] w (APost s w) := by
  by_cases hl : s.length ≤ 120
  · cases h : (toksOf s).2 with
    | none => exact plain_run s w (toksOf s).1 hE hl (by rw [← h])
    | some p => exact plain_bad s w p hE hl h
  · exact plain_long s w (by omega)

set_option maxHeartbeats 1000000 in
theorem plain4 (s : By) (w : World) (hE : Env w) : Calls Tryz.prog 55 #[.string ⟨s.toArray⟩] w fun e w' => e = .returned (.bool true) ∧ Below w.heap.size w w' := by
  have H := toHid (plain5 s w hE)
  have HE := toHid hE
  clear hE
  go_enter Tryz.func55, Tryz.ntmps55
  go_wp2_with (first | (go_at_call 17; refine H.out.mono ?_; rintro e w1 ⟨a, err, at_, hA, rfl, hb1⟩; refine Hid.out ?_))
  have HA := toHid hA
  clear hA
  refine toHid ?_
  go_wp2_with (first | (go_at_call 80; refine (ref6 s a err at_ _ HA.out).mono ?_; rintro e w2 ⟨rfl, hb2⟩))
  go_ret
  exact ⟨rfl, hb1.trans (hb2.mono hb1.size)⟩
end Go.Proofs.YtihgojcfpnhelaaGreatDoor
