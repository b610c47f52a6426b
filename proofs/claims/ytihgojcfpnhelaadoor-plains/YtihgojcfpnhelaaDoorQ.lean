import Derived.Test.YtihgojcfpnhelaaDoorO
import Derived.Test.YtihgojcfpnhelaaDoorC
namespace Go.Proofs.YtihgojcfpnhelaaDoor
open Go.RowKit
attribute [local go_sem] idx_eq app_eq

set_option maxHeartbeats 1000000 in
theorem word_long (c : UInt8) (r : By) (w : World) (hl : r.length ≤ 1000) (hlen : 6 < r.length + 1) :
    Calls Tryd.prog 27 #[.string ⟨(c :: r).toArray⟩] w (TkPost w 0 [] 0 false) := by
  go_enter Tryd.func27, Tryd.ntmps27
  go_wp2
  exact bodyPost_ret (v := .tuple #[.agg #[.int .i64 0, .int .i64 0, .string ⟨#[]⟩, .int .i64 0], .bool false]) (by simp [results, Tryd.results27, go_sem]) rfl ⟨rfl, (Below.refl _ _).alloc (Nat.le_refl _) _⟩

set_option maxHeartbeats 1000000 in
theorem word_mean (c : UInt8) (r : By) (w : World) (hE : Env w) (hl : ¬ 6 < r.length + 1) (k : Int) (hm : meanB (c :: r) = some k) :
    Calls Tryd.prog 27 #[.string ⟨(c :: r).toArray⟩] w (TkPost w k [] 0 true) := by
  have HE := toHid hE
  have HM := toHid hm
  clear hE hm
  go_enter Tryd.func27, Tryd.ntmps27
  go_wp2_with (first | (go_at_call 28; refine (meaning28 (c :: r) _ (HE.out.next ((Below.refl _ _).alloc (Nat.le_refl _) _))).mono ?_; rw [HM.out]; rintro e w1 ⟨rfl, hb1⟩; refine Hid.out ?_))
  refine toHid ?_
  obtain ⟨hc, hf⟩ := bcell hb1
  have hz : w.heap.size < w1.heap.size := by have := hb1.size; simp at this; omega
  go_wp2
  exact bodyPost_ret (v := .tuple #[.agg #[.int .i64 k, .int .i64 0, .string ⟨#[]⟩, .int .i64 0], .bool true]) (by simp [results, Tryd.results27, go_sem, hc]) rfl ⟨rfl, ((((((Below.refl _ _).alloc (Nat.le_refl _) _).trans (hb1.mono (by simp))).setCell (Nat.le_refl _) _).setCell (Nat.le_refl _) _).setCell (Nat.le_refl _) _).setCell (Nat.le_refl _) _⟩

theorem clone42 (s : By) (w : World) (hl : s.length ≤ 1000) :
    Calls Tryd.prog 42 #[.string ⟨s.toArray⟩] w fun e w' => e = .returned (.string ⟨s.toArray⟩) ∧ Below w.heap.size w w' := by
  have H := toHid (fun w => Go.Proofs.Any.stringslite_Clone Tryd.laysM316 ⟨s.toArray⟩ w (by show s.length ≤ 281474976710656; omega))
  go_enter Tryd.func42, Tryd.ntmps42
  go_wp2_with (first | (go_at_call 53; refine (H.out _).mono ?_; rintro e w1 ⟨rfl, hb1⟩))
  go_ret
  exact ⟨rfl, hb1⟩

set_option maxHeartbeats 1000000 in
theorem word_name (c : UInt8) (r : By) (w : World) (hE : Env w) (hl : ¬ 6 < r.length + 1) (hm : meanB (c :: r) = none) :
    Calls Tryd.prog 27 #[.string ⟨(c :: r).toArray⟩] w (TkPost w 2 (c :: r) 0 true) := by
  have HE := toHid hE
  have HM := toHid hm
  have HL := toHid (show (c :: r).length ≤ 1000 by simp; omega)
  clear hE hm
  go_enter Tryd.func27, Tryd.ntmps27
  go_wp2_with (first | (go_at_call 28; refine (meaning28 (c :: r) _ (HE.out.next ((Below.refl _ _).alloc (Nat.le_refl _) _))).mono ?_; rw [HM.out]; rintro e w1 ⟨rfl, hb1⟩; refine Hid.out ?_))
  refine toHid ?_
  go_wp2_with (first | (go_at_call 42; refine (clone42 (c :: r) _ HL.out).mono ?_; rintro e w2 ⟨rfl, hb2⟩; refine Hid.out ?_))
  refine toHid ?_
  have hb12 := hb1.trans (hb2.mono hb1.size)
  obtain ⟨hc, hf⟩ := bcell hb12
  have hz : w.heap.size < w2.heap.size := by have := hb12.size; simp at this; omega
  go_wp2
  exact bodyPost_ret (v := .tuple #[.agg #[.int .i64 2, .int .i64 0, .string ⟨(c :: r).toArray⟩, .int .i64 0], .bool true]) (by simp [results, Tryd.results27, go_sem, hc]) rfl ⟨rfl, ((((((Below.refl _ _).alloc (Nat.le_refl _) _).trans (hb12.mono (by simp))).setCell (Nat.le_refl _) _).setCell (Nat.le_refl _) _).setCell (Nat.le_refl _) _).setCell (Nat.le_refl _) _⟩

/-- The token that a row is. -/
def nmB (t : By) : By := if headD t then [] else textB t
def nuB (t : By) : Nat := if headD t then valD t else 0
def tokP (row : By) : Int × By × Nat × Bool := if tokOK row then (kindB row, nmB row, nuB row, true) else (0, [], 0, false)

theorem sign_mean (c : UInt8) (r : By) (hL : isL c = false) : (meanB (c :: r)).isSome = inB (c :: r) signW := by
  by_cases h : inB (c :: r) signW = true
  · rw [h]
    simp only [inB, signW, List.contains_iff_mem, List.mem_cons, List.not_mem_nil, or_false] at h
    rcases h with h | h | h | h | h | h | h | h | h | h <;> rw [h] <;> decide
  · have h' : inB (c :: r) signW = false := by simpa using h
    rw [h']
    have : meanB (c :: r) = none := by
      apply meanIn_none
      intro j hj he
      have hmem : (meanW[j]) ∈ meanW := List.getElem_mem hj
      have key : ∀ x, x ∈ meanW → x.1 = c :: r → False := by
        intro x hx hxe
        simp only [meanW, List.mem_cons, List.not_mem_nil, or_false] at hx
        have hcl : ∀ d s, d :: s = c :: r → isL d = true → False := by
          intro d s h1 h2
          simp at h1
          rw [h1.1, hL] at h2
          cases h2
        have hcs : ∀ s, s = c :: r → s ∈ signW → False := by
          intro s h1 h2
          apply h
          rw [← h1]
          simpa [inB] using h2
        rcases hx with rfl | rfl | rfl | rfl | rfl | rfl | rfl | rfl | rfl | rfl | rfl | rfl | rfl | rfl | rfl | rfl
        · exact hcl _ _ hxe (by decide)
        · exact hcl _ _ hxe (by decide)
        · exact hcl _ _ hxe (by decide)
        · exact hcl _ _ hxe (by decide)
        · exact hcl _ _ hxe (by decide)
        · exact hcl _ _ hxe (by decide)
        all_goals exact hcs _ hxe (by decide)
      exact key _ hmem he
    rw [this]
    rfl

set_option maxHeartbeats 1000000 in
theorem from_D (c : UInt8) (r : By) (w : World) (k : Int) (x : By) (nn : Int) (ok : Bool) (hD : isD c = true) (hN : ∀ w', Below w.heap.size w w' → Calls Tryd.prog 26 #[.string ⟨(c :: r).toArray⟩] w' (TkPost w' k x nn ok)) :
    Calls Tryd.prog 13 #[.string ⟨(c :: r).toArray⟩] w (TkPost w k x nn ok) := by
  have hD' : digB (c.toNat : Int) = true := hD
  have HN := toHid hN
  clear hN hD
  go_enter Tryd.func13, Tryd.ntmps13
  go_wp2_with (first | (go_at_call 23; refine (isDigit23 (c.toNat : Int) _).mono ?_; rintro e w' ⟨rfl, rfl⟩) | (go_at_call 26; refine (HN.out _ ((Below.refl _ _).alloc (Nat.le_refl _) _)).mono ?_; rintro e w1 ⟨rfl, hb1⟩; refine Hid.out ?_))
  refine toHid ?_
  obtain ⟨hc, hf⟩ := bcell hb1
  have hz : w.heap.size < w1.heap.size := by have := hb1.size; simp at this; omega
  go_wp2
  exact bodyPost_ret (v := .tuple #[.agg #[.int .i64 k, .int .i64 0, .string ⟨x.toArray⟩, .int .i64 nn], .bool ok]) (by simp [results, Tryd.results13, go_sem, hc]) rfl ⟨rfl, ((((((Below.refl _ _).alloc (Nat.le_refl _) _).trans (hb1.mono (by simp))).setCell (Nat.le_refl _) _).setCell (Nat.le_refl _) _).setCell (Nat.le_refl _) _).setCell (Nat.le_refl _) _⟩

set_option maxHeartbeats 1000000 in
theorem from_L (c : UInt8) (r : By) (w : World) (k : Int) (x : By) (nn : Int) (ok : Bool) (hD : isD c = false) (hL : isL c = true) (hN : ∀ w', Below w.heap.size w w' → Calls Tryd.prog 27 #[.string ⟨(c :: r).toArray⟩] w' (TkPost w' k x nn ok)) :
    Calls Tryd.prog 13 #[.string ⟨(c :: r).toArray⟩] w (TkPost w k x nn ok) := by
  have hD' : digB (c.toNat : Int) = false := hD
  have hL' : letB (c.toNat : Int) = true := hL
  have HN := toHid hN
  clear hN hD hL
  go_enter Tryd.func13, Tryd.ntmps13
  go_wp2_with (first | (go_at_call 23; refine (isDigit23 (c.toNat : Int) _).mono ?_; rintro e w' ⟨rfl, rfl⟩) | (go_at_call 24; refine (isLetter24 (c.toNat : Int) _).mono ?_; rintro e w' ⟨rfl, rfl⟩) | (go_at_call 27; refine (HN.out _ ((Below.refl _ _).alloc (Nat.le_refl _) _)).mono ?_; rintro e w1 ⟨rfl, hb1⟩; refine Hid.out ?_))
  refine toHid ?_
  obtain ⟨hc, hf⟩ := bcell hb1
  have hz : w.heap.size < w1.heap.size := by have := hb1.size; simp at this; omega
  go_wp2
  exact bodyPost_ret (v := .tuple #[.agg #[.int .i64 k, .int .i64 0, .string ⟨x.toArray⟩, .int .i64 nn], .bool ok]) (by simp [results, Tryd.results13, go_sem, hc]) rfl ⟨rfl, ((((((Below.refl _ _).alloc (Nat.le_refl _) _).trans (hb1.mono (by simp))).setCell (Nat.le_refl _) _).setCell (Nat.le_refl _) _).setCell (Nat.le_refl _) _).setCell (Nat.le_refl _) _⟩

set_option maxHeartbeats 1000000 in
theorem from_N (c : UInt8) (r : By) (w : World) (hE : Env w) (hD : isD c = false) (hL : isL c = false) :
    Calls Tryd.prog 13 #[.string ⟨(c :: r).toArray⟩] w (TkPost w ((meanB (c :: r)).getD 0) [] 0 (meanB (c :: r)).isSome) := by
  have hD' : digB (c.toNat : Int) = false := hD
  have hL' : letB (c.toNat : Int) = false := hL
  have HE := toHid hE
  clear hE hD hL
  generalize hk : (meanB (c :: r)).getD 0 = k
  generalize hb : (meanB (c :: r)).isSome = b
  have HK := toHid hk
  have HB := toHid hb
  clear hk hb
  go_enter Tryd.func13, Tryd.ntmps13
  go_wp2_with (first | (go_at_call 23; refine (isDigit23 (c.toNat : Int) _).mono ?_; rintro e w' ⟨rfl, rfl⟩) | (go_at_call 24; refine (isLetter24 (c.toNat : Int) _).mono ?_; rintro e w' ⟨rfl, rfl⟩) | (go_at_call 28; refine (meaning28 (c :: r) _ (HE.out.next ((Below.refl _ _).alloc (Nat.le_refl _) _))).mono ?_; rw [HK.out, HB.out]; rintro e w1 ⟨rfl, hb1⟩; refine Hid.out ?_))
  refine toHid ?_
  obtain ⟨hc, hf⟩ := bcell hb1
  have hz : w.heap.size < w1.heap.size := by have := hb1.size; simp at this; omega
  go_wp2
  exact bodyPost_ret (v := .tuple #[.agg #[.int .i64 k, .int .i64 0, .string ⟨#[]⟩, .int .i64 0], .bool b]) (by simp [results, Tryd.results13, go_sem, hc]) rfl ⟨rfl, ((((((Below.refl _ _).alloc (Nat.le_refl _) _).trans (hb1.mono (by simp))).setCell (Nat.le_refl _) _).setCell (Nat.le_refl _) _).setCell (Nat.le_refl _) _).setCell (Nat.le_refl _) _⟩

theorem nmB_no (c : UInt8) (r : By) (h : isD c = false) : nmB (c :: r) = textB (c :: r) ∧ nuB (c :: r) = 0 := by
  have hh : headD (c :: r) = false := h
  unfold nmB nuB
  rw [hh]
  exact ⟨rfl, rfl⟩

theorem fromRow13 (c : UInt8) (r : By) (w : World) (hE : Env w) (hl : r.length ≤ 1000) (hA : isD c = true → AllD (c :: r)) :
    Calls Tryd.prog 13 #[.string ⟨(c :: r).toArray⟩] w (TkPost w (tokP (c :: r)).1 (tokP (c :: r)).2.1 ((tokP (c :: r)).2.2.1 : Int) (tokP (c :: r)).2.2.2) := by
  have hh : headD (c :: r) = isD c := rfl
  have hh2 : headL (c :: r) = isL c := rfl
  cases hD : isD c
  · cases hL : isL c
    · have h := from_N c r w hE hD hL
      rw [sign_mean c r hL] at h
      unfold tokP tokOK
      rw [hh, hh2, hD, hL]
      simp only [Bool.false_eq_true, if_false]
      cases hin : inB (c :: r) signW
      · have hn : meanB (c :: r) = none := by
          have := sign_mean c r hL
          rw [hin] at this
          simpa using this
        rw [hn, hin] at h
        exact h
      · have hs := sign_mean c r hL
        rw [hin] at hs
        obtain ⟨k, hk⟩ := Option.isSome_iff_exists.1 hs
        rw [hk, hin] at h
        have e1 : kindB (c :: r) = k := by unfold kindB; rw [hh, hD, hk]; rfl
        have e2 : textB (c :: r) = [] := by unfold textB; rw [hh, hD, hk]; rfl
        simp only [if_true]
        rw [e1, (nmB_no c r hD).1, (nmB_no c r hD).2, e2]
        exact h
    · unfold tokP tokOK
      rw [hh, hh2, hD, hL]
      simp only [Bool.false_eq_true, if_false, if_true, List.length_cons]
      by_cases h6 : 6 < r.length + 1
      · rw [if_neg (by simp; omega)]
        exact from_L c r w 0 [] 0 false hD hL fun w' _ => word_long c r w' hl h6
      · rw [if_pos (by simp; omega)]
        cases hm : meanB (c :: r) with
        | none =>
          have e1 : kindB (c :: r) = 2 := by unfold kindB; rw [hh, hD, hm]; rfl
          have e2 : textB (c :: r) = c :: r := by unfold textB; rw [hh, hD, hm]; rfl
          simp only
          rw [e1, (nmB_no c r hD).1, (nmB_no c r hD).2, e2]
          exact from_L c r w 2 (c :: r) 0 true hD hL fun w' hb => word_name c r w' (hE.next hb) h6 hm
        | some k =>
          have e1 : kindB (c :: r) = k := by unfold kindB; rw [hh, hD, hm]; rfl
          have e2 : textB (c :: r) = [] := by unfold textB; rw [hh, hD, hm]; rfl
          simp only
          rw [e1, (nmB_no c r hD).1, (nmB_no c r hD).2, e2]
          exact from_L c r w k [] 0 true hD hL fun w' hb => word_mean c r w' (hE.next hb) h6 k hm
  · unfold tokP tokOK
    rw [hh, hD]
    simp only [if_true, List.length_cons, Bool.and_eq_true, decide_eq_true_eq]
    by_cases hv : valD (c :: r) ≤ top63
    · by_cases h19 : 19 < r.length + 1
      · rw [if_neg (by omega)]
        exact from_D c r w 0 [] 0 false hD fun w' _ => number_long c r w' hl (hA hD) hv h19
      · rw [if_pos ⟨by omega, hv⟩]
        have e1 : kindB (c :: r) = 1 := by unfold kindB; rw [hh, hD]; rfl
        have e2 : nmB (c :: r) = [] := by unfold nmB; rw [hh, hD]; rfl
        have e3 : nuB (c :: r) = valD (c :: r) := by unfold nuB; rw [hh, hD]; rfl
        simp only
        rw [e1, e2, e3]
        exact from_D c r w 1 _ _ true hD fun w' _ => number_ok c r w' hl (hA hD) hv h19
    · rw [if_neg (by intro h; exact hv h.2)]
      exact from_D c r w 0 [] 0 false hD fun w' hb => number_range c r w' (hE.next hb) hl (hA hD) hv
end Go.Proofs.YtihgojcfpnhelaaDoor
