import Derived.Test.YtihgojcfpnhelaaDoorN
namespace Go.Proofs.YtihgojcfpnhelaaDoor
open Go.RowKit

def AllD (l : By) : Prop := ∀ x, x ∈ l → isD x = true

def stepD (n : Nat) (c : UInt8) : Nat := 10 * n + (c.toNat - 48)

theorem valD_eq (l : By) : valD l = l.foldl stepD 0 := rfl

theorem fold_ge (l : By) (a : Nat) : a ≤ l.foldl stepD a := by
  induction l generalizing a with
  | nil => simp
  | cons c l ih =>
    rw [List.foldl_cons]
    exact Nat.le_trans (by unfold stepD; omega) (ih (stepD a c))

theorem parseM (l : By) (a M : Nat) (hM : M = 18446744073709551615) (hD : AllD l) (ha : a ≤ M) :
    Lib.parseUintM M a l = if l.foldl stepD a ≤ M then .ok (l.foldl stepD a) else .range := by
  induction l generalizing a with
  | nil => simp [Lib.parseUintM, ha]
  | cons c l ih =>
    have hc := isD_range (hD c (by simp))
    have hl : AllD l := fun x hx => hD x (by simp [hx])
    rw [List.foldl_cons]
    unfold Lib.parseUintM
    rw [if_pos hc]
    have hs : stepD a c = a * 10 + (c.toNat - 48) := by unfold stepD; omega
    have hge := fold_ge l (stepD a c)
    by_cases h1 : 1844674407370955162 ≤ a
    · rw [if_pos h1, if_neg (by omega)]
    · rw [if_neg h1]
      by_cases h2 : M < a * 10 + (c.toNat - 48)
      · rw [if_pos h2, if_neg (by omega)]
      · rw [if_neg h2, ← hs]
        exact ih _ hl (by omega)

theorem parse64 (c : UInt8) (r : By) (hD : AllD (c :: r)) :
    Lib.parseIntB 64 (c :: r) = if valD (c :: r) ≤ top63 then .ok (valD (c :: r) : Int) else .range := by
  have hc := isD_range (hD c (by simp))
  rw [Lib.parseIntB_plain 64 c r (by omega) (by omega)]
  unfold Lib.parseUintB
  rw [if_neg (by simp), parseM (c :: r) 0 (2 ^ 64 - 1) (by decide +kernel) hD (by omega), ← valD_eq]
  have e1 : (2 : Nat) ^ 64 - 1 = 18446744073709551615 := by decide +kernel
  have e2 : (2 : Nat) ^ (64 - 1) = 9223372036854775808 := by decide +kernel
  rw [e1, e2]
  unfold top63
  by_cases h : valD (c :: r) ≤ 18446744073709551615
  · rw [if_pos h]
    unfold Lib.signlessC
    by_cases h2 : 9223372036854775808 ≤ valD (c :: r)
    · simp only [if_pos h2]
      rw [if_neg (by omega)]
    · simp only [if_neg h2]
      rw [if_pos (by omega)]
  · rw [if_neg h, if_neg (by omega)]
    rfl

theorem digit_back {c : UInt8} (h : isD c = true) : UInt8.ofNat (48 + (c.toNat - 48)) = c := by
  have := isD_range h
  rw [show 48 + (c.toNat - 48) = c.toNat by omega]
  simp

theorem fold_snoc (l : By) (x : UInt8) (a : Nat) : (l ++ [x]).foldl stepD a = 10 * l.foldl stepD a + (x.toNat - 48) := by
  simp [stepD]

theorem dec_plain (n : Nat) : ∀ (c : UInt8) (r : By), r.length = n → AllD (c :: r) → c ≠ 48 → Lib.decDigits (valD (c :: r)) = c :: r := by
  induction n with
  | zero =>
    intro c r hr hD hc
    obtain rfl := List.length_eq_zero_iff.1 hr
    have h := isD_range (hD c (by simp))
    rw [valD_eq]
    show Lib.decDigits (stepD 0 c) = [c]
    rw [Lib.decDigits_one (by unfold stepD; omega), show stepD 0 c = c.toNat - 48 by unfold stepD; omega, digit_back (hD c (by simp))]
  | succ n ih =>
    intro c r hr hD hc
    have hne : r ≠ [] := by intro h; rw [h] at hr; simp at hr
    obtain ⟨r', x, rfl⟩ : ∃ r' x, r = r' ++ [x] := ⟨r.dropLast, r.getLast hne, (List.dropLast_concat_getLast hne).symm⟩
    have hr' : r'.length = n := by simpa using hr
    have hD' : AllD (c :: r') := fun y hy => hD y (by simp at hy ⊢; rcases hy with h | h <;> simp [h])
    have hx := hD x (by simp)
    have hxr := isD_range hx
    have ihh := ih c r' hr' hD' hc
    have hval : valD (c :: (r' ++ [x])) = 10 * valD (c :: r') + (x.toNat - 48) := by
      rw [valD_eq, valD_eq, ← List.cons_append, fold_snoc]
    have hpos : 1 ≤ valD (c :: r') := by
      rw [valD_eq, List.foldl_cons]
      refine Nat.le_trans ?_ (fold_ge r' (stepD 0 c))
      have hc2 := isD_range (hD c (by simp))
      have : c.toNat ≠ 48 := by
        intro h
        apply hc
        apply UInt8.toNat_inj.1
        simpa using h
      unfold stepD
      omega
    rw [hval, Lib.decDigits, dif_neg (by omega), show (10 * valD (c :: r') + (x.toNat - 48)) / 10 = valD (c :: r') by omega, show (10 * valD (c :: r') + (x.toNat - 48)) % 10 = x.toNat - 48 by omega, ihh, digit_back hx]
    rfl

theorem dec_short (l : By) (hne : l ≠ []) (hD : AllD l) : Lib.decDigits (valD l) = shortB l := by
  induction l with
  | nil => exact absurd rfl hne
  | cons c r ih =>
    match r, ih, hD with
    | [], _, hD =>
      have h := isD_range (hD c (by simp))
      show Lib.decDigits (stepD 0 c) = [c]
      rw [Lib.decDigits_one (by unfold stepD; omega), show stepD 0 c = c.toNat - 48 by unfold stepD; omega, digit_back (hD c (by simp))]
    | d :: r, ih, hD =>
      by_cases hc : c = 48
      · subst hc
        have hv : valD (48 :: d :: r) = valD (d :: r) := rfl
        have hs : shortB (48 :: d :: r) = shortB (d :: r) := by
          have := hD d (by simp)
          simp [shortB, this]
        rw [hv, hs]
        exact ih (by simp) fun x hx => hD x (by simp at hx ⊢; rcases hx with h | h <;> simp [h])
      · have hs : shortB (c :: d :: r) = c :: d :: r := by simp [shortB, hc]
        rw [hs]
        exact dec_plain _ c (d :: r) rfl hD hc

theorem parse_ok (c : UInt8) (r : By) (w : World) (hl : r.length ≤ 1000) (hD : AllD (c :: r)) (hv : valD (c :: r) ≤ top63) :
    Calls Tryd.prog 41 #[.string ⟨(c :: r).toArray⟩, .int .i64 10, .int .i64 64] w fun e w' => e = .returned (.tuple #[.int .i64 (valD (c :: r) : Int), .nilIface]) ∧ Below w.heap.size w w' :=
  (Tryd.strconv_ParseInt_10_at64_ok ⟨(c :: r).toArray⟩ (by show (c :: r).length ≤ 9223372036854775806; simp; omega) (valD (c :: r) : Int) ((parse64 c r hD).trans (if_pos hv)) w).mono fun e w' h => ⟨h.1, by
    rcases h.2 with rfl | ⟨t, rfl⟩
    · exact Below.refl _ _
    · exact Lib.bytesWorld_below _ _ _⟩

theorem parse_range (c : UInt8) (r : By) (w : World) (hE : Env w) (hl : r.length ≤ 1000) (hD : AllD (c :: r)) (hv : ¬ valD (c :: r) ≤ top63) :
    Calls Tryd.prog 41 #[.string ⟨(c :: r).toArray⟩, .int .i64 10, .int .i64 64] w fun e w' => ∃ z N, e = .returned (.tuple #[.int .i64 z, .iface 102 (.pointer (some ⟨N, 0, none⟩))]) ∧ Below w.heap.size w w' := by
  obtain ⟨tp, p, hvar⟩ := hE.range
  exact (Tryd.strconv_ParseInt_10_at64_range_var ⟨(c :: r).toArray⟩ (by show (c :: r).length ≤ 281474976710656; simp; omega) ((parse64 c r hD).trans (if_neg hv)) tp p w hvar).mono fun e w' h => by
    obtain ⟨N, he, _, _, hb⟩ := h
    exact ⟨_, N, he, hb⟩

theorem below_growN (w : World) (k : Nat) (os : Array Obj) : Below w.heap.size w (Sort.grow (w.drewN k) os) := by
  refine ⟨rfl, rfl, rfl, ?_, fun j hj => ?_⟩
  · show w.heap.size ≤ (w.heap ++ os).size
    simp
  · show (w.heap ++ os)[j]? = w.heap[j]?
    rw [Array.getElem?_append_left hj]

theorem format41 (n : Nat) (w : World) (hE : Env w) (hn : n ≤ top63) :
    Calls Tryd.prog 48 #[.int .i64 (n : Int), .int .i64 10] w fun e w' => e = .returned (.string ⟨(Lib.decDigits n).toArray⟩) ∧ Below w.heap.size w w' :=
  (Tryd.strconv_FormatInt_10 (n : Int) (by omega) (by unfold top63 at hn; omega) w hE.pow).mono fun e w' h => by
    obtain ⟨he, k, os, rfl⟩ := h
    rw [Lib.itoa_nonneg] at he
    exact ⟨he, below_growN w k os⟩

theorem bcell {W w1 : World} (hb : Below W.heap.size W w1) : (∀ b o, b < W.heap.size → w1.cell? ⟨b, o, none⟩ = W.cell? ⟨b, o, none⟩) ∧ (∀ b o, b < W.heap.size → w1.frozen? ⟨b, o, none⟩ = W.frozen? ⟨b, o, none⟩) :=
  ⟨fun b o h => hb.cell (p := ⟨b, o, none⟩) h, fun b o h => hb.frozen (p := ⟨b, o, none⟩) h⟩

/-- A token of the program's, and whether it is one. -/
def TkPost (w : World) (k : Int) (x : By) (nn : Int) (ok : Bool) (e : Ending) (w' : World) : Prop :=
  e = .returned (.tuple #[.agg #[.int .i64 k, .int .i64 0, .string ⟨x.toArray⟩, .int .i64 nn], .bool ok]) ∧ Below w.heap.size w w'

set_option maxHeartbeats 1000000 in
theorem number_range (c : UInt8) (r : By) (w : World) (hE : Env w) (hl : r.length ≤ 1000) (hD : AllD (c :: r)) (hv : ¬ valD (c :: r) ≤ top63) :
    Calls Tryd.prog 26 #[.string ⟨(c :: r).toArray⟩] w (TkPost w 0 [] 0 false) := by
  have HD := toHid hD
  have HV := toHid hv
  have HE := toHid hE
  clear hD hv hE
  go_enter Tryd.func26, Tryd.ntmps26
  go_wp2_with (first | (go_at_call 41; refine (parse_range c r _ (HE.out.next ((Below.refl _ _).alloc (Nat.le_refl _) _)) hl HD.out HV.out).mono ?_; rintro e w1 ⟨z, N, rfl, hb1⟩; refine Hid.out ?_))
  refine toHid ?_
  obtain ⟨hc, hf⟩ := bcell hb1
  have hz : w.heap.size < w1.heap.size := by have := hb1.size; simp at this; omega
  go_wp2
  exact bodyPost_ret (v := .tuple #[.agg #[.int .i64 0, .int .i64 0, .string ⟨#[]⟩, .int .i64 0], .bool false]) (by simp [results, Tryd.results26, go_sem, hc]) rfl ⟨rfl, ((((((Below.refl _ _).alloc (Nat.le_refl _) _).trans (hb1.mono (by simp))).setCell (Nat.le_refl _) _).setCell (Nat.le_refl _) _).setCell (Nat.le_refl _) _).setCell (Nat.le_refl _) _⟩

set_option maxHeartbeats 1000000 in
theorem number_long (c : UInt8) (r : By) (w : World) (hl : r.length ≤ 1000) (hD : AllD (c :: r)) (hv : valD (c :: r) ≤ top63) (hlen : 19 < r.length + 1) :
    Calls Tryd.prog 26 #[.string ⟨(c :: r).toArray⟩] w (TkPost w 0 [] 0 false) := by
  have HD := toHid hD
  have HV := toHid hv
  clear hD hv
  go_enter Tryd.func26, Tryd.ntmps26
  go_wp2_with (first | (go_at_call 41; refine (parse_ok c r _ hl HD.out HV.out).mono ?_; rintro e w1 ⟨rfl, hb1⟩; refine Hid.out ?_))
  refine toHid ?_
  obtain ⟨hc, hf⟩ := bcell hb1
  have hz : w.heap.size < w1.heap.size := by have := hb1.size; simp at this; omega
  go_wp2
  exact bodyPost_ret (v := .tuple #[.agg #[.int .i64 0, .int .i64 0, .string ⟨#[]⟩, .int .i64 0], .bool false]) (by simp [results, Tryd.results26, go_sem, hc]) rfl ⟨rfl, ((((((Below.refl _ _).alloc (Nat.le_refl _) _).trans (hb1.mono (by simp))).setCell (Nat.le_refl _) _).setCell (Nat.le_refl _) _).setCell (Nat.le_refl _) _).setCell (Nat.le_refl _) _⟩

set_option maxHeartbeats 1000000 in
theorem number_ok (c : UInt8) (r : By) (w : World) (hl : r.length ≤ 1000) (hD : AllD (c :: r)) (hv : valD (c :: r) ≤ top63) (hlen : ¬ 19 < r.length + 1) :
    Calls Tryd.prog 26 #[.string ⟨(c :: r).toArray⟩] w (TkPost w 1 [] (valD (c :: r) : Int) true) := by
  have HD := toHid hD
  have HV := toHid hv
  clear hD hv
  generalize hV : valD (c :: r) = V at *
  have HVV := toHid hV
  clear hV
  go_enter Tryd.func26, Tryd.ntmps26
  go_wp2_with (first | (go_at_call 41; refine (parse_ok c r _ hl HD.out (HVV.out ▸ HV.out)).mono ?_; rw [HVV.out]; rintro e w1 ⟨rfl, hb1⟩; refine Hid.out ?_))
  refine toHid ?_
  obtain ⟨hc, hf⟩ := bcell hb1
  have hz : w.heap.size < w1.heap.size := by have := hb1.size; simp at this; omega
  go_wp2
  exact bodyPost_ret (v := .tuple #[.agg #[.int .i64 1, .int .i64 0, .string ⟨#[]⟩, .int .i64 (V : Int)], .bool true]) (by simp [results, Tryd.results26, go_sem, hc]) rfl ⟨rfl, ((((((Below.refl _ _).alloc (Nat.le_refl _) _).trans (hb1.mono (by simp))).setCell (Nat.le_refl _) _).setCell (Nat.le_refl _) _).setCell (Nat.le_refl _) _).setCell (Nat.le_refl _) _⟩
end Go.Proofs.YtihgojcfpnhelaaDoor
