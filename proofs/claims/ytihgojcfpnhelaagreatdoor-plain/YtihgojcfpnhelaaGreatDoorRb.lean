import Derived.Test.YtihgojcfpnhelaaGreatDoorMv
import Derived.Test.YtihgojcfpnhelaaGreatDoorSi
set_option linter.unusedVariables false
set_option linter.unusedSimpArgs false
namespace Go.Proofs.YtihgojcfpnhelaaGreatDoor
open Go.RowKit
attribute [local go_sem] idx_eq app_eq

/-- A Reply. -/
def repV (er at_ : Int) (tx : By) (an : Option Addr) (ln cn : Nat) (k n : Int) : Value := .agg #[.int .i64 er, .int .i64 at_, .string ⟨tx.toArray⟩, .slice an ln cn, .int .i64 k, .int .i64 n]

set_option maxRecDepth 100000 in
set_option maxHeartbeats 4000000 in
theorem does_ok (e : Nat) (s : By) (w : World) (Q : World → Prop) (hQ : ∀ w1 w2, Q w1 → Below w1.heap.size w1 w2 → Q w2)
    (hD : Calls Tryz.prog 20 #[.pointer (some ⟨e, 0, none⟩), .string ⟨s.toArray⟩] w fun r w' => (∃ (tx : By) (an : Option Addr) (ln cn : Nat) (k n : Int), r = .returned (.agg #[.int .i64 0, .int .i64 0, .string ⟨tx.toArray⟩, .slice an ln cn, .int .i64 k, .int .i64 n])) ∧ Q w') :
    Calls Tryz.prog 19 #[.pointer (some ⟨e, 0, none⟩), .string ⟨s.toArray⟩] w fun r w' => r = .returned (.bool true) ∧ Q w' := by
  have HD := toHid hD
  clear hD
  go_enter Tryz.func19, Tryz.ntmps19
  go_wp2_with (first | (go_at_call 20; refine HD.out.mono ?_; rintro r w1 ⟨⟨tx, an, ln, cn, k, n, rfl⟩, hq⟩; have HQ := toHid hq; clear hq))
  go_ret
  exact ⟨rfl, hQ _ _ HQ.out ((Below.refl _ _).alloc (Nat.le_refl _) _)⟩

set_option maxRecDepth 100000 in
set_option maxHeartbeats 4000000 in
theorem worth_ok (e : Nat) (s : By) (w : World) (hl : s.length ≤ 100) (Q : World → Prop) (hQ : ∀ w1 w2, Q w1 → Below w1.heap.size w1 w2 → Q w2) (k n : Int)
    (hD : Calls Tryz.prog 20 #[.pointer (some ⟨e, 0, none⟩), .string ⟨(118 :: 97 :: 108 :: 117 :: 101 :: 32 :: s).toArray⟩] w fun r w' => (∃ (er at_ : Int) (tx : By) (an : Option Addr) (ln cn : Nat), r = .returned (.agg #[.int .i64 er, .int .i64 at_, .string ⟨tx.toArray⟩, .slice an ln cn, .int .i64 k, .int .i64 n])) ∧ Q w') :
    Calls Tryz.prog 24 #[.pointer (some ⟨e, 0, none⟩), .string ⟨s.toArray⟩] w fun r w' => r = .returned (.tuple #[.int .i64 k, .int .i64 n]) ∧ Q w' := by
  have HD := toHid hD
  clear hD
  go_enter Tryz.func24, Tryz.ntmps24
  go_wp2_with (first | (go_at_call 20; refine HD.out.mono ?_; rintro r w1 ⟨⟨er, at_, tx, an, ln, cn, rfl⟩, hq⟩; have HQ := toHid hq; clear hq))
  go_region
  all_goals go_wp2
  all_goals go_ret2
  all_goals exact ⟨rfl, hQ _ _ HQ.out ((Below.refl _ _).alloc (Nat.le_refl _) _).drew⟩

set_option maxRecDepth 100000 in
set_option maxHeartbeats 4000000 in
theorem is_ok (e : Nat) (s : By) (w : World) (Q : World → Prop) (n : Int)
    (hD : Calls Tryz.prog 24 #[.pointer (some ⟨e, 0, none⟩), .string ⟨s.toArray⟩] w fun r w' => r = .returned (.tuple #[.int .i64 1, .int .i64 n]) ∧ Q w') :
    Calls Tryz.prog 26 #[.pointer (some ⟨e, 0, none⟩), .string ⟨s.toArray⟩, .int .i64 n] w fun r w' => r = .returned (.bool true) ∧ Q w' := by
  have HD := toHid hD
  have hnb : (n == n) = true := by simp
  clear hD
  go_enter Tryz.func26, Tryz.ntmps26
  go_wp2_with (first | (go_at_call 24; refine HD.out.mono ?_; rintro r w1 ⟨rfl, hq⟩; have HQ := toHid hq; clear hq))
  go_ret
  exact ⟨rfl, HQ.out⟩

set_option maxRecDepth 100000 in
set_option maxHeartbeats 4000000 in
theorem fails_ok (e : Nat) (s : By) (w : World) (Q : World → Prop) (n : Int)
    (hD : Calls Tryz.prog 24 #[.pointer (some ⟨e, 0, none⟩), .string ⟨s.toArray⟩] w fun r w' => r = .returned (.tuple #[.int .i64 3, .int .i64 n]) ∧ Q w') :
    Calls Tryz.prog 29 #[.pointer (some ⟨e, 0, none⟩), .string ⟨s.toArray⟩, .int .i64 n] w fun r w' => r = .returned (.bool true) ∧ Q w' := by
  have HD := toHid hD
  have hnb : (n == n) = true := by simp
  clear hD
  go_enter Tryz.func29, Tryz.ntmps29
  go_wp2_with (first | (go_at_call 24; refine HD.out.mono ?_; rintro r w1 ⟨rfl, hq⟩; have HQ := toHid hq; clear hq))
  go_ret
  exact ⟨rfl, HQ.out⟩

set_option maxRecDepth 100000 in
set_option maxHeartbeats 4000000 in
theorem begin_ok (u : Int) (w : World) (Q : Nat → World → Prop)
    (hN : Calls Tryz.prog 45 #[.int .i64 u] w fun r w' => ∃ e, r = .returned (.tuple #[.pointer (some ⟨e, 0, none⟩), .int .i64 0]) ∧ Q e w') :
    Calls Tryz.prog 18 #[.int .i64 u] w fun r w' => ∃ e, r = .returned (.tuple #[.pointer (some ⟨e, 0, none⟩), .bool true]) ∧ Q e w' := by
  have HN := toHid hN
  clear hN
  go_enter Tryz.func18, Tryz.ntmps18
  go_wp2_with (first | (go_at_call 45; refine HN.out.mono ?_; rintro r w1 ⟨e, rfl, hq⟩; have HQ := toHid hq; clear hq))
  go_ret2
  exact ⟨e, rfl, HQ.out⟩

set_option maxRecDepth 100000 in
set_option maxHeartbeats 4000000 in
theorem itoaI (n : Int) (h0 : -9223372036854775808 ≤ n) (h1 : n ≤ 9223372036854775807) (w : World) (hE : Env w) :
    Calls Tryz.prog 73 #[.int .i64 n] w fun e w' => e = .returned (.string ⟨(Lib.itoa n).toArray⟩) ∧ Below w.heap.size w w' := by
  have H := toHid (show Calls Tryz.prog 108 #[.int .i64 n, .int .i64 10] w fun e w' => e = .returned (.string ⟨(Lib.itoa n).toArray⟩) ∧ ∃ k os, w' = Go.Sort.grow (w.drewN k) os from Any.internal_strconv_FormatInt_10 { Tryz.laysM173 with } n h0 h1 w hE.pow)
  clear hE
  go_enter Tryz.func73, Tryz.ntmps73
  go_wp2_with (first | (go_at_call 108; refine H.out.mono ?_; rintro e w1 ⟨rfl, k, os, rfl⟩))
  go_ret
  exact ⟨rfl, below_growN w k os⟩

set_option maxRecDepth 100000 in
set_option maxHeartbeats 4000000 in
theorem itoaB (n : Int) (h0 : -9223372036854775808 ≤ n) (h1 : n ≤ 9223372036854775807) (w : World) (hE : Env w) :
    Calls Tryz.prog 50 #[.int .i64 n] w fun e w' => e = .returned (.string ⟨(Lib.itoa n).toArray⟩) ∧ Below w.heap.size w w' := by
  have H := toHid (itoaI n h0 h1 w hE)
  clear hE
  go_enter Tryz.func50, Tryz.ntmps50
  go_wp2_with (first | (go_at_call 73; refine H.out.mono ?_; rintro e w1 ⟨rfl, hb1⟩))
  go_ret
  exact ⟨rfl, hb1⟩

set_option maxRecDepth 100000 in
set_option maxHeartbeats 4000000 in
theorem num22 (m : Nat) (hm : m ≤ top63) (w : World) (hE : Env w) :
    Calls Tryz.prog 23 #[.int .i64 (m : Int)] w fun e w' => e = .returned (.string ⟨(Lib.decDigits m).toArray⟩) ∧ Below w.heap.size w w' := by
  have H := toHid (itoaB (m : Int) (by omega) (by unfold top63 at hm; omega) w hE)
  rw [Lib.itoa_nonneg] at H
  clear hE
  go_enter Tryz.func23, Tryz.ntmps23
  go_wp2_with (first | (go_at_call 50; refine H.out.mono ?_; rintro e w1 ⟨rfl, hb1⟩))
  go_ret
  exact ⟨rfl, hb1⟩

set_option maxRecDepth 100000 in
set_option maxHeartbeats 4000000 in
theorem setPos (m : Nat) (hm : m ≤ top63) (w : World) (hE : Env w) :
    Calls Tryz.prog 27 #[.int .i64 (m : Int)] w fun e w' => e = .returned (.string ⟨(Lib.decDigits m).toArray⟩) ∧ Below w.heap.size w w' := by
  have H := toHid (num22 m hm w hE)
  have hm0 : (0 : Int) ≤ (m : Int) := by omega
  have hm1 : (m : Int) ≤ 9223372036854775807 := by unfold top63 at hm; omega
  clear hE
  go_enter Tryz.func27, Tryz.ntmps27
  go_wp2_with (first | (go_at_call 23; refine H.out.mono ?_; rintro e w1 ⟨rfl, hb1⟩))
  go_ret
  exact ⟨rfl, hb1⟩

set_option maxRecDepth 100000 in
set_option maxHeartbeats 4000000 in
theorem setNeg (m : Nat) (hm : m ≤ top63) (w : World) (hE : Env w) :
    Calls Tryz.prog 27 #[.int .i64 (-(m : Int) - 1)] w fun e w' => e = .returned (.string ⟨(45 :: (Lib.decDigits m ++ [32, 45, 32, 49])).toArray⟩) ∧ Below w.heap.size w w' := by
  have H := toHid (num22 m hm w hE)
  have hdl : (Lib.decDigits m).length ≤ 19 := dd_len 18 m (by unfold top63 at hm; omega)
  have hm0 : ¬ (0 : Int) ≤ -(m : Int) - 1 := by omega
  have hm1 : (m : Int) ≤ 9223372036854775807 := by unfold top63 at hm; omega
  have hm2 : -(m : Int) - 1 + 1 = -(m : Int) := by omega
  clear hE
  go_enter Tryz.func27, Tryz.ntmps27
  go_wp2_with (first | (go_at_call 23; refine H.out.mono ?_; rintro e w1 ⟨rfl, hb1⟩))
  go_ret
  exact ⟨rfl, hb1⟩
end Go.Proofs.YtihgojcfpnhelaaGreatDoor
namespace Go.Proofs.YtihgojcfpnhelaaGreatDoor
open Go.RowKit

def rhoF (fs : List Fd) (x : By) : Vl := match fs.find? (fun f => f.nm == x) with | some f => f.v | none => (3, 3)

/-- What an editor must do, told of whatever says how it lies in memory. -/
structure EdC (Ed : World → Nat → List Fd → Prop) : Prop where
  next : ∀ w w' e fs, Ed w e fs → Below w.heap.size w w' → Ed w' e fs
  env : ∀ w e fs, Ed w e fs → Env w
  set : ∀ (w : World) (e : Nat) (fs : List Fd) (nm : UInt8) (rest : By) (rts : List (By × Nat)) (p : Pt), Ed w e fs → isL nm = true → fs.length < 10 → rest.length ≤ 112 → toks (rest.length + 2) rest 8 = (rts, none) → Der rts 1 0 rts.length p → opn p ≤ 6 → (txt p).length ≤ 100 →
    (∀ f, f ∈ fs → f.nm ≠ [nm]) → (∀ f, f ∈ fs → mentP [nm] f.p = false) → mentP [nm] p = false →
    Calls Tryz.prog 20 #[.pointer (some ⟨e, 0, none⟩), .string ⟨(setL nm rest).toArray⟩] w fun r w' => (∃ (tx : By) (an : Option Addr) (ln cn : Nat) (k n : Int), r = .returned (.agg #[.int .i64 0, .int .i64 0, .string ⟨tx.toArray⟩, .slice an ln cn, .int .i64 k, .int .i64 n])) ∧ Ed w' e (fs ++ [⟨[nm], p, valP (rhoF fs) p⟩])
  value : ∀ (w : World) (e : Nat) (fs : List Fd) (nm : UInt8) (f : Fd), Ed w e fs → isL nm = true → fs.find? (fun f => f.nm == [nm]) = some f →
    Calls Tryz.prog 20 #[.pointer (some ⟨e, 0, none⟩), .string ⟨(118 :: 97 :: 108 :: 117 :: 101 :: 32 :: [nm]).toArray⟩] w fun r w' => (∃ (er at_ : Int) (tx : By) (an : Option Addr) (ln cn : Nat), r = .returned (.agg #[.int .i64 er, .int .i64 at_, .string ⟨tx.toArray⟩, .slice an ln cn, .int .i64 f.v.1, .int .i64 f.v.2])) ∧ Ed w' e fs

def vx : Pt := .atom 2 [97] 0
def vy : Pt := .atom 2 [98] 0

theorem cls_a : Cls [97] 2 := Or.inr (Or.inl ⟨by decide, by decide, rfl⟩)
theorem cls_b : Cls [98] 2 := Or.inr (Or.inl ⟨by decide, by decide, rfl⟩)

/-- `a` and `b` with a sign between. -/
theorem der_ab (op : UInt8) (k n : Nat) (h1 : 1 ≤ n) (h5 : n ≤ 5) (hs : inB [op] (sgn n) = true) (hc : Cls [op] k) : Der [([97], 8), ([op], 10), ([98], 12)] 1 0 3 (.bin k vx vy) := by
  refine Der.two (j := 1) h1 h5 ?_ hs hc ?_
  · exact .atom 0 2 (by simp) cls_a (by omega)
  · exact .atom 2 2 (by simp) cls_b (by omega)

theorem valP_ab (ρ : By → Vl) (a b : Int) (k : Nat) (ha : ρ [97] = (1, a)) (hb : ρ [98] = (1, b)) (h4 : k ≠ 4) (h5 : k ≠ 5) : valP ρ (.bin k vx vy) = vInts k a b := by
  simp [valP, vx, vy, ha, hb, h4, h5, vTwo]

theorem ment_ab (z : By) (k : Nat) (hk : k ≠ 2) (ha : z ≠ [97]) (hb : z ≠ [98]) : mentP z (.bin k vx vy) = false := by
  simp [mentP, vx, vy, hk, Ne.symm ha, Ne.symm hb]

/-- Rules that mention `a` and `b` alone. -/
def OkR (fs : List Fd) : Prop := ∀ f, f ∈ fs → ∀ z, z ≠ [97] → z ≠ [98] → mentP z f.p = false

section
variable {Ed : World → Nat → List Fd → Prop}

/-- A field that is set by `a`, a sign and `b`. -/
theorem does_ab (C : EdC Ed) (e : Nat) (fs : List Fd) (nm op : UInt8) (k n : Nat) (a b : Int) (hnm : isL nm = true) (hna : nm ≠ 97) (hnb : nm ≠ 98) (h1 : 1 ≤ n) (h5 : n ≤ 5) (hs : inB [op] (sgn n) = true) (hc : Cls [op] k) (hk : k ≠ 2 ∧ k ≠ 4 ∧ k ≠ 5) (ht : toks 7 [97, 32, op, 32, 98] 8 = ([([97], 8), ([op], 10), ([98], 12)], none)) (hx : (txt (.bin k vx vy)).length ≤ 100)
    (hl : fs.length < 10) (hok : OkR fs) (hnew : ∀ f, f ∈ fs → f.nm ≠ [nm]) (ha : rhoF fs [97] = (1, a)) (hb : rhoF fs [98] = (1, b)) (w : World) (hE : Ed w e fs) :
    Calls Tryz.prog 19 #[.pointer (some ⟨e, 0, none⟩), .string ⟨(setL nm [97, 32, op, 32, 98]).toArray⟩] w fun r w' => r = .returned (.bool true) ∧ Ed w' e (fs ++ [⟨[nm], .bin k vx vy, vInts k a b⟩]) := by
  have hz1 : ([nm] : By) ≠ [97] := by simpa using hna
  have hz2 : ([nm] : By) ≠ [98] := by simpa using hnb
  refine does_ok e _ w (fun w' => Ed w' e (fs ++ [⟨[nm], .bin k vx vy, vInts k a b⟩])) (fun w1 w2 h hb => C.next _ _ _ _ h hb) ?_
  have := C.set w e fs nm [97, 32, op, 32, 98] _ (.bin k vx vy) hE hnm hl (by simp) ht (der_ab op k n h1 h5 hs hc) (by simp [opn, vx, vy]) hx hnew (fun f hf => hok f hf _ hz1 hz2) (ment_ab _ _ hk.1 hz1 hz2)
  rw [valP_ab (rhoF fs) a b k ha hb hk.2.1 hk.2.2] at this
  exact this

theorem OkR.snoc {fs : List Fd} (h : OkR fs) (nm : By) (k : Nat) (v : Vl) (hk : k ≠ 2) : OkR (fs ++ [⟨nm, .bin k vx vy, v⟩]) := fun f hf z hz1 hz2 => by
  rcases List.mem_append.1 hf with hf | hf
  · exact h f hf z hz1 hz2
  · rw [List.mem_singleton.1 hf]
    exact ment_ab z k hk hz1 hz2

/-- What a field is worth is told. -/
theorem worth_of (C : EdC Ed) (e : Nat) (fs : List Fd) (nm : UInt8) (f : Fd) (hnm : isL nm = true) (hf : fs.find? (fun f => f.nm == [nm]) = some f) (w : World) (hE : Ed w e fs) :
    Calls Tryz.prog 24 #[.pointer (some ⟨e, 0, none⟩), .string ⟨([nm] : By).toArray⟩] w fun r w' => r = .returned (.tuple #[.int .i64 f.v.1, .int .i64 f.v.2]) ∧ Ed w' e fs :=
  worth_ok e [nm] w (by simp) (fun w' => Ed w' e fs) (fun w1 w2 h hb => C.next _ _ _ _ h hb) f.v.1 f.v.2 (C.value w e fs nm f hE hnm hf)
end

theorem rowLen_D' (c : UInt8) (r : By) (h : AllD (c :: r)) (rest : By) (hr : rest = [] ∨ ∃ x, rest = 32 :: x) : rowLen (c :: r ++ rest) = (c :: r).length := by
  have hc : isD c = true := h c List.mem_cons_self
  have hL : isL c = false := by
    have := isD_range hc
    simp [isL, letB]
    omega
  rw [List.cons_append, rowLen_D hL hc]
  have : ((r ++ rest).takeWhile isD).length = r.length := by
    have h2 : ∀ x, x ∈ r → isD x = true := fun x hx => h x (List.mem_cons_of_mem _ hx)
    rw [List.takeWhile_append_of_pos h2]
    rcases hr with rfl | ⟨x, rfl⟩
    · simp
    · simp [show isD 32 = false from by decide]
  rw [this]
  simp
  omega

/-- A number as a token. -/
theorem num_tok (m : Nat) (hm : m ≤ top63) : ∃ c r, Lib.decDigits m = c :: r ∧ c ≠ 32 ∧ AllD (c :: r) ∧ tokOK (c :: r) = true ∧ Cls (c :: r) 1 ∧ nmB (c :: r) = [] ∧ nuB (c :: r) = m ∧ (c :: r).length ≤ 19 := by
  obtain ⟨h1, h2, h3⟩ := dd_facts m
  have hl : (Lib.decDigits m).length ≤ 19 := dd_len 18 m (by unfold top63 at hm; omega)
  cases hd : Lib.decDigits m with
  | nil => exact absurd hd h3
  | cons c r =>
    rw [hd] at h1 h2 hl
    have hc : isD c = true := h1 c List.mem_cons_self
    have hD : headD (c :: r) = true := hc
    refine ⟨c, r, rfl, ?_, h1, ?_, Or.inl ⟨hD, rfl⟩, ?_, ?_, hl⟩
    · rintro rfl
      revert hc; decide
    · simp only [tokOK, hD, if_true, h2]
      simp [hm]
      simpa using hl
    · simp [nmB, hD]
    · simp only [nuB, hD, if_true]
      exact h2
end Go.Proofs.YtihgojcfpnhelaaGreatDoor
