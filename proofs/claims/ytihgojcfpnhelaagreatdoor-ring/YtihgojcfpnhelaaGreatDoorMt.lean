import Derived.Test.YtihgojcfpnhelaaGreatDoorZa
set_option linter.unusedVariables false
set_option linter.unusedSimpArgs false
namespace Go.Proofs.YtihgojcfpnhelaaGreatDoor
open Go.RowKit
attribute [local go_sem] idx_eq app_eq

def headsW : List (By × Int × Nat × Bool) :=
  [([115, 101, 116], 1, 1, true), ([100, 101, 108, 101, 116, 101], 2, 1, false), ([114, 101, 110, 97, 109, 101], 3, 2, false), ([98, 101, 103, 105, 110], 4, 0, false),
   ([99, 111, 109, 109, 105, 116], 5, 0, false), ([99, 97, 110, 99, 101, 108], 6, 0, false), ([117, 110, 100, 111], 7, 0, false), ([114, 101, 100, 111], 8, 0, false),
   ([118, 97, 108, 117, 101], 9, 1, false), ([114, 117, 108, 101], 10, 1, false), ([108, 105, 115, 116], 11, 0, false), ([111, 114, 100, 101, 114], 12, 0, false)]

def headsC : Array Value := (headsW.flatMap fun x => [Value.string ⟨x.1.toArray⟩, .int .i64 x.2.1, .int .i64 (x.2.2.1 : Int), .bool x.2.2.2]).toArray

/-- The table of first words, as it is laid. -/
def EnvL (w : World) : Prop := ∃ t fr, w.heap[0]? = some (.cells headsC t fr)

theorem EnvL.next {w w' : World} (h : EnvL w) (hE : Env w) (hb : Below w.heap.size w w') : EnvL w' := by
  obtain ⟨t, fr, h⟩ := h
  exact ⟨t, fr, (hb.block _ (by have := hE.size; omega)).trans h⟩

theorem head_idx (k : Nat) (h : k < 12) (w : World) : (Instr.index 145 (.agg headsC) (.int .i64 (k : Int))).run Tryz.prog w = .ok (.agg #[.string ⟨((headsW[k]'h).1).toArray⟩, .int .i64 (headsW[k]'h).2.1, .int .i64 ((headsW[k]'h).2.2.1 : Int), .bool (headsW[k]'h).2.2.2]) w := by
  rcases (show k = 0 ∨ k = 1 ∨ k = 2 ∨ k = 3 ∨ k = 4 ∨ k = 5 ∨ k = 6 ∨ k = 7 ∨ k = 8 ∨ k = 9 ∨ k = 10 ∨ k = 11 by omega) with h | h | h | h | h | h | h | h | h | h | h | h <;> subst h <;> kernel_rfl

/-- How a line's tokens are read. -/
def LineT (len : Nat) (ts : List (By × Nat)) (r : LnR) : Prop :=
  (∃ k, ∃ h : k < 12, (headsW[k]'h).1 = nT ts 0 ∧ HeadP len ts (headsW[k]'h).2.1 (headsW[k]'h).2.2.1 (headsW[k]'h).2.2.2 r) ∨
  ((∀ k (h : k < 12), (headsW[k]'h).1 ≠ nT ts 0) ∧ r = .err 0 3 (pAt len ts 0))

/-- How a line is read. -/
def LineP (s : By) (r : LnR) : Prop :=
  (120 < s.length ∧ r = .err 0 1 0) ∨ (s.length ≤ 120 ∧ ∃ p, (toksOf s).2 = some p ∧ r = .err 0 2 p) ∨ (s.length ≤ 120 ∧ ∃ ts, toksOf s = (ts, none) ∧ LineT s.length ts r)

def LrPost (s : By) (w : World) (e : Ending) (w' : World) : Prop := ∃ r, LineP s r ∧ RetL r w e w' ∧ Below w.heap.size w w'

theorem heads_facts : ∀ x, x ∈ headsW → x.1 ≠ [] ∧ x.2.2.1 ≤ 2 := by decide

theorem RetL.form {r : LnR} {W w1 : World} {e : Ending} (h : RetL r W e w1) : ∃ (vb : Int) (an : Option Addr) (ln cn : Nat) (k : Int) (nm : By) (n : Int) (a : Option Addr) (l c : Nat) (er p : Int), e = .returned (.tuple #[.agg #[.int .i64 vb, .slice an ln cn, .int .i64 k, .string ⟨nm.toArray⟩, .int .i64 n, .slice a l c], .int .i64 er, .int .i64 p]) :=
  match r, h with
  | .err vb er p, h => ⟨vb, none, 0, 0, 0, [], 0, none, 0, 0, er, p, h⟩
  | .ok vb ns none, ⟨an, ln, cn, h, _⟩ => ⟨vb, an, ln, cn, 0, [], 0, none, 0, 0, 0, 0, h⟩
  | .ok vb ns (some t), ⟨an, ln, cn, a, l, c, h, _⟩ => ⟨vb, an, ln, cn, _, _, _, a, l, c, 0, 0, h⟩

/-- The value of a line that was read. -/
theorem RetL.put {r : LnR} {w W w1 : World} {e : Ending} (h : RetL r W e w1) (hw : w.heap.size < W.heap.size) (v0 v1 v2 v3 v4 v5 : Value) :
    RetL r w e ((((((w1.setCell ⟨w.heap.size, 0, none⟩ v0).setCell ⟨w.heap.size, 1, none⟩ v1).setCell ⟨w.heap.size, 2, none⟩ v2).setCell ⟨w.heap.size, 3, none⟩ v3).setCell ⟨w.heap.size, 4, none⟩ v4).setCell ⟨w.heap.size, 5, none⟩ v5) := by
  have own : ∀ {an ln cn n xs}, w1.ownsRow W.heap.size 9 1 (.slice an ln cn) n xs → ((((((w1.setCell ⟨w.heap.size, 0, none⟩ v0).setCell ⟨w.heap.size, 1, none⟩ v1).setCell ⟨w.heap.size, 2, none⟩ v2).setCell ⟨w.heap.size, 3, none⟩ v3).setCell ⟨w.heap.size, 4, none⟩ v4).setCell ⟨w.heap.size, 5, none⟩ v5).ownsRow w.heap.size 9 1 (.slice an ln cn) n xs := fun h =>
    own_base (own_set (own_set (own_set (own_set (own_set (own_set h hw) hw) hw) hw) hw) hw) (Nat.le_of_lt hw)
  match r, h with
  | .err vb er p, h => exact h
  | .ok vb ns none, h =>
    obtain ⟨an, ln, cn, h1, h2⟩ := h
    exact ⟨an, ln, cn, h1, own h2⟩
  | .ok vb ns (some t), h =>
    obtain ⟨an, ln, cn, a, l, c, h1, h2, h3⟩ := h
    refine ⟨an, ln, cn, a, l, c, h1, own h2, (h3.next fun q hq => ?_).wide fun q hq => ?_⟩
    · have := hq.1
      rw [heap6 _ _ _ (by omega)]
    · have h1 := hq.1
      have h2 := hq.2
      simp
      omega

set_option maxRecDepth 100000 in
set_option maxHeartbeats 1000000 in
theorem linesLong (s : By) (w : World) (h : 120 < s.length) : Calls Tryz.prog 46 #[.string ⟨s.toArray⟩] w (LrPost s w) := by
  have H := toHid (fun W => scan_long s W h)
  have HA := toHid (show LineP s (.err 0 1 0) from Or.inl ⟨h, rfl⟩)
  clear h
  go_enter Tryz.func46, Tryz.ntmps46
  go_wp2_with (first | (go_at_call 42; refine (H.out _).mono ?_; rintro e w' ⟨rfl, rfl⟩))
  refine bodyPost_ret (v := .tuple #[.agg #[.int .i64 0, .slice none 0 0, .int .i64 0, .string ⟨#[]⟩, .int .i64 0, .slice none 0 0], .int .i64 1, .int .i64 0]) (by simp [results, Tryz.results46, go_sem]) rfl ?_
  exact ⟨_, HA.out, rfl, (Below.refl _ _).alloc (Nat.le_refl _) _⟩

set_option maxRecDepth 100000 in
set_option maxHeartbeats 1000000 in
theorem linesBad (s : By) (w : World) (p : Nat) (hE : Env w) (hl : s.length ≤ 120) (h : (toksOf s).2 = some p) : Calls Tryz.prog 46 #[.string ⟨s.toArray⟩] w (LrPost s w) := by
  have H := toHid (fun W (hb : Below w.heap.size w W) => scan_bad s W p (hE.next hb) hl h)
  have HA := toHid (show LineP s (.err 0 2 p) from Or.inr (Or.inl ⟨hl, p, h, rfl⟩))
  clear h
  go_enter Tryz.func46, Tryz.ntmps46
  go_wp2_with (first | (go_at_call 42; refine (H.out _ ((Below.refl _ _).alloc (Nat.le_refl _) _)).mono ?_; rintro e w1 ⟨rfl, hb⟩; refine Hid.out ?_))
  obtain ⟨⟨q0, q1, q2, q3, q4, q5⟩, ⟨r0, r1, r2, r3, r4, r5⟩, hsq⟩ := row6 ((hb.block w.heap.size (by simp)).trans (heap_alloc_new w _))
  have HB := toHid (show Below w.heap.size w w1 from ((Below.refl _ _).alloc (Nat.le_refl _) _).trans (hb.mono (by simp)))
  clear hb H
  refine toHid ?_
  go_wp2
  refine bodyPost_ret (v := .tuple #[.agg #[.int .i64 0, .slice none 0 0, .int .i64 0, .string ⟨#[]⟩, .int .i64 0, .slice none 0 0], .int .i64 2, .int .i64 (p : Int)]) (by simp [results, Tryz.results46, go_sem, q0, q1, q2, q3, q4, q5, hsq]) rfl ?_
  exact ⟨_, HA.out, rfl, below6 HB.out _ (Nat.le_refl _) _ _ _ _ _ _⟩

set_option maxRecDepth 100000 in
set_option maxHeartbeats 4000000 in
theorem linesOk (s : By) (w : World) (ts : List (By × Nat)) (hE : Env w) (hEL : EnvL w) (hl : s.length ≤ 120) (h : toksOf s = (ts, none)) (hok : OkT ts) (hN : ts.length ≤ 120) (hlen : ∀ t p, (t, p) ∈ ts → t.length ≤ 19) : Calls Tryz.prog 46 #[.string ⟨s.toArray⟩] w (LrPost s w) := by
  have H := toHid (fun W (hb : Below w.heap.size w W) => scan_ok s W ts (hE.next hb) hl h)
  have HA := toHid (show ∀ r, LineT s.length ts r → LineP s r from fun r hr => Or.inr (Or.inr ⟨hl, ts, h, hr⟩))
  have HH := toHid (fun k (hk : k < 12) W (hb : Below w.heap.size w W) bl cp B0 (hB0 : 11 ≤ B0) (h1 : 1 ≤ ts.length) (hown : W.ownsRow B0 134 4 (.slice (some ⟨bl, 0, none⟩) (ts.length + 1) cp) (ts.length + 1) (pcells ts ++ endC s.length)) => headRead s ts bl cp B0 (headsW[k]'hk).2.2.1 (headsW[k]'hk).1 (headsW[k]'hk).2.1 (headsW[k]'hk).2.2.2 W (hE.next hb) hB0 hok hN hlen (heads_facts _ (List.getElem_mem hk)).2 h1 hown)
  have HE := toHid hE
  have HEL := toHid hEL
  clear h hok hlen hE hEL
  go_enter Tryz.func46, Tryz.ntmps46
  go_wp2_with (first | (go_at_call 42; refine (H.out _ ((Below.refl _ _).alloc (Nat.le_refl _) _)).mono ?_; rintro e w1 ⟨v, rfl, hown, hb⟩; refine Hid.out ?_))
  have hR := (hb.block w.heap.size (by simp)).trans (heap_alloc_new w _)
  have HB := toHid (show Below w.heap.size w w1 from ((Below.refl _ _).alloc (Nat.le_refl _) _).trans (hb.mono (by simp)))
  obtain ⟨bl, cp, rfl, hbl, hblw⟩ := hown.form (by omega)
  obtain ⟨c0, c1, c2, _, hcp⟩ := tok_cells hown 0 (by omega)
  simp only [Nat.zero_mul, Nat.zero_add] at c0 c1 c2
  simp at hbl
  have HO := toHid hown
  have HR := toHid hR
  obtain ⟨tt, fr, hm⟩ := HEL.out.next HE.out HB.out
  have HM := toHid hm
  have hnn : (0 : Int) < (ts.length : Int) + 1 := by omega
  clear hb hown H hR hm
  refine toHid ?_
  go_wp2_with (refine wpList_load_row rfl 145 _ rfl 0 rfl tt _ fr _ HM.out Tryz.underlying145 rfl (by kernel_rfl) ?_)
  go_loopg [9, 22] 12 (fun gk _ s22 wr => ∃ k : Nat, k ≤ 12 ∧ 12 ≤ k + gk ∧ s22 = .int .i64 (k : Int) ∧ Hid (Below w1.heap.size w1 wr) ∧ Hid (∀ j (hj : j < 12), j < k → (headsW[j]'hj).1 ≠ nT ts 0))
  case atStart => exact ⟨0, by omega, by omega, rfl, Below.refl _ _, fun _ _ h => by omega⟩
  case round =>
    obtain ⟨k, hk, hgk, rfl, HBr, HN⟩ := hrel
    have hsr := HBr.out.size
    have hsw := HB.out.size
    have d1 := (HBr.out.cell (p := ⟨bl, 1, none⟩) hblw).trans c1
    have d2 := (HBr.out.cell (p := ⟨bl, 2, none⟩) hblw).trans c2
    have hblr : bl < wr.heap.size := by omega
    have hwr : w.heap.size < wr.heap.size := by omega
    clear c0 c1 c2
    by_cases hlt : k < 12
    · have hix := head_idx k hlt
      have hltz : (k : Int) < 12 := by omega
      by_cases he : (headsW[k]'hlt).1 = nT ts 0
      · have heb : (nT ts 0 == (headsW[k]'hlt).1) = true := by simp [he]
        have h1 : 1 ≤ ts.length := by
          rcases Nat.eq_zero_or_pos ts.length with h0 | h0
          · have := (heads_facts _ (List.getElem_mem hlt)).1
            rw [he] at this
            simp [nT, h0] at this
          · exact h0
        obtain ⟨y, rfl⟩ : ∃ y, cp = y + 2 := ⟨cp - 2, by omega⟩
        have HBW := toHid (show Below w.heap.size w wr from HB.out.trans (HBr.out.mono hsw))
        have HC := toHid (fun W (hW : Below wr.heap.size wr W) => HH.out k hlt W (HBW.out.trans (hW.mono HBW.out.size)) bl (y + 2) w.heap.size HE.out.size h1 (own_base (own_below (own_below HO.out HBr.out) hW) (by simp)))
        have HT := toHid (fun r (hr : HeadP s.length ts (headsW[k]'hlt).2.1 (headsW[k]'hlt).2.2.1 (headsW[k]'hlt).2.2.2 r) => HA.out r (Or.inl ⟨k, hlt, he, hr⟩))
        have hy1 : (1 : Int) ≤ (ts.length : Int) + 1 := by omega
        have hy2 : (ts.length : Int) + 1 ≤ (y : Int) + 2 := by omega
        clear he HN
        generalize headsW[k]'hlt = hd at *
        obtain ⟨wd, vb, n, rl⟩ := hd
        simp only at *
        go_wp2_with fail
        go_region
        have HBA := toHid (show Below wr.heap.size wr (wr.alloc (.cells #[.string ⟨wd.toArray⟩, .int .i64 vb, .int .i64 (n : Int), .bool rl] 144)).drew.drew from ((Below.refl _ _).alloc (Nat.le_refl _) _).drew.drew)
        have HRW := toHid (fun w2 (hb2 : Below (wr.alloc (.cells #[.string ⟨wd.toArray⟩, .int .i64 vb, .int .i64 (n : Int), .bool rl] 144)).drew.drew.heap.size (wr.alloc (.cells #[.string ⟨wd.toArray⟩, .int .i64 vb, .int .i64 (n : Int), .bool rl] 144)).drew.drew w2) => row6 ((hb2.block w.heap.size (by simp; omega)).trans ((HBA.out.block w.heap.size hwr).trans ((HBr.out.block w.heap.size (by omega)).trans HR.out))))
        have HC2 := toHid (HC.out _ HBA.out)
        go_wp2_with fail
        go_region_with (first | (go_at_call 64; refine HC2.out.mono ?_; rintro e w2 ⟨r, hr, hret, hb2⟩; obtain ⟨vb', an, ln, cn, k', nm', n', a, l, c, er, p, rfl⟩ := hret.form; obtain ⟨⟨q0, q1, q2, q3, q4, q5⟩, ⟨r0, r1, r2, r3, r4, r5⟩, hsq⟩ := HRW.out _ hb2; have HR3 := toHid hr; have HR4 := toHid hret; have HB3 := toHid hb2; clear hr hret hb2))
        all_goals go_wp2
        all_goals refine bodyPost_ret (v := .tuple #[.agg #[.int .i64 vb', .slice an ln cn, .int .i64 k', .string ⟨nm'.toArray⟩, .int .i64 n', .slice a l c], .int .i64 er, .int .i64 p]) (by simp [results, Tryz.results46, go_sem, q0, q1, q2, q3, q4, q5, hsq]) rfl ?_
        all_goals exact ⟨_, HT.out _ HR3.out, HR4.out.put (by simp; omega) _ _ _ _ _ _, below6 (HBW.out.trans ((HBA.out.trans (HB3.out.mono (by simp))).mono HBW.out.size)) _ (Nat.le_refl _) _ _ _ _ _ _⟩
      · have heb : (nT ts 0 == (headsW[k]'hlt).1) = false := beq_eq_false_iff_ne.2 fun h => he h.symm
        have HN2 := toHid (show ∀ j (hj : j < 12), j < k + 1 → (headsW[j]'hj).1 ≠ nT ts 0 from fun j hj hjk => by
          rcases Nat.lt_or_ge j k with h1 | h1
          · exact HN.out j hj h1
          · obtain rfl : j = k := by omega
            exact he)
        clear he HN HH
        generalize headsW[k]'hlt = hd at *
        obtain ⟨wd, vb, n, rl⟩ := hd
        simp only at *
        go_wp2_with fail
        go_region
        go_wp2
        go_roundg (12 - (k + 1))
        case measure => omega
        case rel => exact ⟨k + 1, by omega, by omega, by go_num, (HBr.out.alloc hsr _).drew, HN2⟩
    · have hltz : ¬ (k : Int) < 12 := by omega
      obtain ⟨⟨q0, q1, q2, q3, q4, q5⟩, ⟨r0, r1, r2, r3, r4, r5⟩, hsq⟩ := row6 ((HBr.out.block w.heap.size (by omega)).trans HR.out)
      have HT := toHid (HA.out (.err 0 3 (pAt s.length ts 0)) (Or.inr ⟨fun j hj => HN.out j hj (by omega), rfl⟩))
      have HB4 := toHid (show Below w.heap.size w wr from HB.out.trans (HBr.out.mono hsw))
      clear HN HH
      generalize pAt s.length ts 0 = pos at *
      go_wp2_with fail
      go_region
      all_goals go_wp2
      all_goals refine bodyPost_ret (v := .tuple #[.agg #[.int .i64 0, .slice none 0 0, .int .i64 0, .string ⟨#[]⟩, .int .i64 0, .slice none 0 0], .int .i64 3, .int .i64 (pos : Int)]) (by simp [results, Tryz.results46, go_sem, q0, q1, q2, q3, q4, q5, hsq]) rfl ?_
      all_goals exact ⟨_, HT.out, rfl, (below6 HB4.out _ (Nat.le_refl _) _ _ _ _ _ _).drew⟩

/-- What lines.Read answers. -/
theorem linesRead (s : By) (w : World) (hE : Env w) (hEL : EnvL w) : Calls Tryz.prog 46 #[.string ⟨s.toArray⟩] w (LrPost s w) := by
  by_cases hl : 120 < s.length
  · exact linesLong s w hl
  · have hl' : s.length ≤ 120 := by omega
    cases h : (toksOf s).2 with
    | some p => exact linesBad s w p hE hl' h
    | none =>
      have h' : toksOf s = ((toksOf s).1, none) := by rw [← h]
      have htk : toks s.length s 0 = ((toksOf s).1, none) := h'
      have hmem : ∀ t p, (t, p) ∈ (toksOf s).1 → (t, p) ∈ (toks s.length s 0).1 := fun t p hm => hm
      refine linesOk s w (toksOf s).1 hE hEL hl' h' (fun t p hm => ⟨⟨toks_ok _ _ _ t p (hmem t p hm), toks_good _ _ _ t p (hmem t p hm)⟩, toks_allD _ _ _ t p (hmem t p hm)⟩) ?_ (fun t p hm => toks_len19 _ _ _ t p (hmem t p hm))
      exact Nat.le_trans (toks_length s.length s 0) hl'
end Go.Proofs.YtihgojcfpnhelaaGreatDoor
