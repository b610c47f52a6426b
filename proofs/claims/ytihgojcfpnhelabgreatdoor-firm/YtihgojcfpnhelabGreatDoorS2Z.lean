import Derived.Test.YtihgojcfpnhelabGreatDoorS2Y
set_option maxRecDepth 100000
set_option maxHeartbeats 4000000
set_option linter.unusedVariables false
set_option linter.unusedSimpArgs false
namespace Go.Proofs.YtihgojcfpnhelabGreatDoor
open Go.RowKit
section
theorem row3 {w : World} {q : Nat} {v0 v1 v2 : Value} {t : TypeId} (h : w.heap[q]? = some (.cells #[v0, v1, v2] t (0, 0))) :
  (w.cell? ⟨q, 0, none⟩ = some v0 ∧ w.cell? ⟨q, 1, none⟩ = some v1 ∧ w.cell? ⟨q, 2, none⟩ = some v2) ∧ q < w.heap.size :=
 ⟨⟨(cell_of_row w q 0 _ _ _ h).trans rfl, (cell_of_row w q 1 _ _ _ h).trans rfl, (cell_of_row w q 2 _ _ _ h).trans rfl⟩, (Array.getElem?_eq_some_iff.1 h).1⟩
def WrPost (b : Nat) (acc : By) (p : Pt) (w : World) (e : Ending) (w' : World) : Prop := e = .returned (.tuple #[]) ∧ Bu b (acc ++ txt p) w' ∧ Okw b w w'
structure WS (p : Pt) (a : Option Addr) (c b : Nat) (acc : By) (w : World) (t : By) (wr : World) : Prop where
 bu : Bu b (acc ++ t) wr
 ok : Okw b w wr
 prm : wr.heap[w.heap.size]? = some (.cells #[.int .i64 (p.k : Int), .string ⟨p.nm.toArray⟩, .int .i64 (p.n : Int), .slice a p.kids.length c] 49 (0, 0))
 spl : wr.heap[w.heap.size + 1]? = some (.cells #[.string ⟨(ahd p.k).toArray⟩, .string ⟨(btw p.k).toArray⟩, .string ⟨(bhd p.k).toArray⟩] 207 (0, 0))
 lt : b < w.heap.size
section
variable {p : Pt} {a : Option Addr} {c b : Nat} {acc : By} {w wr w1 : World} {t s : By}
theorem WS.call (h : WS p a c b acc w t wr) (hB : Bu b (acc ++ t ++ s) w1) (hO : Okw b wr w1) : WS p a c b acc w (t ++ s) w1 := by
 have hl := h.lt
 exact ⟨by rw [← List.append_assoc]; exact hB, h.ok.trans hO, hO.blk h.prm (by omega) (by decide), hO.blk h.spl (by omega) (by decide), h.lt⟩
theorem WS.next (h : WS p a c b acc w t wr) (g : Below wr.heap.size wr w1) : WS p a c b acc w t w1 :=
 ⟨h.bu.next g, h.ok.next g (by have := h.bu.2; omega), (g.block _ (Array.getElem?_eq_some_iff.1 h.prm).1).trans h.prm, (g.block _ (Array.getElem?_eq_some_iff.1 h.spl).1).trans h.spl, h.lt⟩
end
theorem wr_core (p : Pt) (a : Option Addr) (c b : Nat) (acc : By) (w : World) (A : Nat → Option Addr) (L C : Nat → Nat) (hE : Env w) (hb9 : 11 ≤ b) (hk20 : p.k < 20) (hn63 : p.n ≤ top63) (hBu : Bu b acc w) (hlen : acc.length + (txt p).length ≤ 1000000)
  (hc : ∀ j (h : j < p.kids.length), ∃ g, a = some ⟨g, 0, none⟩ ∧ g < b ∧ w.cell? ⟨g, j * 4, none⟩ = some (.int .i64 ((p.kids[j]).k : Int)) ∧ w.cell? ⟨g, j * 4 + 1, none⟩ = some (.string ⟨((p.kids[j]).nm).toArray⟩) ∧ w.cell? ⟨g, j * 4 + 2, none⟩ = some (.int .i64 ((p.kids[j]).n : Int)) ∧ w.cell? ⟨g, j * 4 + 3, none⟩ = some (.slice (A j) (L j) (C j)))
  (hih : ∀ j (h : j < p.kids.length) acc' w', Below b w w' → Bu b acc' w' → acc'.length + (txt p.kids[j]).length ≤ 1000000 → Calls Tryz.prog 104 #[.agg #[.int .i64 ((p.kids[j]).k : Int), .string ⟨((p.kids[j]).nm).toArray⟩, .int .i64 ((p.kids[j]).n : Int), .slice (A j) (L j) (C j)], .pointer (some ⟨b, 0, none⟩)] w' (WrPost b acc' p.kids[j] w')) :
  Calls Tryz.prog 104 #[.agg #[.int .i64 (p.k : Int), .string ⟨p.nm.toArray⟩, .int .i64 (p.n : Int), .slice a p.kids.length c], .pointer (some ⟨b, 0, none⟩)] w (WrPost b acc p w) := by
 have hkl : p.kids.length ≤ 3 := by cases p <;> simp [Pt.kids]
 have HC := tZ hc
 have HIH := tZ hih
 have HB := tZ hBu
 have HE := tZ hE
 obtain ⟨s0, s1, s2⟩ := hE.spellAt p.k hk20
 have hbs := hBu.2
 have hgs := World.block_lt_of_cell? w _ s0
 have hk1 : (0 : Int) ≤ (p.k : Int) := by omega
 have hk2 : (p.k : Int) < 20 := by omega
 have HLEN := tZ hlen
 have HW := tZ (fun acc' s' w' (h : Bu b acc' w') hl => wstr b acc' s' w' h hl)
 clear hc hih hBu hE hlen
 go_enter Tryz.func104, Tryz.ntmps104
 have hl0 := wrTo_le p 0
 have hw0 : wrTo p 0 = wr0 p := by unfold wrTo; simp [jn]
 rw [hw0] at hl0
 have hl1 : (wr0 p).length = (ahd p.k).length + p.nm.length + (numT p.k p.n).length := by unfold wr0; simp only [List.length_append]
 have HL1 := tZ (show acc.length + (ahd p.k).length ≤ 1000000 by have := HLEN.out; omega)
 have HL2 := tZ (show (acc ++ ahd p.k).length + p.nm.length ≤ 1000000 by have := HLEN.out; rw [List.length_append]; omega)
 have HL3 := tZ (show (acc ++ (ahd p.k ++ p.nm)).length + (numT p.k p.n).length ≤ 1000000 by have := HLEN.out; rw [List.length_append, List.length_append]; omega)
 clear hl0 hw0 hl1
 have HS0 := tZ (show WS p a c b acc w [] ((w.alloc (.cells #[.int .i64 (p.k : Int), .string ⟨p.nm.toArray⟩, .int .i64 (p.n : Int), .slice a p.kids.length c] 49)).alloc (.cells #[.string ⟨(ahd p.k).toArray⟩, .string ⟨(btw p.k).toArray⟩, .string ⟨(bhd p.k).toArray⟩] 207)) from
  ⟨by rw [List.append_nil]; exact HB.out.next (below2 _ _ _), (Okw.refl b w).next (below2 _ _ _) (by omega), (Below.heap_alloc _ _ _ (by simp)).trans (heap_alloc_new _ _), by have := heap_alloc_new (w.alloc (.cells #[.int .i64 (p.k : Int), .string ⟨p.nm.toArray⟩, .int .i64 (p.n : Int), .slice a p.kids.length c] 49)) (.cells #[.string ⟨(ahd p.k).toArray⟩, .string ⟨(btw p.k).toArray⟩, .string ⟨(bhd p.k).toArray⟩] 207); simpa using this, hbs⟩)
 go_wp2_with (first | (go_at_call 64; refine (HW.out acc (ahd p.k) _ (by have := HS0.out.bu; rw [List.append_nil] at this; exact this) HL1.out).mono ?_; rintro e w1 ⟨rfl, hB1, hO1⟩; refine Hid.out ?_))
 have HS1 := tZ (HS0.out.call (s := ahd p.k) (by rw [List.append_nil]; exact hB1) hO1)
 clear hB1 hO1 s0 s1 s2
 obtain ⟨⟨k0, k1, k2, k3⟩, _, hsz1⟩ := row4 HS1.out.prm
 refine tZ ?_
 go_wp2_with (first | (go_at_call 64; refine (HW.out (acc ++ ahd p.k) p.nm _ HS1.out.bu HL2.out).mono ?_; rintro e w2 ⟨rfl, hB2, hO2⟩; refine Hid.out ?_))
 have HS2 := tZ (HS1.out.call (s := p.nm) hB2 hO2)
 rw [List.nil_append] at HS2
 clear hB2 hO2 k0 k1 k2 k3 hsz1
 obtain ⟨⟨k0, k1, k2, k3⟩, _, hsz2⟩ := row4 HS2.out.prm
 refine tZ ?_
 by_cases hk : p.k = 1
 ·have hkb : ((p.k : Int) == 1) = true := by simp [hk]
  have HNT := tZ (show numT p.k p.n = Lib.decDigits p.n by unfold numT; rw [if_pos hk])
  have HF := tZ (fun w' (h : Env w') => format41 p.n w' h hn63)
  have HEE := tZ (show Env w2 from HE.out.below HS2.out.ok.bel hb9)
  clear hk
  go_wp2_with (first | (go_at_call 131; refine (HF.out _ HEE.out).mono ?_; rw [← HNT.out]; rintro e w3 ⟨rfl, hb3⟩; refine Hid.out ?_))
  have HS3 := tZ (HS2.out.next hb3)
  clear hb3 k0 k1 k2 k3 hsz2
  refine tZ ?_
  go_wp2_with (first | (go_at_call 64; refine (HW.out (acc ++ (ahd p.k ++ p.nm)) (numT p.k p.n) _ HS3.out.bu HL3.out).mono ?_; rintro e w4 ⟨rfl, hB4, hO4⟩; refine Hid.out ?_))
  have HS4 := tZ (show WS p a c b acc w (wrTo p 0) w4 by have := HS3.out.call (s := numT p.k p.n) hB4 hO4; unfold wrTo wr0; simpa [jn] using this)
  clear hB4 hO4
  obtain ⟨⟨k0, k1, k2, k3⟩, _, hsz4⟩ := row4 HS4.out.prm
  refine tZ ?_
  go_wp2_with fail
  go_loopw [30] (fun iv wr => ∃ j : Nat, j ≤ p.kids.length ∧ iv = .int .i64 (j : Int) ∧ Hid (WS p a c b acc w (wrTo p j) wr)) (fun iv _ => p.kids.length - (intOf iv).toNat)
  case atStart => exact ⟨0, Nat.zero_le _, rfl, HS4⟩
  case round =>
   obtain ⟨j, hj, rfl, HSr⟩ := hrel
   clear k0 k1 k2 k3
   obtain ⟨⟨k0, k1, k2, k3⟩, _, hszr⟩ := row4 HSr.out.prm
   obtain ⟨⟨s0, s1, s2⟩, hszs⟩ := row3 HSr.out.spl
   by_cases hlt : j < p.kids.length
   ·obtain ⟨g, rfl, hgb, c0, c1, c2, c3⟩ := HC.out j hlt
    have d0 := (HSr.out.ok.bel.cell (p := ⟨g, j * 4, none⟩) hgb).trans c0
    have d1 := (HSr.out.ok.bel.cell (p := ⟨g, j * 4 + 1, none⟩) hgb).trans c1
    have d2 := (HSr.out.ok.bel.cell (p := ⟨g, j * 4 + 2, none⟩) hgb).trans c2
    have d3 := (HSr.out.ok.bel.cell (p := ⟨g, j * 4 + 3, none⟩) hgb).trans c3
    have hj1 : j + 1 ≤ p.kids.length := hlt
    have HIJ := tZ (HIH.out j hlt)
    have HSU := tZ (wrTo_succ p j hlt)
    have hle := wrTo_le p (j + 1)
    rw [wrTo_succ p j hlt] at hle
    simp only [List.length_append] at hle
    have hbl := HSr.out.bu.2
    clear c0 c1 c2 c3
    generalize p.kids[j] = q at *
    by_cases h0 : j = 0
    ·subst h0
     have HL5 := tZ (show (acc ++ wrTo p 0).length + (txt q).length ≤ 1000000 by have := HLEN.out; rw [List.length_append]; omega)
     have HS5 := tZ (HSr.out.next (bZ (.cells #[.int .i64 (q.k : Int), .string ⟨q.nm.toArray⟩, .int .i64 (q.n : Int), .slice (A 0) (L 0) (C 0)] 49)))
     rw [Nat.zero_mul] at d0 d1 d2 d3
     clear hle
     go_wp2_with (first | (go_at_call 104; refine (HIJ.out _ _ HS5.out.ok.bel HS5.out.bu HL5.out).mono ?_; rintro e w5 ⟨rfl, hB5, hO5⟩; refine Hid.out ?_))
     have HS6 := tZ (show WS p (some ⟨g, 0, none⟩) c b acc w (wrTo p (0 + 1)) w5 by have := HS5.out.call (s := txt q) hB5 hO5; rw [HSU.out, if_pos trivial, List.append_nil]; exact this)
     clear hB5 hO5
     refine tZ ?_
     go_wp2
     go_roundw
     case rel => exact ⟨0 + 1, by omega, by go_num, HS6⟩
     case measure => simp [intOf]; omega
    ·have hjb : (0 : Int) < (j : Int) := by omega
     rw [if_neg h0] at hle
     have HL5 := tZ (show (acc ++ wrTo p j).length + (btw p.k).length ≤ 1000000 by have := HLEN.out; rw [List.length_append]; omega)
     have HL6 := tZ (show (acc ++ (wrTo p j ++ btw p.k)).length + (txt q).length ≤ 1000000 by have := HLEN.out; rw [List.length_append, List.length_append]; omega)
     have HS5 := tZ (HSr.out.next (bZ (.cells #[.int .i64 (q.k : Int), .string ⟨q.nm.toArray⟩, .int .i64 (q.n : Int), .slice (A j) (L j) (C j)] 49)))
     clear hle
     go_wp2_with (first | (go_at_call 64; refine (HW.out (acc ++ wrTo p j) (btw p.k) _ HS5.out.bu HL5.out).mono ?_; rintro e w5 ⟨rfl, hB5, hO5⟩; refine Hid.out ?_))
     have HS6 := tZ (HS5.out.call (s := btw p.k) hB5 hO5)
     obtain ⟨⟨x0, x1, x2, x3⟩, _, hszx⟩ := row4 (hO5.blk (q := wr.heap.size) (heap_alloc_new wr _) (by omega) (by decide))
     clear hB5 hO5
     refine tZ ?_
     go_wp2_with (first | (go_at_call 104; refine (HIJ.out _ _ HS6.out.ok.bel HS6.out.bu HL6.out).mono ?_; rintro e w6 ⟨rfl, hB6, hO6⟩; refine Hid.out ?_))
     have HS7 := tZ (show WS p (some ⟨g, 0, none⟩) c b acc w (wrTo p (j + 1)) w6 by have := HS6.out.call (s := txt q) hB6 hO6; rw [HSU.out, if_neg h0]; exact this)
     clear hB6 hO6
     refine tZ ?_
     go_wp2
     go_roundw
     case rel => exact ⟨j + 1, by omega, by go_num, HS7⟩
     case measure => simp [intOf]; omega
   ·obtain rfl : j = p.kids.length := by omega
    have HL5 := tZ (show (acc ++ wrTo p p.kids.length).length + (bhd p.k).length ≤ 1000000 by have := HLEN.out; have := wrTo_le p p.kids.length; rw [List.length_append]; omega)
    go_wp2_with (first | (go_at_call 64; refine (HW.out (acc ++ wrTo p p.kids.length) (bhd p.k) _ HSr.out.bu HL5.out).mono ?_; rintro e w5 ⟨rfl, hB5, hO5⟩; refine Hid.out ?_))
    have HS6 := tZ (HSr.out.call (s := bhd p.k) hB5 hO5)
    clear hB5 hO5
    refine tZ ?_
    go_wp2
    go_end0
    exact ⟨rfl, by have := HS6.out.bu; rw [← txt_wr] at this; exact this, HS6.out.ok⟩
 ·have hkb : ((p.k : Int) == 1) = false := beq_eq_false_iff_ne.2 (by omega)
  have HS4 := tZ (show WS p a c b acc w (wrTo p 0) w2 by have := HS2.out; unfold wrTo wr0 numT; rw [if_neg hk]; simpa [jn] using this)
  clear hk
  go_wp2_with fail
  go_loopw [30] (fun iv wr => ∃ j : Nat, j ≤ p.kids.length ∧ iv = .int .i64 (j : Int) ∧ Hid (WS p a c b acc w (wrTo p j) wr)) (fun iv _ => p.kids.length - (intOf iv).toNat)
  case atStart => exact ⟨0, Nat.zero_le _, rfl, HS4⟩
  case round =>
   obtain ⟨j, hj, rfl, HSr⟩ := hrel
   clear k0 k1 k2 k3
   obtain ⟨⟨k0, k1, k2, k3⟩, _, hszr⟩ := row4 HSr.out.prm
   obtain ⟨⟨s0, s1, s2⟩, hszs⟩ := row3 HSr.out.spl
   by_cases hlt : j < p.kids.length
   ·obtain ⟨g, rfl, hgb, c0, c1, c2, c3⟩ := HC.out j hlt
    have d0 := (HSr.out.ok.bel.cell (p := ⟨g, j * 4, none⟩) hgb).trans c0
    have d1 := (HSr.out.ok.bel.cell (p := ⟨g, j * 4 + 1, none⟩) hgb).trans c1
    have d2 := (HSr.out.ok.bel.cell (p := ⟨g, j * 4 + 2, none⟩) hgb).trans c2
    have d3 := (HSr.out.ok.bel.cell (p := ⟨g, j * 4 + 3, none⟩) hgb).trans c3
    have hj1 : j + 1 ≤ p.kids.length := hlt
    have HIJ := tZ (HIH.out j hlt)
    have HSU := tZ (wrTo_succ p j hlt)
    have hle := wrTo_le p (j + 1)
    rw [wrTo_succ p j hlt] at hle
    simp only [List.length_append] at hle
    have hbl := HSr.out.bu.2
    clear c0 c1 c2 c3
    generalize p.kids[j] = q at *
    by_cases h0 : j = 0
    ·subst h0
     have HL5 := tZ (show (acc ++ wrTo p 0).length + (txt q).length ≤ 1000000 by have := HLEN.out; rw [List.length_append]; omega)
     have HS5 := tZ (HSr.out.next (bZ (.cells #[.int .i64 (q.k : Int), .string ⟨q.nm.toArray⟩, .int .i64 (q.n : Int), .slice (A 0) (L 0) (C 0)] 49)))
     rw [Nat.zero_mul] at d0 d1 d2 d3
     clear hle
     go_wp2_with (first | (go_at_call 104; refine (HIJ.out _ _ HS5.out.ok.bel HS5.out.bu HL5.out).mono ?_; rintro e w5 ⟨rfl, hB5, hO5⟩; refine Hid.out ?_))
     have HS6 := tZ (show WS p (some ⟨g, 0, none⟩) c b acc w (wrTo p (0 + 1)) w5 by have := HS5.out.call (s := txt q) hB5 hO5; rw [HSU.out, if_pos trivial, List.append_nil]; exact this)
     clear hB5 hO5
     refine tZ ?_
     go_wp2
     go_roundw
     case rel => exact ⟨0 + 1, by omega, by go_num, HS6⟩
     case measure => simp [intOf]; omega
    ·have hjb : (0 : Int) < (j : Int) := by omega
     rw [if_neg h0] at hle
     have HL5 := tZ (show (acc ++ wrTo p j).length + (btw p.k).length ≤ 1000000 by have := HLEN.out; rw [List.length_append]; omega)
     have HL6 := tZ (show (acc ++ (wrTo p j ++ btw p.k)).length + (txt q).length ≤ 1000000 by have := HLEN.out; rw [List.length_append, List.length_append]; omega)
     have HS5 := tZ (HSr.out.next (bZ (.cells #[.int .i64 (q.k : Int), .string ⟨q.nm.toArray⟩, .int .i64 (q.n : Int), .slice (A j) (L j) (C j)] 49)))
     clear hle
     go_wp2_with (first | (go_at_call 64; refine (HW.out (acc ++ wrTo p j) (btw p.k) _ HS5.out.bu HL5.out).mono ?_; rintro e w5 ⟨rfl, hB5, hO5⟩; refine Hid.out ?_))
     have HS6 := tZ (HS5.out.call (s := btw p.k) hB5 hO5)
     obtain ⟨⟨x0, x1, x2, x3⟩, _, hszx⟩ := row4 (hO5.blk (q := wr.heap.size) (heap_alloc_new wr _) (by omega) (by decide))
     clear hB5 hO5
     refine tZ ?_
     go_wp2_with (first | (go_at_call 104; refine (HIJ.out _ _ HS6.out.ok.bel HS6.out.bu HL6.out).mono ?_; rintro e w6 ⟨rfl, hB6, hO6⟩; refine Hid.out ?_))
     have HS7 := tZ (show WS p (some ⟨g, 0, none⟩) c b acc w (wrTo p (j + 1)) w6 by have := HS6.out.call (s := txt q) hB6 hO6; rw [HSU.out, if_neg h0]; exact this)
     clear hB6 hO6
     refine tZ ?_
     go_wp2
     go_roundw
     case rel => exact ⟨j + 1, by omega, by go_num, HS7⟩
     case measure => simp [intOf]; omega
   ·obtain rfl : j = p.kids.length := by omega
    have HL5 := tZ (show (acc ++ wrTo p p.kids.length).length + (bhd p.k).length ≤ 1000000 by have := HLEN.out; have := wrTo_le p p.kids.length; rw [List.length_append]; omega)
    go_wp2_with (first | (go_at_call 64; refine (HW.out (acc ++ wrTo p p.kids.length) (bhd p.k) _ HSr.out.bu HL5.out).mono ?_; rintro e w5 ⟨rfl, hB5, hO5⟩; refine Hid.out ?_))
    have HS6 := tZ (HSr.out.call (s := bhd p.k) hB5 hO5)
    clear hB5 hO5
    refine tZ ?_
    go_wp2
    go_end0
    exact ⟨rfl, by have := HS6.out.bu; rw [← txt_wr] at this; exact this, HS6.out.ok⟩
theorem write31 {w0 : World} {S : Nat → Prop} {p : Pt} {a : Option Addr} {l c : Nat} (hP : PIs w0 S p a l c) : ∀ (b : Nat) (acc : By) (w : World), (∀ q, S q → q < b) → Below b w0 w → Env w → 11 ≤ b → Good p → Bu b acc w → acc.length + (txt p).length ≤ 1000000 →
  Calls Tryz.prog 104 #[.agg #[.int .i64 (p.k : Int), .string ⟨p.nm.toArray⟩, .int .i64 (p.n : Int), .slice a l c], .pointer (some ⟨b, 0, none⟩)] w (WrPost b acc p w) := by
 induction hP with
 | leaf p hk =>
  intro b acc w _ _ hE hb hG hB hl
  have h0 : p.kids.length = 0 := by rw [hk]; rfl
  have := wr_core p none 0 b acc w (fun _ => none) (fun _ => 0) (fun _ => 0) hE hb hG.get.1 hG.get.2.1 hB hl (fun j h => by omega) (fun j h => by omega)
  rw [h0] at this
  exact this
 | node p g cap A L C hg hk hc _ ih =>
  intro b acc w hS hW hE hb hG hB hl
  refine wr_core p (some ⟨g, 0, none⟩) cap b acc w A L C hE hb hG.get.1 hG.get.2.1 hB hl (fun j h => ⟨g, rfl, hS g hg, ?_⟩) (fun j h acc' w' hW' hB' hl' => ?_)
  ·rw [hW.cell (hS g hg), hW.cell (hS g hg), hW.cell (hS g hg), hW.cell (hS g hg)]
   exact hc j h
  ·exact ih j h b acc' w' hS (hW.trans hW') (hE.below hW' hb) hb (hG.get.2.2 j h) hB' hl'
end
section
theorem alloc2_new (w : World) (o : Obj) (cs : Array Value) (t : TypeId) : ((w.alloc o).alloc (.cells cs t)).heap[w.heap.size + 1]? = some (.cells cs t (0, 0)) := by
 have := heap_alloc_new (w.alloc o) (.cells cs t)
 rw [show (w.alloc o).heap.size = w.heap.size + 1 by simp] at this
 exact this
theorem alloc2_old (w : World) (cs : Array Value) (t : TypeId) (o : Obj) : ((w.alloc (.cells cs t)).alloc o).heap[w.heap.size]? = some (.cells cs t (0, 0)) :=
 (Below.heap_alloc _ _ _ (by simp)).trans (heap_alloc_new w _)
theorem plain16 {S : Nat → Prop} (p : Pt) (a : Option Addr) (l c : Nat) (w : World) (hP : PIs w S p a l c) (hS : ∀ q, S q → q < w.heap.size) (hE : Env w) (hG : Good p) (hl : (txt p).length ≤ 1000000) :
  Calls Tryz.prog 81 #[.agg #[.int .i64 (p.k : Int), .string ⟨p.nm.toArray⟩, .int .i64 (p.n : Int), .slice a l c]] w fun e w' => e = .returned (.string ⟨(txt p).toArray⟩) ∧ Below w.heap.size w w' := by
 have hsz := hE.size
 have hBu : Bu (w.heap.size + 1) [] ((w.alloc (.cells #[.int .i64 (p.k : Int), .string ⟨p.nm.toArray⟩, .int .i64 (p.n : Int), .slice a l c] 49)).alloc (.cells #[.pointer none, .slice none 0 0] 129)) := by
  refine ⟨?_, by simp⟩
  have := Lib.IsBuilderF.of (Lib.fresh_isBuilder 129 5 (w.alloc (.cells #[.int .i64 (p.k : Int), .string ⟨p.nm.toArray⟩, .int .i64 (p.n : Int), .slice a l c] 49)))
  show Lib.IsBuilderF 129 5 (w.heap.size + 1) (w.heap.size + 1) [] _
  simpa using this
 have hb1 : Below w.heap.size w (w.alloc (.cells #[.int .i64 (p.k : Int), .string ⟨p.nm.toArray⟩, .int .i64 (p.n : Int), .slice a l c] 49)) := (Below.refl _ _).alloc (Nat.le_refl _) _
 have hb2 : Below (w.heap.size + 1) (w.alloc (.cells #[.int .i64 (p.k : Int), .string ⟨p.nm.toArray⟩, .int .i64 (p.n : Int), .slice a l c] 49)) ((w.alloc (.cells #[.int .i64 (p.k : Int), .string ⟨p.nm.toArray⟩, .int .i64 (p.n : Int), .slice a l c] 49)).alloc (.cells #[.pointer none, .slice none 0 0] 129)) := (Below.refl _ _).alloc (by simp) _
 have HW := tZ (write31 (hP.next fun q hq => hb1.block q (hS q hq)) (w.heap.size + 1) [] _ (fun q hq => by have := hS q hq; omega) hb2 ((hE.next hb1).next (bZ _)) (by omega) hG hBu (by simpa using hl))
 clear hP hS hE hG hBu hb1 hb2
 go_enter Tryz.func81, Tryz.ntmps81
 go_wp2_with (first | (go_at_call 104; refine HW.out.mono ?_; rintro e w1 ⟨rfl, hB1, hO1⟩; refine Hid.out ?_))
 rw [List.nil_append] at hB1
 have HB := tZ hB1
 have HO := tZ hO1
 clear hB1 hO1
 refine tZ ?_
 go_wp2_with (first | (go_at_call 65; refine (Tryz.Builder_String_any_k (w.heap.size + 1) (w.heap.size + 1) (txt p) _ HB.out.1 (by have := HB.out.2; omega)).mono ?_; rintro e w2 ⟨rfl, hB2, hb2⟩))
 go_ret
 exact ⟨rfl, ((bZ _).alloc (by simp) _).trans ((HO.out.bel.trans hb2.1).mono (by omega))⟩
theorem rulePlain9 {S : Nat → Prop} (p : Pt) (a : Option Addr) (l c : Nat) (w : World) (hP : PIs w S p a l c) (hS : ∀ q, S q → q < w.heap.size) (hE : Env w) (hG : Good p) (hl : (txt p).length ≤ 1000000) :
  Calls Tryz.prog 59 #[.agg #[.int .i64 (p.k : Int), .string ⟨p.nm.toArray⟩, .int .i64 (p.n : Int), .slice a l c]] w fun e w' => e = .returned (.string ⟨(txt p).toArray⟩) ∧ Below w.heap.size w w' := by
 have H := tZ (fun w1 (hb : Below w.heap.size w w1) => plain16 p a l c w1 (hP.next fun q hq => hb.block q (hS q hq)) (fun q hq => Nat.lt_of_lt_of_le (hS q hq) hb.size) (hE.next hb) hG hl)
 clear hP hS hE hG
 go_enter Tryz.func59, Tryz.ntmps59
 go_wp2_with (first | (go_at_call 81; refine (H.out _ (bZ _)).mono ?_; rintro e w1 ⟨rfl, hb1⟩))
 go_ret
 exact ⟨rfl, (bZ _).trans (hb1.mono (by simp))⟩
theorem bounded15 {S : Nat → Prop} (p : Pt) (a : Option Addr) (l c : Nat) (w : World) (hP : PIs w S p a l c) (hS : ∀ q, S q → q < w.heap.size) (hE : Env w) (hG : Good p) (hl : (txt p).length ≤ 1000000) :
  Calls Tryz.prog 72 #[.agg #[.int .i64 (p.k : Int), .string ⟨p.nm.toArray⟩, .int .i64 (p.n : Int), .slice a l c]] w fun e w' => Below w.heap.size w w' ∧ ((100 < (txt p).length ∧ e = .returned (.tuple #[.agg #[.int .i64 0, .string ⟨#[]⟩, .int .i64 0, .slice none 0 0], .int .i64 7])) ∨ (¬ 100 < (txt p).length ∧ e = .returned (.tuple #[.agg #[.int .i64 (p.k : Int), .string ⟨p.nm.toArray⟩, .int .i64 (p.n : Int), .slice a l c], .int .i64 0]))) := by
 have H := tZ (fun w1 (hb : Below w.heap.size w w1) => plain16 p a l c w1 (hP.next fun q hq => hb.block q (hS q hq)) (fun q hq => Nat.lt_of_lt_of_le (hS q hq) hb.size) (hE.next hb) hG hl)
 clear hP hS hE hG
 go_enter Tryz.func72, Tryz.ntmps72
 go_wp2_with (first | (go_at_call 81; refine (H.out _ (below2 _ _ _)).mono ?_; rintro e w1 ⟨rfl, hb1⟩; refine Hid.out ?_))
 have hR := (hb1.block (w.heap.size + 1) (by simp)).trans (alloc2_new w _ _ _)
 have hP1 := (hb1.block w.heap.size (by simp; omega)).trans (alloc2_old w _ _ _)
 obtain ⟨⟨k0, k1, k2, k3⟩, ⟨f0, f1, f2, f3⟩, hsz⟩ := row4 hR
 obtain ⟨⟨q0, q1, q2, q3⟩, _, hszp⟩ := row4 hP1
 have HB := tZ (show Below w.heap.size w w1 from (below2 w _ _).trans (hb1.mono (by simp; omega)))
 clear hb1 hR hP1
 refine tZ ?_
 by_cases hbig : 100 < (txt p).length <;> have HBIG := tZ hbig
 ·go_wp2
  refine bodyPost_ret (v := .tuple #[.agg #[.int .i64 0, .string ⟨#[]⟩, .int .i64 0, .slice none 0 0], .int .i64 7]) (by simp [results, Tryz.results72, go_sem, k0, k1, k2, k3]) rfl ?_
  exact ⟨(((HB.out.setCell (p := ⟨w.heap.size + 1, 0, none⟩) (by simp) _).setCell (p := ⟨w.heap.size + 1, 1, none⟩) (by simp) _).setCell (p := ⟨w.heap.size + 1, 2, none⟩) (by simp) _).setCell (p := ⟨w.heap.size + 1, 3, none⟩) (by simp) _, Or.inl ⟨HBIG.out, rfl⟩⟩
 ·go_wp2
  refine bodyPost_ret (v := .tuple #[.agg #[.int .i64 (p.k : Int), .string ⟨p.nm.toArray⟩, .int .i64 (p.n : Int), .slice a l c], .int .i64 0]) (by simp [results, Tryz.results72, go_sem, k0, k1, k2, k3]) rfl ?_
  exact ⟨(((HB.out.setCell (p := ⟨w.heap.size + 1, 0, none⟩) (by simp) _).setCell (p := ⟨w.heap.size + 1, 1, none⟩) (by simp) _).setCell (p := ⟨w.heap.size + 1, 2, none⟩) (by simp) _).setCell (p := ⟨w.heap.size + 1, 3, none⟩) (by simp) _, Or.inr ⟨HBIG.out, rfl⟩⟩
end
section
theorem ptc_get (tk : List PT) (j : Nat) (h : j < tk.length) : (ptc tk)[j * 4]? = some (.int .i64 tk[j].1) ∧ (ptc tk)[j * 4 + 1]? = some (.int .i64 (tk[j].2.1 : Int)) ∧ (ptc tk)[j * 4 + 2]? = some (.string ⟨tk[j].2.2.1.toArray⟩) ∧ (ptc tk)[j * 4 + 3]? = some (.int .i64 (tk[j].2.2.2 : Int)) := by
 induction tk generalizing j with
 | nil => simp at h
 | cons t tk ih =>
  have hc : ptc (t :: tk) = .int .i64 t.1 :: .int .i64 (t.2.1 : Int) :: .string ⟨t.2.2.1.toArray⟩ :: .int .i64 (t.2.2.2 : Int) :: ptc tk := by simp [ptc]
  rw [hc]
  cases j with
  | zero => simp
  | succ j =>
   have := ih j (by simpa using h)
   rw [show (j + 1) * 4 = j * 4 + 1 + 1 + 1 + 1 by omega]
   simpa using this
theorem pt_cells (len : Nat) (ts : List (By × Nat)) : pcells ts ++ endC len = ptc (ptoks len ts) := by
 unfold ptoks ptc pcells endC
 rw [List.flatMap_append, List.flatMap_map]
 simp
end
end Go.Proofs.YtihgojcfpnhelabGreatDoor
