import Derived.Test.YtihgojcfpnhelabGreatDoorS2Mm
import Derived.Test.YtihgojcfpnhelabGreatDoorS2Mt
import Derived.Lib.AppendZeros
set_option maxRecDepth 100000
set_option maxHeartbeats 4000000
set_option linter.unusedVariables false
set_option linter.unusedSimpArgs false
namespace Go.Proofs.YtihgojcfpnhelabGreatDoor
open Go.RowKit
section
structure Fd where
 nm : By
 p : Pt
 v : Vl
def FdAt (w : World) (S : Nat → Prop) (b : Nat) (f : Fd) : Prop :=
 ¬ S b ∧ Shape f.p ∧ Good f.p ∧ (txt f.p).length ≤ 100 ∧ ∃ (a : Option Addr) (l c : Nat), w.heap[b]? = some (.cells #[.string ⟨f.nm.toArray⟩, .int .i64 (f.p.k : Int), .string ⟨f.p.nm.toArray⟩, .int .i64 (f.p.n : Int), .slice a l c, .int .i64 f.v.1, .int .i64 f.v.2] 119 (0, 0)) ∧ PIs w S f.p a l c
structure Sh (w : World) (S : Nat → Prop) (a : Option Addr) (fs : List (Nat × Fd)) : Prop where
 still : ∀ q, S q → q < w.heap.size
 ptr : ∀ j (h : j < fs.length), ∃ g o, a = some ⟨g, o, none⟩ ∧ S g ∧ w.cell? ⟨g, o + j, none⟩ = some (.pointer (some ⟨(fs[j]).1, 0, none⟩))
 fld : ∀ x, x ∈ fs → FdAt w S x.1 x.2
theorem FdAt.lt {w : World} {S : Nat → Prop} {b : Nat} {f : Fd} (h : FdAt w S b f) : b < w.heap.size := by
 obtain ⟨_, _, _, _, a, l, c, hb, _⟩ := h
 exact (Array.getElem?_eq_some_iff.1 hb).1
theorem FdAt.next {w w' : World} {S : Nat → Prop} {b : Nat} {f : Fd} (h : FdAt w S b f) (hS : ∀ q, S q → q < w.heap.size) (hb : Below w.heap.size w w') : FdAt w' S b f := by
 have hlt := h.lt
 obtain ⟨h1, h2, h3, h4, a, l, c, hh, hp⟩ := h
 exact ⟨h1, h2, h3, h4, a, l, c, (hb.block b hlt).trans hh, hp.next fun q hq => hb.block q (hS q hq)⟩
theorem Sh.next {w w' : World} {S : Nat → Prop} {a : Option Addr} {fs : List (Nat × Fd)} (h : Sh w S a fs) (hb : Below w.heap.size w w') : Sh w' S a fs := by
 refine ⟨fun q hq => Nat.lt_of_lt_of_le (h.still q hq) hb.size, fun j hj => ?_, fun x hx => (h.fld x hx).next h.still hb⟩
 obtain ⟨g, o, h1, h2, h3⟩ := h.ptr j hj
 exact ⟨g, o, h1, h2, (hb.cell (p := ⟨g, o + j, none⟩) (h.still g h2)).trans h3⟩
theorem row7 {w : World} {q : Nat} {v0 v1 v2 v3 v4 v5 v6 : Value} {t : TypeId} (h : w.heap[q]? = some (.cells #[v0, v1, v2, v3, v4, v5, v6] t (0, 0))) :
  (w.cell? ⟨q, 0, none⟩ = some v0 ∧ w.cell? ⟨q, 1, none⟩ = some v1 ∧ w.cell? ⟨q, 2, none⟩ = some v2 ∧ w.cell? ⟨q, 3, none⟩ = some v3 ∧ w.cell? ⟨q, 4, none⟩ = some v4 ∧ w.cell? ⟨q, 5, none⟩ = some v5 ∧ w.cell? ⟨q, 6, none⟩ = some v6) ∧ (∀ j, w.frozen? ⟨q, j, none⟩ = false) ∧ q < w.heap.size :=
 ⟨⟨(cell_of_row w q 0 _ _ _ h).trans rfl, (cell_of_row w q 1 _ _ _ h).trans rfl, (cell_of_row w q 2 _ _ _ h).trans rfl, (cell_of_row w q 3 _ _ _ h).trans rfl, (cell_of_row w q 4 _ _ _ h).trans rfl, (cell_of_row w q 5 _ _ _ h).trans rfl, (cell_of_row w q 6 _ _ _ h).trans rfl⟩, fun j => fz_of_row h j, (Array.getElem?_eq_some_iff.1 h).1⟩
def findF (fs : List (Nat × Fd)) (x : By) : Option (Nat × Fd) := fs.find? fun f => f.2.nm == x
def findB (fs : List (Nat × Fd)) (x : By) : Option Addr := (findF fs x).map fun f => ⟨f.1, 0, none⟩
theorem findF_at (fs : List (Nat × Fd)) (x : By) (k : Nat) (h : k < fs.length) (h1 : ∀ j (hj : j < fs.length), j < k → (fs[j]).2.nm ≠ x) (h2 : (fs[k]).2.nm = x) : findF fs x = some fs[k] := by
 induction fs generalizing k with
 | nil => simp at h
 | cons f fs ih =>
  cases k with
  | zero =>
   simp at h2
   simp [findF, h2]
  | succ k =>
   have h0 : f.2.nm ≠ x := h1 0 (by simp) (by omega)
   have := ih k (by simpa using h) (fun j hj hjk => h1 (j + 1) (by simpa using hj) (by omega)) (by simpa using h2)
   simp only [findF] at *
   rw [List.find?_cons_of_neg (by simpa using h0)]
   simpa using this
theorem findF_none (fs : List (Nat × Fd)) (x : By) (h1 : ∀ j (hj : j < fs.length), (fs[j]).2.nm ≠ x) : findF fs x = none := by
 simp only [findF, List.find?_eq_none]
 intro f hf
 obtain ⟨j, hj, rfl⟩ := List.getElem_of_mem hf
 simpa using h1 j hj
theorem find101 (x : By) {S : Nat → Prop} (e c : Nat) (a : Option Addr) (fs : List (Nat × Fd)) (w : World) (hs : Sh w S a fs) (hc : w.cell? ⟨e, 0, none⟩ = some (.slice a fs.length c)) (hl : fs.length ≤ 1000) :
  Calls Tryz.prog 58 #[.pointer (some ⟨e, 0, none⟩), .string ⟨x.toArray⟩] w fun r w' => r = .returned (.pointer (findB fs x)) ∧ w = w' := by
 have HS := tZ hs
 clear hs
 go_enter Tryz.func58, Tryz.ntmps58
 go_wp2_with fail
 go_loopg [6, 12] fs.length (fun gk _ s12 wr => wr = w ∧ ∃ j : Nat, j ≤ fs.length ∧ fs.length ≤ j + gk ∧ s12 = .int .i64 (j : Int) ∧ Hid (∀ i (hi : i < fs.length), i < j → (fs[i]).2.nm ≠ x))
 case atStart => exact ⟨rfl, 0, Nat.zero_le _, by omega, rfl, fun i hi h => by omega⟩
 case round =>
  obtain ⟨rfl, j, hj, hgk, rfl, HF⟩ := hrel
  by_cases hlt : j < fs.length
  ·obtain ⟨g, o, rfl, hg, hp⟩ := HS.out.ptr j hlt
   obtain ⟨_, _, _, _, a1, l1, c1, hb, _⟩ := HS.out.fld fs[j] (List.getElem_mem hlt)
   obtain ⟨⟨k0, _⟩, hfz, hsz⟩ := row7 hb
   have hltz : (j : Int) < (fs.length : Int) := by omega
   by_cases he : (fs[j]).2.nm = x
   ·have heb : ((fs[j]).2.nm == x) = true := by simp [he]
    have HR := tZ (findF_at fs x j hlt (fun i hi h => HF.out i hi h) he)
    clear he hb hfz HF
    generalize hq : (fs[j]).1 = q at *
    have HQ := tZ hq
    clear hq
    generalize (fs[j]).2.nm = y at *
    go_wp2
    go_ret
    exact ⟨by rw [findB, HR.out, ← HQ.out]; rfl, rfl⟩
   ·have heb : ((fs[j]).2.nm == x) = false := beq_eq_false_iff_ne.2 he
    have HF2 := tZ (show ∀ i (hi : i < fs.length), i < j + 1 → (fs[i]).2.nm ≠ x from fun i hi h => by
     by_cases e : i = j
     ·subst e; exact he
     ·exact HF.out i hi (by omega))
    clear he hb hfz
    generalize (fs[j]).1 = q at *
    generalize (fs[j]).2.nm = y at *
    go_wp2
    go_roundg (fs.length - (j + 1))
    case measure => omega
    case rel => exact ⟨rfl, j + 1, by omega, by omega, by go_num, HF2⟩
  ·have hltz : ¬ (j : Int) < (fs.length : Int) := by omega
   go_wp2
   go_ret
   refine ⟨?_, rfl⟩
   rw [findB, findF_none fs x fun i hi => HF.out i hi (by omega)]
   rfl
def rho (fs : List (Nat × Fd)) (x : By) : Vl := match findF fs x with | some f => f.2.v | none => (3, 3)
theorem findF_mem {fs : List (Nat × Fd)} {x : By} {f : Nat × Fd} (h : findF fs x = some f) : f ∈ fs ∧ f.2.nm = x := by
 simp only [findF] at h
 exact ⟨List.mem_of_find?_eq_some h, by simpa using List.find?_some h⟩
theorem worth172 (x : By) {S : Nat → Prop} (e c : Nat) (a : Option Addr) (fs : List (Nat × Fd)) (w : World) (hs : Sh w S a fs) (hc : w.cell? ⟨e, 0, none⟩ = some (.slice a fs.length c)) (he : e < w.heap.size) (hl : fs.length ≤ 1000) :
  Calls Tryz.prog 101 #[.pointer (some ⟨e, 0, none⟩), .string ⟨x.toArray⟩] w (VPost (rho fs x) w) := by
 have H := tZ (fun W (hb : Below w.heap.size w W) => find101 x e c a fs W (hs.next hb) ((hb.cell (p := ⟨e, 0, none⟩) he).trans hc) hl)
 have HS := tZ hs
 clear hs
 unfold rho
 cases hf : findF fs x with
 | some f =>
  have hfb : findB fs x = some ⟨f.1, 0, none⟩ := by simp [findB, hf]
  rw [hfb] at H
  obtain ⟨_, _, _, _, a1, l1, c1, hb, _⟩ := HS.out.fld f (findF_mem hf).1
  have HR := tZ hb
  clear hb
  go_enter Tryz.func101, Tryz.ntmps101
  go_wp2_with (first | (go_at_call 58; refine (H.out _ (bZ _)).mono ?_; rintro r w1 ⟨rfl, rfl⟩; refine Hid.out ?_))
  obtain ⟨⟨k0, k1, k2, k3, k4, k5, k6⟩, hfz, hsz⟩ := row7 ((Below.heap_alloc w (.cells #[.int .i64 0, .int .i64 0] 96) _ (HS.out.fld f (findF_mem hf).1).lt).trans HR.out)
  have hne : f.1 ≠ w.heap.size := by have := (HS.out.fld f (findF_mem hf).1).lt; omega
  have hne' : w.heap.size ≠ f.1 := fun h => hne h.symm
  generalize f.2.v = vv at *
  generalize f.1 = q at *
  clear hfz H hf hfb
  refine tZ ?_
  go_wp2
  refine bodyPost_ret (v := .agg #[.int .i64 vv.1, .int .i64 vv.2]) (by simp [results, Tryz.results101, go_sem]) rfl ?_
  exact ⟨rfl, (Below.refl _ _).alloc (Nat.le_refl _) _⟩
 | none =>
  have hfb : findB fs x = none := by simp [findB, hf]
  rw [hfb] at H
  go_enter Tryz.func101, Tryz.ntmps101
  go_wp2_with (first | (go_at_call 58; refine (H.out _ (bZ _)).mono ?_; rintro r w1 ⟨rfl, rfl⟩))
  refine bodyPost_ret (v := .agg #[.int .i64 3, .int .i64 3]) (by simp [results, Tryz.results101, go_sem]) rfl ?_
  exact ⟨rfl, (Below.refl _ _).alloc (Nat.le_refl _) _⟩
end
section
def nmsF (fs : List (Nat × Fd)) : List By := fs.map fun f => f.2.nm
theorem names_set (fs : List (Nat × Fd)) (j : Nat) (h : j < fs.length) : (strs ((nmsF fs).take j ++ List.replicate (fs.length - j) [])).set j (.string ⟨((fs[j]).2.nm).toArray⟩) = strs ((nmsF fs).take (j + 1) ++ List.replicate (fs.length - (j + 1)) []) := by
 have e1 : (nmsF fs).take (j + 1) = (nmsF fs).take j ++ [(fs[j]).2.nm] := by
  rw [List.take_add_one, List.getElem?_eq_getElem (by simpa [nmsF] using h)]
  simp [nmsF]
 have hl : min j (nmsF fs).length = j := by simp [nmsF]; omega
 obtain ⟨m, hm⟩ : ∃ m, fs.length - j = m + 1 := ⟨fs.length - j - 1, by omega⟩
 rw [e1, hm, show fs.length - (j + 1) = m by omega]
 simp only [strs, List.map_append, List.replicate_succ, List.map_cons, List.map_nil, List.append_assoc, List.cons_append, List.nil_append]
 rw [List.set_append_right _ _ (by simp [hl])]
 simp [hl]
theorem names107 {S : Nat → Prop} (a : Option Addr) (c : Nat) (fs : List (Nat × Fd)) (w : World) (hs : Sh w S a fs) (hl : fs.length ≤ 1000) :
  Calls Tryz.prog 66 #[.slice a fs.length c] w fun e w' => ∃ v, e = .returned v ∧ w'.ownsRow w.heap.size 9 1 v fs.length (strs (nmsF fs)) ∧ Below w.heap.size w w' := by
 have HS := tZ hs
 clear hs
 obtain ⟨i0, hi, hz0, hz1, hz2⟩ := info_parts info9
 go_enter Tryz.func66, Tryz.ntmps66
 obtain ⟨w1, hmake, hown, hgrow⟩ := run_make_full (P := Tryz.prog) w w.heap.size 22 9 i0 (.string ⟨#[]⟩) 1 Tryz.underlying22 hi hz0 hz1 .i64 .i64 fs.length (by rw [hz2]; omega) (by unfold maxLen; omega) (Nat.le_refl _)
 have HB := tZ (show Below w.heap.size w w1 from (Below.refl _ _).grown hgrow (Nat.le_refl _) (fun k hk => by cases hk))
 have HO := tZ (show w1.ownsRow w.heap.size 9 1 (.slice (some ⟨w.heap.size, 0, none⟩) fs.length fs.length) fs.length (strs ((nmsF fs).take 0 ++ List.replicate (fs.length - 0) [])) by
  have e : (madeCells (Value.cells (.string ⟨#[]⟩)) (fs.length * 1)).toList = strs ((nmsF fs).take 0 ++ List.replicate (fs.length - 0) []) := by
   rw [show Value.cells (.string ⟨#[]⟩) = #[.string ⟨#[]⟩] from rfl, toList_madeCells_one]
   simp [strs]
  rw [← e]
  exact hown)
 clear hown hgrow
 go_wp2_with fail
 go_loopg [11] fs.length (fun gk s11 wr => ∃ j : Nat, j ≤ fs.length ∧ fs.length ≤ j + gk ∧ s11 = .int .i64 (j : Int) ∧ Hid (Below w.heap.size w wr) ∧ Hid (wr.ownsRow w.heap.size 9 1 (.slice (some ⟨w.heap.size, 0, none⟩) fs.length fs.length) fs.length (strs ((nmsF fs).take j ++ List.replicate (fs.length - j) []))))
 case atStart => exact ⟨0, Nat.zero_le _, by omega, rfl, HB, HO⟩
 case round =>
  obtain ⟨j, hj, hgk, rfl, HBr, HOr⟩ := hrel
  by_cases hlt : j < fs.length
  ·obtain ⟨g, o, rfl, hg, hp⟩ := HS.out.ptr j hlt
   have hp' := (HBr.out.cell (p := ⟨g, o + j, none⟩) (HS.out.still g hg)).trans hp
   have hq := HS.out.fld fs[j] (List.getElem_mem hlt)
   have hql := hq.lt
   obtain ⟨_, _, _, _, a1, l1, c1, hb, _⟩ := hq
   obtain ⟨⟨k0, _⟩, _, hsz⟩ := row7 ((HBr.out.block _ hql).trans hb)
   have hltz : (j : Int) < (fs.length : Int) := by omega
   have hc := HOr.out.cellAt j (by omega)
   obtain ⟨u, hu⟩ : ∃ u, (strs ((nmsF fs).take j ++ List.replicate (fs.length - j) []))[j]? = some u := ⟨_, List.getElem?_eq_getElem (by simp [strs, nmsF]; omega)⟩
   rw [hu] at hc
   have hfz := HOr.out.frozenAt j
   have HO2 := tZ (show (wr.setCell ⟨w.heap.size, j, none⟩ (.string ⟨((fs[j]).2.nm).toArray⟩)).ownsRow w.heap.size 9 1 (.slice (some ⟨w.heap.size, 0, none⟩) fs.length fs.length) fs.length (strs ((nmsF fs).take (j + 1) ++ List.replicate (fs.length - (j + 1)) [])) by
    have h2 := (HOr.out.stored j (.string ⟨((fs[j]).2.nm).toArray⟩)).1
    have e : (strs ((nmsF fs).take j ++ List.replicate (fs.length - j) [])).set j (.string ⟨((fs[j]).2.nm).toArray⟩) = strs ((nmsF fs).take (j + 1) ++ List.replicate (fs.length - (j + 1)) []) := names_set fs j hlt
    rw [e] at h2
    exact h2)
   clear hb hp hu HOr
   generalize (fs[j]).1 = q at *
   generalize (fs[j]).2.nm = y at *
   go_wp2
   go_roundg (fs.length - (j + 1))
   case measure => omega
   case rel => exact ⟨j + 1, by omega, by omega, by go_num, HBr.out.setCell (p := ⟨w.heap.size, j, none⟩) (Nat.le_refl _) _, HO2⟩
  ·have hltz : ¬ (j : Int) < (fs.length : Int) := by omega
   obtain rfl : j = fs.length := by omega
   go_wp2
   go_ret
   refine ⟨_, rfl, ?_, HBr.out⟩
   have := HOr.out
   rw [Nat.sub_self, List.take_of_length_le (by simp [nmsF])] at this
   simpa using this
end
section
def anyM (on : List By) (p : Pt) : Bool := on.any fun x => mentP x p
def ruleV (p : Pt) (a : Option Addr) (l c : Nat) : Value := .agg #[.int .i64 (p.k : Int), .string ⟨p.nm.toArray⟩, .int .i64 (p.n : Int), .slice a l c]
theorem entersMent : ∀ args w, (callFunc 98 args).run Tryz.prog w = .ok (.enter 98 args) w := enters_of Tryz.func98 (by kernel_rfl) rfl
theorem indexOn {S : Nat → Prop} (p : Pt) (a : Option Addr) (l c : Nat) (on : List By) (ao : Option Addr) (co : Nat) (w : World) (hP : PIs w S p a l c) (hS : ∀ q, S q → q < w.heap.size)
  (hon : ∀ j (h : j < on.length), ∃ g, ao = some ⟨g, 0, none⟩ ∧ g < w.heap.size ∧ w.cell? ⟨g, j, none⟩ = some (.string ⟨(on[j]).toArray⟩)) (hl : on.length ≤ 1000) :
  Calls Tryz.prog 125 #[.slice ao on.length co, .func (.func 98) #[ruleV p a l c] #[]] w fun e w' => ∃ z : Int, e = .returned (.int .i64 z) ∧ (0 ≤ z ↔ anyM on p = true) ∧ Below w.heap.size w w' := by
 have HM := tZ (fun x W (hb : Below w.heap.size w W) => ruleMentions x p a l c W (hP.next fun q hq => hb.block q (hS q hq)) (fun q hq => Nat.lt_of_lt_of_le (hS q hq) hb.size))
 have eg := entersMent
 have HON := tZ hon
 clear hP hS hon
 go_enter Tryz.func125, Tryz.ntmps125
 go_wp2_with fail
 go_loopg [5, 8] on.length (fun gk _ s8 wr => ∃ j : Nat, j ≤ on.length ∧ on.length ≤ j + gk ∧ s8 = .int .i64 (j : Int) ∧ Hid (Below w.heap.size w wr) ∧ Hid (∀ i (hi : i < on.length), i < j → mentP on[i] p = false))
 case atStart => exact ⟨0, Nat.zero_le _, by omega, rfl, Below.refl _ _, fun i hi h => by omega⟩
 case round =>
  obtain ⟨j, hj, hgk, rfl, HB, HF⟩ := hrel
  by_cases hlt : j < on.length
  ·obtain ⟨g, rfl, hg, c0⟩ := HON.out j hlt
   have d0 := (HB.out.cell (p := ⟨g, j, none⟩) hg).trans c0
   have HC := tZ (HM.out (on[j]) wr HB.out)
   have HSZ := tZ HB.out.size
   have hltz : (j : Int) < (on.length : Int) := by omega
   clear c0
   cases hf : mentP on[j] p with
   | true =>
    rw [hf] at HC
    unfold ruleV
    go_wp2_with (first | (go_at_fn 98; refine HC.out.mono ?_; rintro e w1 ⟨rfl, hb1⟩) | (go_at_call 98; refine HC.out.mono ?_; rintro e w1 ⟨rfl, hb1⟩))
    go_ret
    exact ⟨_, rfl, ⟨fun _ => List.any_eq_true.2 ⟨on[j], List.getElem_mem hlt, hf⟩, fun _ => by omega⟩, HB.out.trans (hb1.mono HSZ.out)⟩
   | false =>
    rw [hf] at HC
    go_wp2_with (first | (go_at_fn 98; refine HC.out.mono ?_; rintro e w1 ⟨rfl, hb1⟩) | (go_at_call 98; refine HC.out.mono ?_; rintro e w1 ⟨rfl, hb1⟩))
    go_roundg (on.length - (j + 1))
    case measure => omega
    case rel =>
     refine ⟨j + 1, by omega, by omega, by go_num, HB.out.trans (hb1.mono HSZ.out), (show Hid _ from fun i hi h => ?_)⟩
     by_cases e : i = j
     ·subst e; exact hf
     ·exact HF.out i hi (by omega)
  ·have hltz : ¬ (j : Int) < (on.length : Int) := by omega
   go_wp2
   go_ret
   refine ⟨_, rfl, ⟨fun h => by omega, fun h => ?_⟩, HB.out⟩
   obtain ⟨x, hx, hm⟩ := List.any_eq_true.1 h
   obtain ⟨i, hi, rfl⟩ := List.getElem_of_mem hx
   rw [HF.out i hi (by omega)] at hm
   cases hm
theorem containsOn {S : Nat → Prop} (p : Pt) (a : Option Addr) (l c : Nat) (on : List By) (ao : Option Addr) (co : Nat) (w : World) (hP : PIs w S p a l c) (hS : ∀ q, S q → q < w.heap.size)
  (hon : ∀ j (h : j < on.length), ∃ g, ao = some ⟨g, 0, none⟩ ∧ g < w.heap.size ∧ w.cell? ⟨g, j, none⟩ = some (.string ⟨(on[j]).toArray⟩)) (hl : on.length ≤ 1000) :
  Calls Tryz.prog 97 #[.slice ao on.length co, .func (.func 98) #[ruleV p a l c] #[]] w fun e w' => e = .returned (.bool (anyM on p)) ∧ Below w.heap.size w w' := by
 have H := tZ (indexOn p a l c on ao co w hP hS hon hl)
 clear hP hS hon
 go_enter Tryz.func97, Tryz.ntmps97
 go_wp2_with (first | (go_at_call 125; refine H.out.mono ?_; rintro e w1 ⟨z, rfl, hz, hb1⟩))
 cases hb : anyM on p with
 | true =>
  have : 0 ≤ z := hz.2 hb
  have hzb : decide (0 ≤ z) = true := by simp [this]
  go_ret
  exact ⟨by simp [this, hb], hb1⟩
 | false =>
  have : ¬ 0 ≤ z := fun h => by rw [hz.1 h] at hb; cases hb
  go_ret
  exact ⟨by simp [this, hb], hb1⟩
def hangP (on : List By) : List (Nat × Fd) → List (Nat × Fd)
 | [] => []
 | f :: r => if anyM on f.2.p = true then f :: hangP (on ++ [f.2.nm]) r else hangP on r
def ptrs (fs : List (Nat × Fd)) : List Value := fs.map fun f => .pointer (some ⟨f.1, 0, none⟩)
theorem infoPtr : (Tryz.prog.info? 116).map (fun i => (i.zero, i.size, i.bytes)) = some (some (.pointer none), 1, 8) := by kernel_rfl
theorem own_ne {w : World} {B B' z z' n n' : Nat} {e e' : TypeId} {v v' : Value} {xs xs' : List Value} (h : w.ownsRow B e z v n xs) (h' : w.ownsRow B' e' z' v' n' xs') (hne : e ≠ e') : v.ownBlock = none ∨ v.ownBlock ≠ v'.ownBlock := by
 rcases h.2 with ⟨rfl, _⟩ | ⟨g, cap, cur, rfl, _, hg, _⟩
 ·exact Or.inl rfl
 ·right
  rcases h'.2 with ⟨rfl, _⟩ | ⟨g', cap', cur', rfl, _, hg', _⟩
  ·simp [Value.ownBlock]
  ·simp only [Value.ownBlock, ne_eq, Option.some.injEq]
   rintro rfl
   rw [hg] at hg'
   simp at hg'
   exact hne hg'.2
theorem hanging137 (x : By) {S : Nat → Prop} (e c : Nat) (a : Option Addr) (fs : List (Nat × Fd)) (w : World) (hs : Sh w S a fs) (hc : w.cell? ⟨e, 0, none⟩ = some (.slice a fs.length c)) (he : e < w.heap.size) (hl : fs.length ≤ 900) :
  Calls Tryz.prog 78 #[.pointer (some ⟨e, 0, none⟩), .string ⟨x.toArray⟩] w fun r w' => ∃ v, r = .returned v ∧ w'.ownsRow w.heap.size 116 1 v (hangP [x] fs).length (ptrs (hangP [x] fs)) ∧ Below w.heap.size w w' := by
 have HS := tZ hs
 clear hs
 obtain ⟨i0, hi, hz0, hz1, hz2⟩ := info_parts info9
 obtain ⟨i1, gi, gz0, gz1, gz2⟩ := info_parts infoPtr
 go_enter Tryz.func78, Tryz.ntmps78
 go_wp2_with fail
 go_loopg [5, 6, 8, 16] fs.length (fun gk s5 s6 _ s16 wr => ∃ (j : Nat) (k : List (Nat × Fd)) (o : List By), j ≤ fs.length ∧ fs.length ≤ j + gk ∧ k.length ≤ j ∧ o.length ≤ j + 1 ∧ s16 = .int .i64 (j : Int) ∧ Hid (hangP [x] fs = k ++ hangP o (fs.drop j)) ∧ Hid (wr.ownsRow w.heap.size 116 1 s5 k.length (ptrs k)) ∧ Hid (wr.ownsRow w.heap.size 9 1 s6 o.length (strs o)) ∧ Hid (Below w.heap.size w wr))
 case atStart => exact ⟨0, [], [x], Nat.zero_le _, by omega, by simp, by simp, rfl, by rw [List.drop_zero]; rfl, World.ownsRow_nil _ _ _ _, own_lit w [x] (by simp), (Below.refl _ _).alloc (Nat.le_refl _) _⟩
 case round =>
  obtain ⟨j, k, o, hj, hgk, hk, ho, rfl, HH, HK, HO, HB⟩ := hrel
  obtain ⟨ak, lk, ck, rfl⟩ := own_slice HK.out
  by_cases hlt : j < fs.length
  ·obtain ⟨g, of, rfl, hg, hp⟩ := HS.out.ptr j hlt
   have hp' := (HB.out.cell (p := ⟨g, of + j, none⟩) (HS.out.still g hg)).trans hp
   have hq := HS.out.fld fs[j] (List.getElem_mem hlt)
   have hql := hq.lt
   obtain ⟨_, _, _, _, a1, l1, c1, hb, hP⟩ := hq
   obtain ⟨⟨k0, k1, k2, k3, k4, k5, k6⟩, _, hsz⟩ := row7 ((HB.out.block _ hql).trans hb)
   have hltz : (j : Int) < (fs.length : Int) := by omega
   obtain ⟨ao, lo, co, rfl⟩ := own_slice HO.out
   have hlo : lo = o.length := by
    rcases HO.out.2 with ⟨h1, h2⟩ | ⟨_, _, _, h1, _⟩
    ·simp at h1; omega
    ·simp at h1; omega
   subst hlo
   have HC := tZ (fun W (hb : Below wr.heap.size wr W) => containsOn (fs[j]).2.p a1 l1 c1 o ao co W ((hP.next fun q hq => HB.out.block q (HS.out.still q hq)).next fun q hq => hb.block q (Nat.lt_of_lt_of_le (HS.out.still q hq) HB.out.size)) (fun q hq => Nat.lt_of_lt_of_le (Nat.lt_of_lt_of_le (HS.out.still q hq) HB.out.size) hb.size) (fun i hi => by
    rcases HO.out.2 with ⟨h1, h2⟩ | ⟨g0, cap0, cur0, h1, h2, h3, _⟩
    ·omega
    ·have e1 : ao = some ⟨g0, 0, none⟩ := by simp at h1; exact h1.1
     subst e1
     have hg0 := (Array.getElem?_eq_some_iff.1 h3).1
     refine ⟨g0, rfl, Nat.lt_of_lt_of_le hg0 hb.size, ?_⟩
     rw [hb.cell (p := ⟨g0, i, none⟩) hg0, HO.out.cellAt i (by omega)]
     simp [strs, hi]) (by omega))
   have hdrop := List.drop_eq_getElem_cons hlt
   have HP0 := tZ hP
   have HB0 := tZ hb
   clear hP hb hp
   cases hm : anyM o (fs[j]).2.p with
   | false =>
    have HH2 := tZ (show hangP [x] fs = k ++ hangP o (fs.drop (j + 1)) by rw [HH.out, hdrop]; simp [hangP, hm])
    rw [hm] at HC
    clear hm
    generalize fs[j] = ff at *
    go_wp2_with (first | (go_at_call 97; refine (HC.out _ (Below.refl _ _)).mono ?_; rintro e w1 ⟨rfl, hb1⟩))
    go_roundg (fs.length - (j + 1))
    case measure => omega
    case rel => exact ⟨j + 1, k, o, by omega, by omega, by omega, by omega, by go_num, HH2, own_below HK.out hb1, own_below HO.out hb1, HB.out.trans (hb1.mono HB.out.size)⟩
   | true =>
    have HH2 := tZ (show hangP [x] fs = (k ++ [fs[j]]) ++ hangP (o ++ [(fs[j]).2.nm]) (fs.drop (j + 1)) by rw [HH.out, hdrop]; simp [hangP, hm])
    rw [hm] at HC
    clear hm
    generalize fs[j] = ff at *
    go_wp2_with (first | (go_at_call 97; refine (HC.out _ (Below.refl _ _)).mono ?_; rintro e w1 ⟨rfl, hb1⟩; refine Hid.out ?_))
    have HK1 := tZ (own_below HK.out hb1)
    have HO1 := tZ (own_below HO.out hb1)
    have HB1 := tZ (HB.out.trans (hb1.mono HB.out.size))
    have hs1 := HB1.out.size
    obtain ⟨⟨m0, _⟩, _, hsm⟩ := row7 ((HB1.out.block _ hql).trans HB0.out)
    clear hb1
    refine tZ ?_
    go_wp2_with (first | (at_builtin; refine wpList_append_own _ rfl (.tmp 27) (.tmp 29) 58 rfl w.heap.size 116 i1 (.pointer none) 1 8 Tryz.underlying58 gi gz0 gz1 gz2 rfl (by decide) (.slice ak lk ck) k.length (ptrs k) rfl (HK1.out.alloc _) ⟨w1.heap.size, 0, none⟩ 1 1 [.pointer (some ⟨ff.1, 0, none⟩)] rfl rfl (fun q u hq => cells_new w1 [.pointer (some ⟨ff.1, 0, none⟩)] 116 q u hq) (fun u hu => by simp at hu; subst hu; rfl) (by unfold maxLen; omega) (by omega) (by simp; omega) ?_; intro v' w2 hown' hgrow _; refine Hid.out ?_))
    have HB2 := tZ ((HB1.out.alloc hs1 (.cells #[.pointer (some ⟨ff.1, 0, none⟩)] 116)).grown hgrow (by simp; omega) (fun q hq => (HK1.out.lt q hq).1))
    have hs2 := HB2.out.size
    obtain ⟨⟨n0, _⟩, _, hsn⟩ := row7 ((HB2.out.block _ hql).trans HB0.out)
    have HO2 := tZ ((HO1.out.alloc (.cells #[.pointer (some ⟨ff.1, 0, none⟩)] 116)).kept hgrow (own_ne HO1.out HK1.out (by decide)))
    have HK2 := tZ hown'
    clear hgrow hown'
    refine tZ ?_
    go_wp2_with (first | (at_builtin; refine wpList_append_own _ rfl (.tmp 31) (.tmp 36) 22 rfl w.heap.size 9 i0 (.string ⟨#[]⟩) 1 16 Tryz.underlying22 hi hz0 hz1 hz2 rfl (by decide) (.slice ao o.length co) o.length (strs o) rfl (HO2.out.alloc _) ⟨w2.heap.size, 0, none⟩ 1 1 [.string ⟨ff.2.nm.toArray⟩] rfl rfl (fun q u hq => cells_new w2 [.string ⟨ff.2.nm.toArray⟩] 9 q u hq) (fun u hu => by simp at hu; subst hu; rfl) (by unfold maxLen; omega) (by omega) (by simp; omega) ?_; intro v3 w3 hown3 hgrow3 _; refine Hid.out ?_))
    have HB3 := tZ ((HB2.out.alloc hs2 (.cells #[.string ⟨ff.2.nm.toArray⟩] 9)).grown hgrow3 (by simp; omega) (fun q hq => (HO2.out.lt q hq).1))
    have HK3 := tZ ((HK2.out.alloc (.cells #[.string ⟨ff.2.nm.toArray⟩] 9)).kept hgrow3 (own_ne HK2.out HO2.out (by decide)))
    have HO3 := tZ hown3
    clear hgrow3 hown3
    refine tZ ?_
    go_wp2
    go_roundg (fs.length - (j + 1))
    case measure => omega
    case rel => exact ⟨j + 1, k ++ [ff], o ++ [ff.2.nm], by omega, by omega, by simp; omega, by simp; omega, by go_num, HH2, tZ (by rw [List.length_append]; simpa [ptrs] using HK3.out), tZ (by rw [List.length_append]; simpa [strs] using HO3.out), HB3⟩
  ·have hltz : ¬ (j : Int) < (fs.length : Int) := by omega
   go_wp2
   go_ret
   have e1 : hangP [x] fs = k := by
    rw [HH.out, List.drop_of_length_le (by omega)]
    simp [hangP]
   rw [e1]
   exact ⟨_, rfl, HK.out, HB.out⟩
end
section
theorem putOrder (q o : Nat) (a : Option Addr) (l c : Nat) (a' : Option Addr) (l' c' : Nat) (w : World) (hc : w.cell? ⟨q, o, none⟩ = some (.slice a l c)) (hf : w.frozen? ⟨q, o, none⟩ = false) (hq : q < w.heap.size) :
  Calls Tryz.prog 75 #[.pointer (some ⟨q, o, none⟩), .slice a' l' c'] w fun e w' => e = .returned (.func (.func 95) #[] #[.pointer (some ⟨w.heap.size, 0, none⟩), .pointer (some ⟨w.heap.size + 1, 0, none⟩)]) ∧ w' = ((w.setCell ⟨q, o, none⟩ (.slice a' l' c')).alloc (.cells #[.pointer (some ⟨q, o, none⟩)] 150)).alloc (.cells #[.slice a l c] 58) := by
 go_enter Tryz.func75, Tryz.ntmps75
 go_wp2
 go_ret
 exact ⟨rfl, rfl⟩
theorem putValue (q : Nat) (k n k' n' : Int) (w : World) (hc : w.cell? ⟨q, 5, none⟩ = some (.int .i64 k)) (hc1 : w.cell? ⟨q, 6, none⟩ = some (.int .i64 n)) (hf : w.frozen? ⟨q, 5, none⟩ = false) (hf1 : w.frozen? ⟨q, 6, none⟩ = false) (hq : q < w.heap.size) :
  Calls Tryz.prog 99 #[.pointer (some ⟨q, 5, none⟩), .agg #[.int .i64 k', .int .i64 n']] w fun e w' => e = .returned (.func (.func 127) #[] #[.pointer (some ⟨w.heap.size, 0, none⟩), .pointer (some ⟨w.heap.size + 1 + 1, 0, none⟩)]) ∧ w' = ((((w.setCell ⟨q, 5, none⟩ (.int .i64 k')).setCell ⟨q, 6, none⟩ (.int .i64 n')).alloc (.cells #[.pointer (some ⟨q, 5, none⟩)] 173)).alloc (.cells #[.int .i64 k', .int .i64 n'] 96)).alloc (.cells #[.int .i64 k, .int .i64 n] 96) := by
 have hq1 : q < w.heap.size + 1 := by omega
 have hq2 : q < w.heap.size + 1 + 1 := by omega
 go_enter Tryz.func99, Tryz.ntmps99
 go_wp2
 go_ret
 exact ⟨rfl, rfl⟩
theorem all138 (a : Option Addr) (l c : Nat) (w : World) :
  Calls Tryz.prog 31 #[.slice a l c] w fun e w' => e = .returned (.func (.func 44) #[] #[.pointer (some ⟨w.heap.size, 0, none⟩)]) ∧ w' = w.alloc (.cells #[.slice a l c] 61) := by
 go_enter Tryz.func31, Tryz.ntmps31
 go_wp2
 go_ret
 exact ⟨rfl, rfl⟩
end
section
theorem infoFd : (Tryz.prog.info? 119).map (fun i => i.size) = some 7 := by kernel_rfl
theorem ptr_same (b : Nat) (w : World) : (binOp .eql 116 (.pointer (some ⟨b, 0, none⟩)) (.pointer (some ⟨b, 0, none⟩))).run Tryz.prog w = .ok (.bool true) w := by
 obtain ⟨i, hi, _⟩ := Option.map_eq_some_iff.1 infoFd
 exact run_eql_ptr_same w _ Tryz.underlying116 hi
theorem ptr_other {S : Nat → Prop} {b b' : Nat} {f f' : Fd} (w : World) (h : FdAt w S b f) (h' : FdAt w S b' f') (hne : b ≠ b') : (binOp .eql 116 (.pointer (some ⟨b, 0, none⟩)) (.pointer (some ⟨b', 0, none⟩))).run Tryz.prog w = .ok (.bool false) w := by
 obtain ⟨i, hi, hs⟩ := Option.map_eq_some_iff.1 infoFd
 obtain ⟨_, _, _, _, a, l, c, hb, _⟩ := h
 obtain ⟨_, _, _, _, a', l', c', hb', _⟩ := h'
 exact run_eql_ptr_other w Tryz.underlying116 hi (by omega) (fun e => hne (congrArg Addr.block e)) hb hb'
theorem index136 {S : Nat → Prop} (a : Option Addr) (c b j0 : Nat) (fs : List (Nat × Fd)) (w : World) (hs : Sh w S a fs) (hl : fs.length ≤ 1000) (hj0 : j0 < fs.length) (hb : (fs[j0]).1 = b) (hn : ∀ i (h : i < fs.length), i < j0 → (fs[i]).1 ≠ b) :
  Calls Tryz.prog 77 #[.slice a fs.length c, .pointer (some ⟨b, 0, none⟩)] w fun e w' => e = .returned (.int .i64 (j0 : Int)) ∧ w = w' := by
 have HS := tZ hs
 have HN := tZ hn
 have HB := tZ hb
 clear hs hn hb
 go_enter Tryz.func77, Tryz.ntmps77
 go_wp2_with fail
 go_loopg [5, 8] fs.length (fun gk _ s8 wr => wr = w ∧ ∃ j : Nat, j ≤ j0 ∧ fs.length ≤ j + gk ∧ s8 = .int .i64 (j : Int))
 case atStart => exact ⟨rfl, 0, Nat.zero_le _, by omega, rfl⟩
 case round =>
  obtain ⟨rfl, j, hj, hgk, rfl⟩ := hrel
  obtain ⟨g, o, rfl, hg, hp⟩ := HS.out.ptr j (by omega)
  have hltz : (j : Int) < (fs.length : Int) := by omega
  by_cases he : j = j0
  ·subst he
   rw [HB.out] at hp
   have hsame := ptr_same b wr
   go_wp2
   go_ret
   exact ⟨rfl, rfl⟩
  ·have hne := HN.out j (by omega) (by omega)
   have hother := ptr_other wr (HB.out ▸ HS.out.fld fs[j0] (List.getElem_mem hj0)) (HS.out.fld fs[j] (List.getElem_mem (by omega))) (fun h => hne h.symm)
   go_wp2
   go_roundg (fs.length - (j + 1))
   case measure => omega
   case rel => exact ⟨rfl, j + 1, by omega, by omega, by go_num⟩
theorem grow165 (n : Nat) (w : World) (hn : n ≤ 1000) :
  Calls Tryz.prog 96 #[.slice none 0 0, .int .i64 (n : Int)] w fun e w' => ∃ v, e = .returned v ∧ w'.ownsRow w.heap.size 116 1 v 0 [] ∧ Below w.heap.size w w' := by
 have hn0 : ¬ (n : Int) < 0 := by omega
 obtain ⟨i1, gi, gz0, gz1, gz2⟩ := info_parts infoPtr
 by_cases h0 : n = 0
 ·subst h0
  go_enter Tryz.func96, Tryz.ntmps96
  go_wp2
  go_ret
  exact ⟨_, rfl, World.ownsRow_nil _ _ _ _, Below.refl _ _⟩
 ·have hn1 : (0 : Int) < (n : Int) := by omega
  go_enter Tryz.func96, Tryz.ntmps96
  have hrun := Lib.run_append_nil_zeros (P := Tryz.prog) w 58 3 58 116 i1 (.pointer none) .i64 .i64 Tryz.underlying58 Tryz.underlying3 gi gz0 n (by omega) (by omega) (by omega) (by rw [gz2]; omega)
  have HR := tZ hrun
  have hcap := grownCap_ge w n 0 116
  have hcl := grownCap_le_maxLen w n 0 116 (by unfold maxLen; omega)
  generalize grownCap w n 0 116 = cap at *
  clear hrun
  go_wp2_with (first | (at_builtin; refine Lib.wpList_append_run _ rfl _ _ _ _ rfl _ _ rfl rfl _ _ HR.out ?_))
  go_ret
  exact ⟨_, rfl, ⟨by simp, Or.inr ⟨w.heap.size, cap, _, rfl, Nat.le_refl _, heap_alloc_new w _, Nat.zero_le _, hcl, by simp [size_zeroCells]; omega, by simp⟩⟩, (bZ _).drew⟩
theorem addr_add (g o j : Nat) : (⟨g, o, none⟩ : Addr).add j = ⟨g, o + j, none⟩ := by
 unfold Addr.add
 split <;> simp_all
def PtAt (w : World) (v : Value) (fs : List (Nat × Fd)) : Prop := ∃ (a : Option Addr) (c : Nat), v = .slice a fs.length c ∧ (a = none → c = 0) ∧ ∀ j (h : j < fs.length), ∃ g o, a = some ⟨g, o, none⟩ ∧ g < w.heap.size ∧ w.cell? ⟨g, o + j, none⟩ = some (.pointer (some ⟨(fs[j]).1, 0, none⟩))
theorem PtAt.next {w w' : World} {v : Value} {fs : List (Nat × Fd)} (h : PtAt w v fs) (hb : Below w.heap.size w w') : PtAt w' v fs := by
 obtain ⟨a, c, hv, hn, h⟩ := h
 refine ⟨a, c, hv, hn, fun j hj => ?_⟩
 obtain ⟨g, o, h1, h2, h3⟩ := h j hj
 exact ⟨g, o, h1, Nat.lt_of_lt_of_le h2 hb.size, (hb.cell (p := ⟨g, o + j, none⟩) h2).trans h3⟩
def catP : List (List (Nat × Fd)) → List (Nat × Fd)
 | [] => []
 | x :: r => x ++ catP r
theorem catP_append (a b : List (List (Nat × Fd))) : catP (a ++ b) = catP a ++ catP b := by
 induction a with
 | nil => rfl
 | cons x a ih => simp [catP, ih]
theorem flat_take (ps : List (List (Nat × Fd))) (i : Nat) (h : i < ps.length) : catP (ps.take (i + 1)) = catP (ps.take i) ++ ps[i] := by
 rw [show ps.take (i + 1) = ps.take i ++ [ps[i]] by rw [List.take_add_one, List.getElem?_eq_getElem h]; rfl, catP_append]
 simp [catP]
theorem flat_le (ps : List (List (Nat × Fd))) (i : Nat) : (catP (ps.take i)).length ≤ (catP ps).length := by
 have := congrArg (fun x => (catP x).length) (List.take_append_drop i ps)
 simp only [catP_append, List.length_append] at this
 omega
theorem concat135 (ps : List (List (Nat × Fd))) (vs : List Value) (sb cc : Nat) (w : World) (hvl : vs.length = ps.length) (hsb : sb < w.heap.size) (hc : ∀ i (h : i < ps.length), w.cell? ⟨sb, i, none⟩ = some (vs[i]'(by omega)) ∧ PtAt w (vs[i]'(by omega)) ps[i]) (hl : (catP ps).length ≤ 500) (hpl : ps.length ≤ 10) :
  Calls Tryz.prog 76 #[.slice (some ⟨sb, 0, none⟩) ps.length cc] w fun e w' => ∃ v, e = .returned v ∧ w'.ownsRow w.heap.size 116 1 v (catP ps).length (ptrs (catP ps)) ∧ Below w.heap.size w w' := by
 obtain ⟨i1, gi, gz0, gz1, gz2⟩ := info_parts infoPtr
 have HC := tZ hc
 clear hc
 go_enter Tryz.func76, Tryz.ntmps76
 go_wp2_with fail
 go_loopg [3, 5, 11] ps.length (fun gk s3 _ s11 wr => wr = w ∧ ∃ i : Nat, i ≤ ps.length ∧ ps.length ≤ i + gk ∧ s11 = .int .i64 (i : Int) ∧ s3 = .int .i64 ((catP (ps.take i)).length : Int))
 case atStart => exact ⟨rfl, 0, Nat.zero_le _, by omega, rfl, rfl⟩
 case round =>
  obtain ⟨hw, i, hi, hgk, rfl, rfl⟩ := hrel
  obtain rfl := hw.symm
  by_cases hlt : i < ps.length
  ·obtain ⟨av, cv, c0⟩ : ∃ av cv, w.cell? ⟨sb, i, none⟩ = some (.slice av (ps[i]).length cv) := by
    obtain ⟨c0, av, cv, hv, _⟩ := HC.out i hlt
    exact ⟨av, cv, by rw [c0, hv]⟩
   have hltz : (i : Int) < (ps.length : Int) := by omega
   have h1 := flat_le ps i
   have h2 := flat_le ps (i + 1)
   have e1 : (catP (ps.take (i + 1))).length = (catP (ps.take i)).length + (ps[i]).length := by rw [flat_take ps i hlt, List.length_append]
   generalize (ps[i]).length = n at *
   generalize (catP (ps.take i)).length = m at *
   go_wp2
   go_roundg (ps.length - (i + 1))
   case measure => omega
   case rel => exact ⟨rfl, i + 1, by omega, by omega, by go_num, by rw [e1]; go_num⟩
  ·have hltz : ¬ (i : Int) < (ps.length : Int) := by omega
   obtain rfl : i = ps.length := by omega
   rw [List.take_length]
   have HG := tZ (grow165 (catP ps).length w (by omega))
   have HNT := tZ (show ∀ i, (catP (ps.take i)).length ≤ 500 from fun i => Nat.le_trans (flat_le ps i) hl)
   generalize hnn : (catP ps).length = nn at HG
   have HNN := tZ hnn
   clear hnn
   go_wp2_with (first | (go_at_call 96; refine HG.out.mono ?_; rintro e w1 ⟨v, rfl, hown, hb1⟩; refine Hid.out ?_))
   have HO := tZ hown
   have HB := tZ hb1
   clear hown hb1 HG
   refine tZ ?_
   go_wp2_with fail
   go_loopg [6, 8, 27] ps.length (fun gk s6 _ s27 wr => ∃ i : Nat, i ≤ ps.length ∧ ps.length ≤ i + gk ∧ s27 = .int .i64 (i : Int) ∧ Hid (wr.ownsRow w.heap.size 116 1 s6 (catP (ps.take i)).length (ptrs (catP (ps.take i)))) ∧ Hid (Below w.heap.size w wr))
   case atStart => exact ⟨0, Nat.zero_le _, by omega, rfl, HO, HB⟩
   case round =>
    obtain ⟨i, hi, hgk, rfl, HO2, HB2⟩ := hrel
    have hs2 := HB2.out.size
    by_cases hlt : i < ps.length
    ·have hltz' : (i : Int) < (ps.length : Int) := by omega
     obtain ⟨av, cv, c0, hnone, HP⟩ : ∃ av cv, w.cell? ⟨sb, i, none⟩ = some (.slice av (ps[i]).length cv) ∧ (av = none → cv = 0) ∧ Hid (∀ j (h : j < (ps[i]).length), ∃ g o, av = some ⟨g, o, none⟩ ∧ g < w.heap.size ∧ w.cell? ⟨g, o + j, none⟩ = some (.pointer (some ⟨((ps[i])[j]).1, 0, none⟩))) := by
      obtain ⟨c0, av, cv, hv, hn, hp⟩ := HC.out i hlt
      exact ⟨av, cv, by rw [c0, hv], hn, hp⟩
     have d0 := (HB2.out.cell (p := ⟨sb, i, none⟩) hsb).trans c0
     have HF := tZ (flat_take ps i hlt)
     have hm1 := HNT.out i
     have hm2 := HNT.out (i + 1)
     have e1 : (catP (ps.take (i + 1))).length = (catP (ps.take i)).length + (ps[i]).length := by rw [HF.out, List.length_append]
     generalize ps[i] = pt at *
     clear c0
     cases av with
     | none =>
      have h0 : pt = [] := by
       rcases pt with _ | ⟨x, r⟩
       ·rfl
       ·obtain ⟨g, o, h1, _⟩ := HP.out 0 (by simp)
        cases h1
      subst h0
      obtain rfl := hnone rfl
      have HO3 := tZ (show wr.ownsRow w.heap.size 116 1 u6 (catP (ps.take (i + 1))).length (ptrs (catP (ps.take (i + 1)))) by rw [HF.out, List.append_nil]; exact HO2.out)
      go_wp2_with (first | (at_builtin; refine wpList_append_own_none rfl (.tmp 31) (.tmp 32) 58 rfl w.heap.size 116 i1 1 Tryz.underlying58 gi u6 (catP (ps.take i)).length (ptrs (catP (ps.take i))) rfl HO2.out rfl ?_))
      go_roundg (ps.length - (i + 1))
      case measure => omega
      case rel => exact ⟨i + 1, by omega, by omega, by go_num, HO3, HB2⟩
     | some ad =>
      have HN := tZ (show ∀ j u, (ptrs pt)[j]? = some u → wr.cell? (ad.add j) = some u from fun j u hj => by
       have hjl : j < pt.length := by
        have := (List.getElem?_eq_some_iff.1 hj).1
        simpa [ptrs] using this
       obtain ⟨g, o, h1, h2, h3⟩ := HP.out j hjl
       obtain rfl : ad = ⟨g, o, none⟩ := by simpa using h1
       rw [addr_add, HB2.out.cell (p := ⟨g, o + j, none⟩) h2, h3]
       simp [ptrs, hjl] at hj
       rw [← hj])
      go_wp2_with (first | (at_builtin; refine wpList_append_own _ rfl (.tmp 31) (.tmp 32) 58 rfl w.heap.size 116 i1 (.pointer none) 1 8 Tryz.underlying58 gi gz0 gz1 gz2 rfl (by decide) u6 (catP (ps.take i)).length (ptrs (catP (ps.take i))) rfl HO2.out ad pt.length cv (ptrs pt) rfl (by simp [ptrs]) HN.out (fun u hu => by simp [ptrs] at hu; obtain ⟨a, b, _, rfl⟩ := hu; rfl) (by unfold maxLen; omega) (by omega) hs2 ?_; intro v' w2 hown' hgrow _; refine Hid.out ?_))
      have HO3 := tZ (show w2.ownsRow w.heap.size 116 1 v' (catP (ps.take (i + 1))).length (ptrs (catP (ps.take (i + 1)))) by
       rw [HF.out, List.length_append, show ptrs (catP (ps.take i) ++ pt) = ptrs (catP (ps.take i)) ++ ptrs pt by simp [ptrs]]
       exact hown')
      have HB3 := tZ (HB2.out.grown hgrow hs2 (fun q hq => (HO2.out.lt q hq).1))
      clear hgrow hown'
      refine tZ ?_
      go_wp2
      go_roundg (ps.length - (i + 1))
      case measure => omega
      case rel => exact ⟨i + 1, by omega, by omega, by go_num, HO3, HB3⟩
    ·have hltz' : ¬ (i : Int) < (ps.length : Int) := by omega
     obtain rfl : i = ps.length := by omega
     go_wp2
     go_ret
     have := HO2.out
     rw [List.take_length] at this
     exact ⟨_, rfl, this, HB2.out⟩
end
end Go.Proofs.YtihgojcfpnhelabGreatDoor
