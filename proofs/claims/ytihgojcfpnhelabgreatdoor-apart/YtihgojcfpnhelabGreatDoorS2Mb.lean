import Derived.Test.YtihgojcfpnhelabGreatDoorS2X
set_option maxRecDepth 100000
set_option maxHeartbeats 4000000
set_option linter.unusedVariables false
set_option linter.unusedSimpArgs false
namespace Go.Proofs.YtihgojcfpnhelabGreatDoor
open Go.RowKit
section
abbrev Vl := Int × Int
def vTruth (b : Bool) : Vl := (2, if b then 1 else 0)
def vFail (n : Int) : Vl := (3, n)
def vMinus (v : Vl) : Vl := if v.1 = 3 then v else (1, wrap64 (-v.2))
def vOpp (v : Vl) : Vl := if v.1 = 3 then v else vTruth (v.2 == 0)
def vOnly (k : Int) (v : Vl) : Vl := if v.1 ≠ k ∧ v.1 ≠ 3 then vFail 2 else v
def vUnless (d a b : Vl) : Vl := if vOnly 2 a = d ∨ (vOnly 2 a).1 = 3 then vOnly 2 a else vOnly 2 b
def vChoice (a b c : Vl) : Vl := if vOnly 2 a = (2, 1) then b else if vOnly 2 a = (2, 0) then c else vOnly 2 a
def vInts (k : Nat) (a b : Int) : Vl :=
 if k = 12 then (1, wrap64 (a + b)) else if k = 13 then (1, wrap64 (a - b)) else if k = 15 then (1, wrap64 (a * b))
 else if k = 18 then vTruth (a == b) else if k = 19 then vTruth (decide (a < b)) else if b = 0 then vFail 1
 else if k = 16 then (1, wrap64 (a.tdiv b)) else (1, a.tmod b)
def vTwo (k : Nat) (a b : Vl) : Vl :=
 if a.1 = 3 then a else if b.1 = 3 then b else if a.1 = 1 ∧ b.1 = 1 then vInts k a.2 b.2 else if a.1 = b.1 ∧ k = 18 then vTruth (a.2 == b.2) else vFail 2
def valP (ρ : By → Vl) : Pt → Vl
 | .atom k nm n => if k = 1 then (1, (n : Int)) else if k = 7 then vTruth true else if k = 8 then vTruth false else ρ nm
 | .un k a => if k = 9 then valP ρ a else if k = 14 then vMinus (vOnly 1 (valP ρ a)) else vOpp (vOnly 2 (valP ρ a))
 | .bin k a b => if k = 4 then vUnless (2, 0) (valP ρ a) (valP ρ b) else if k = 5 then vUnless (2, 1) (valP ρ a) (valP ρ b) else vTwo k (valP ρ a) (valP ρ b)
 | .ifs a b c => vChoice (valP ρ a) (valP ρ b) (valP ρ c)
theorem number199 (n : Int) (w : World) : Calls Tryz.prog 158 #[.int .i64 n] w fun e w' => e = .returned (.agg #[.int .i64 1, .int .i64 n]) ∧ Below w.heap.size w w' := by
 go_enter Tryz.func158, Tryz.ntmps158
 go_wp2
 refine bodyPost_ret (v := .agg #[.int .i64 1, .int .i64 n]) (by simp [results, Tryz.results158, go_sem]) rfl ?_
 exact ⟨rfl, (Below.refl _ _).alloc (Nat.le_refl _) _⟩
theorem failure228 (n : Int) (w : World) : Calls Tryz.prog 176 #[.int .i64 n] w fun e w' => e = .returned (.agg #[.int .i64 3, .int .i64 n]) ∧ Below w.heap.size w w' := by
 go_enter Tryz.func176, Tryz.ntmps176
 go_wp2
 refine bodyPost_ret (v := .agg #[.int .i64 3, .int .i64 n]) (by simp [results, Tryz.results176, go_sem]) rfl ?_
 exact ⟨rfl, (Below.refl _ _).alloc (Nat.le_refl _) _⟩
theorem truth200 (b : Bool) (w : World) : Calls Tryz.prog 159 #[.bool b] w fun e w' => e = .returned (.agg #[.int .i64 (vTruth b).1, .int .i64 (vTruth b).2]) ∧ Below w.heap.size w w' := by
 cases b
 ·go_enter Tryz.func159, Tryz.ntmps159
  go_wp2
  refine bodyPost_ret (v := .agg #[.int .i64 2, .int .i64 0]) (by simp [results, Tryz.results159, go_sem]) rfl ?_
  exact ⟨rfl, (Below.refl _ _).alloc (Nat.le_refl _) _⟩
 ·go_enter Tryz.func159, Tryz.ntmps159
  go_wp2
  refine bodyPost_ret (v := .agg #[.int .i64 2, .int .i64 1]) (by simp [results, Tryz.results159, go_sem]) rfl ?_
  exact ⟨rfl, (Below.refl _ _).alloc (Nat.le_refl _) _⟩
theorem row2 {w : World} {q : Nat} {v0 v1 : Value} {t : TypeId} (h : w.heap[q]? = some (.cells #[v0, v1] t (0, 0))) :
  (w.cell? ⟨q, 0, none⟩ = some v0 ∧ w.cell? ⟨q, 1, none⟩ = some v1) ∧ (w.frozen? ⟨q, 0, none⟩ = false ∧ w.frozen? ⟨q, 1, none⟩ = false) ∧ q < w.heap.size :=
 ⟨⟨(cell_of_row w q 0 _ _ _ h).trans rfl, (cell_of_row w q 1 _ _ _ h).trans rfl⟩, ⟨fz_of_row h 0, fz_of_row h 1⟩, (Array.getElem?_eq_some_iff.1 h).1⟩
theorem below_st2 {w w' : World} (h : Below w.heap.size w w') (g : Nat) (hg : w.heap.size ≤ g) (v0 v1 : Value) : Below w.heap.size w ((w'.setCell ⟨g, 0, none⟩ v0).setCell ⟨g, 1, none⟩ v1) :=
 (h.setCell (p := ⟨g, 0, none⟩) hg _).setCell (p := ⟨g, 1, none⟩) hg _
def VPost (v : Vl) (w : World) (e : Ending) (w' : World) : Prop := e = .returned (.agg #[.int .i64 v.1, .int .i64 v.2]) ∧ Below w.heap.size w w'
theorem alloc2_new' (w : World) (o : Obj) (cs : Array Value) (t : TypeId) : ((w.alloc o).alloc (.cells cs t)).heap[w.heap.size + 1]? = some (.cells cs t (0, 0)) := by
 have := heap_alloc_new (w.alloc o) (.cells cs t)
 rw [show (w.alloc o).heap.size = w.heap.size + 1 by simp] at this
 exact this
theorem alloc3_new (w : World) (o o' : Obj) (cs : Array Value) (t : TypeId) : (((w.alloc o).alloc o').alloc (.cells cs t)).heap[w.heap.size + 1 + 1]? = some (.cells cs t (0, 0)) := by
 have := heap_alloc_new ((w.alloc o).alloc o') (.cells cs t)
 rw [show ((w.alloc o).alloc o').heap.size = w.heap.size + 1 + 1 by simp] at this
 exact this
theorem below3 (w : World) (o1 o2 o3 : Obj) : Below w.heap.size w (((w.alloc o1).alloc o2).alloc o3) := (below2 w o1 o2).alloc (by simp; omega) _
theorem minus201 (v : Vl) (w : World) : Calls Tryz.prog 160 #[.agg #[.int .i64 v.1, .int .i64 v.2]] w (VPost (vMinus v) w) := by
 obtain ⟨k, n⟩ := v
 by_cases hk : k = 3
 ·subst hk
  go_enter Tryz.func160, Tryz.ntmps160
  go_wp2
  refine bodyPost_ret (v := .agg #[.int .i64 3, .int .i64 n]) (by simp [results, Tryz.results160, go_sem]) rfl ?_
  exact ⟨rfl, below2 _ _ _⟩
 ·have hkb : (k == 3) = false := beq_eq_false_iff_ne.2 hk
  have HR := tZ (show vMinus (k, n) = (1, wrap64 (-n)) by unfold vMinus; rw [if_neg hk])
  clear hk
  go_enter Tryz.func160, Tryz.ntmps160
  go_wp2_with (first | (go_at_call 158; refine (number199 _ _).mono ?_; rintro e w1 ⟨rfl, hb1⟩; refine Hid.out ?_))
  obtain ⟨⟨k0, k1⟩, ⟨f0, f1⟩, hsz⟩ := row2 ((hb1.block (w.heap.size + 1) (by simp)).trans (alloc2_new' w _ _ _))
  have HB := tZ hb1
  clear hb1
  refine tZ ?_
  go_wp2
  refine bodyPost_ret (v := .agg #[.int .i64 1, .int .i64 (wrap64 (-n))]) (by simp [results, Tryz.results160, go_sem, k0, k1]) rfl ?_
  rw [HR.out]
  exact ⟨rfl, below_st2 ((below2 w _ _).trans (HB.out.mono (by simp; omega))) _ (by omega) _ _⟩
theorem opposite203 (v : Vl) (w : World) : Calls Tryz.prog 162 #[.agg #[.int .i64 v.1, .int .i64 v.2]] w (VPost (vOpp v) w) := by
 obtain ⟨k, n⟩ := v
 by_cases hk : k = 3
 ·subst hk
  go_enter Tryz.func162, Tryz.ntmps162
  go_wp2
  refine bodyPost_ret (v := .agg #[.int .i64 3, .int .i64 n]) (by simp [results, Tryz.results162, go_sem]) rfl ?_
  exact ⟨rfl, below2 _ _ _⟩
 ·have hkb : (k == 3) = false := beq_eq_false_iff_ne.2 hk
  have HR := tZ (show vOpp (k, n) = vTruth (n == 0) by unfold vOpp; rw [if_neg hk])
  clear hk
  go_enter Tryz.func162, Tryz.ntmps162
  go_wp2_with (first | (go_at_call 159; refine (truth200 _ _).mono ?_; rintro e w1 ⟨rfl, hb1⟩; refine Hid.out ?_))
  obtain ⟨⟨k0, k1⟩, ⟨f0, f1⟩, hsz⟩ := row2 ((hb1.block (w.heap.size + 1) (by simp)).trans (alloc2_new' w _ _ _))
  have HB := tZ hb1
  clear hb1
  generalize vTruth (n == 0) = vv at *
  refine tZ ?_
  go_wp2
  refine bodyPost_ret (v := .agg #[.int .i64 vv.1, .int .i64 vv.2]) (by simp [results, Tryz.results162, go_sem, k0, k1]) rfl ?_
  rw [HR.out]
  exact ⟨rfl, below_st2 ((below2 w _ _).trans (HB.out.mono (by simp; omega))) _ (by omega) _ _⟩
abbrev namedV (r : Value) : Value := .func (.func 101) #[r] #[]
theorem only202 (r : Value) (k pk pn : Int) (px : By) (a : Option Addr) (l c : Nat) (v : Vl) (w : World)
  (hW : ∀ W, Below w.heap.size w W → Calls Tryz.prog 128 #[.agg #[namedV r], .agg #[.int .i64 pk, .string ⟨px.toArray⟩, .int .i64 pn, .slice a l c]] W (VPost v W)) :
  Calls Tryz.prog 161 #[.agg #[namedV r], .int .i64 k, .agg #[.int .i64 pk, .string ⟨px.toArray⟩, .int .i64 pn, .slice a l c]] w (VPost (vOnly k v) w) := by
 have HW := tZ hW
 clear hW
 go_enter Tryz.func161, Tryz.ntmps161
 go_wp2_with (first | (go_at_call 128; refine (HW.out _ (below3 _ _ _ _)).mono ?_; rintro e w1 ⟨rfl, hb1⟩; refine Hid.out ?_))
 have hR := (hb1.block (w.heap.size + 1 + 1) (by simp)).trans (alloc3_new w _ _ _ _)
 obtain ⟨⟨k0, k1⟩, ⟨f0, f1⟩, hsz⟩ := row2 hR
 have HR := tZ hR
 have HB := tZ (show Below w.heap.size w w1 from (below3 w _ _ _).trans (hb1.mono (by simp; omega)))
 clear hb1 hR
 obtain ⟨vk, vn⟩ := v
 refine tZ ?_
 by_cases h1 : vk = k
 ·have hb : (vk != k) = false := by simp [h1]
  have HV := tZ (show vOnly k (vk, vn) = (vk, vn) by unfold vOnly; rw [if_neg (fun h => h.1 h1)])
  clear h1
  go_wp2
  refine bodyPost_ret (v := .agg #[.int .i64 vk, .int .i64 vn]) (by simp [results, Tryz.results161, go_sem, k0, k1, hsz]) rfl ?_
  rw [HV.out]
  exact ⟨rfl, (below_st2 HB.out _ (by omega) _ _).alloc (by simp; omega) _⟩
 ·have hb : (vk != k) = true := by simp [h1]
  by_cases h3 : vk = 3
  ·have hb3 : (vk != 3) = false := by simp [h3]
   have HV := tZ (show vOnly k (vk, vn) = (vk, vn) by unfold vOnly; rw [if_neg (fun h => h.2 h3)])
   clear h1 h3
   go_wp2
   refine bodyPost_ret (v := .agg #[.int .i64 vk, .int .i64 vn]) (by simp [results, Tryz.results161, go_sem, k0, k1, hsz]) rfl ?_
   rw [HV.out]
   exact ⟨rfl, (below_st2 HB.out _ (by omega) _ _).alloc (by simp; omega) _⟩
  ·have hb3 : (vk != 3) = true := by simp [h3]
   have HV := tZ (show vOnly k (vk, vn) = (3, 2) by unfold vOnly; rw [if_pos ⟨h1, h3⟩]; rfl)
   clear h1 h3
   go_wp2_with (first | (go_at_call 176; refine (failure228 _ _).mono ?_; rintro e w2 ⟨rfl, hb2⟩; refine Hid.out ?_))
   obtain ⟨⟨q0, q1⟩, ⟨g0, g1⟩, hsz2⟩ := row2 ((hb2.block (w.heap.size + 1 + 1) (by simp; omega)).trans ((Below.heap_alloc _ _ _ hsz).trans HR.out))
   have HB2 := tZ (show Below w.heap.size w w2 from (HB.out.alloc (by omega) _).trans (hb2.mono (by simp; omega)))
   clear hb2 k0 k1 f0 f1
   refine tZ ?_
   go_wp2
   refine bodyPost_ret (v := .agg #[.int .i64 3, .int .i64 2]) (by simp [results, Tryz.results161, go_sem, q0, q1]) rfl ?_
   rw [HV.out]
   exact ⟨rfl, below_st2 HB2.out _ (by omega) _ _⟩
theorem ofInts229 (k : Nat) (x y : Int) (w : World) : Calls Tryz.prog 177 #[.int .i64 (k : Int), .int .i64 x, .int .i64 y] w (VPost (vInts k x y) w) := by
 have HN := tZ (fun n w => number199 n w)
 have HT := tZ (fun b w => truth200 b w)
 have HF := tZ (fun n w => failure228 n w)
 have HFIN := tZ (show ∀ (v : Vl) (w1 : World), Below (w.alloc (.cells #[.int .i64 0, .int .i64 0] 96)).heap.size (w.alloc (.cells #[.int .i64 0, .int .i64 0] 96)) w1 → (w1.cell? ⟨w.heap.size, 0, none⟩ = some (.int .i64 0) ∧ w1.cell? ⟨w.heap.size, 1, none⟩ = some (.int .i64 0)) ∧ (w1.frozen? ⟨w.heap.size, 0, none⟩ = false ∧ w1.frozen? ⟨w.heap.size, 1, none⟩ = false) ∧ w.heap.size < w1.heap.size ∧ VPost v w (.returned (.agg #[.int .i64 v.1, .int .i64 v.2])) ((w1.setCell ⟨w.heap.size, 0, none⟩ (.int .i64 v.1)).setCell ⟨w.heap.size, 1, none⟩ (.int .i64 v.2)) from fun v w1 hb => by
  obtain ⟨h1, h2, h3⟩ := row2 ((hb.block w.heap.size (by simp)).trans (heap_alloc_new w _))
  exact ⟨h1, h2, h3, rfl, below_st2 ((bZ _).trans (hb.mono (by simp))) _ (Nat.le_refl _) _ _⟩)
 by_cases h12 : k = 12
 ·subst h12
  have HV := tZ (show vInts 12 x y = (1, wrap64 (x + y)) from rfl)
  go_enter Tryz.func177, Tryz.ntmps177
  go_wp2_with (first | (go_at_call 158; refine (HN.out _ _).mono ?_; rintro e w1 ⟨rfl, hb1⟩; refine Hid.out ?_))
  obtain ⟨⟨k0, k1⟩, ⟨f0, f1⟩, hsz, hfin⟩ := HFIN.out ((1, wrap64 (x + y))) _ hb1
  have HE := tZ hfin
  clear hfin hb1
  refine tZ ?_
  go_wp2
  refine bodyPost_ret (v := .agg #[.int .i64 ((1, wrap64 (x + y)) : Vl).1, .int .i64 ((1, wrap64 (x + y)) : Vl).2]) (by simp [results, Tryz.results177, go_sem, k0, k1]) rfl ?_
  rw [HV.out]
  exact HE.out
 ·have b12 : ((k : Int) == 12) = false := beq_eq_false_iff_ne.2 (by omega)
  by_cases h13 : k = 13
  ·subst h13
   have HV := tZ (show vInts 13 x y = (1, wrap64 (x - y)) from rfl)
   go_enter Tryz.func177, Tryz.ntmps177
   go_wp2_with (first | (go_at_call 158; refine (HN.out _ _).mono ?_; rintro e w1 ⟨rfl, hb1⟩; refine Hid.out ?_))
   obtain ⟨⟨k0, k1⟩, ⟨f0, f1⟩, hsz, hfin⟩ := HFIN.out ((1, wrap64 (x - y))) _ hb1
   have HE := tZ hfin
   clear hfin hb1
   refine tZ ?_
   go_wp2
   refine bodyPost_ret (v := .agg #[.int .i64 ((1, wrap64 (x - y)) : Vl).1, .int .i64 ((1, wrap64 (x - y)) : Vl).2]) (by simp [results, Tryz.results177, go_sem, k0, k1]) rfl ?_
   rw [HV.out]
   exact HE.out
  ·have b13 : ((k : Int) == 13) = false := beq_eq_false_iff_ne.2 (by omega)
   by_cases h15 : k = 15
   ·subst h15
    have HV := tZ (show vInts 15 x y = (1, wrap64 (x * y)) from rfl)
    go_enter Tryz.func177, Tryz.ntmps177
    go_wp2_with (first | (go_at_call 158; refine (HN.out _ _).mono ?_; rintro e w1 ⟨rfl, hb1⟩; refine Hid.out ?_))
    obtain ⟨⟨k0, k1⟩, ⟨f0, f1⟩, hsz, hfin⟩ := HFIN.out ((1, wrap64 (x * y))) _ hb1
    have HE := tZ hfin
    clear hfin hb1
    refine tZ ?_
    go_wp2
    refine bodyPost_ret (v := .agg #[.int .i64 ((1, wrap64 (x * y)) : Vl).1, .int .i64 ((1, wrap64 (x * y)) : Vl).2]) (by simp [results, Tryz.results177, go_sem, k0, k1]) rfl ?_
    rw [HV.out]
    exact HE.out
   ·have b15 : ((k : Int) == 15) = false := beq_eq_false_iff_ne.2 (by omega)
    by_cases h18 : k = 18
    ·subst h18
     have HV := tZ (show vInts 18 x y = vTruth (x == y) from rfl)
     go_enter Tryz.func177, Tryz.ntmps177
     go_wp2_with (first | (go_at_call 159; refine (HT.out _ _).mono ?_; rintro e w1 ⟨rfl, hb1⟩; refine Hid.out ?_))
     obtain ⟨⟨k0, k1⟩, ⟨f0, f1⟩, hsz, hfin⟩ := HFIN.out (vTruth (x == y)) _ hb1
     have HE := tZ hfin
     clear hfin hb1
     refine tZ ?_
     go_wp2
     refine bodyPost_ret (v := .agg #[.int .i64 (vTruth (x == y) : Vl).1, .int .i64 (vTruth (x == y) : Vl).2]) (by simp [results, Tryz.results177, go_sem, k0, k1]) rfl ?_
     rw [HV.out]
     exact HE.out
    ·have b18 : ((k : Int) == 18) = false := beq_eq_false_iff_ne.2 (by omega)
     by_cases h19 : k = 19
     ·subst h19
      have HV := tZ (show vInts 19 x y = vTruth (decide (x < y)) from rfl)
      go_enter Tryz.func177, Tryz.ntmps177
      go_wp2_with (first | (go_at_call 159; refine (HT.out _ _).mono ?_; rintro e w1 ⟨rfl, hb1⟩; refine Hid.out ?_))
      obtain ⟨⟨k0, k1⟩, ⟨f0, f1⟩, hsz, hfin⟩ := HFIN.out (vTruth (decide (x < y))) _ hb1
      have HE := tZ hfin
      clear hfin hb1
      refine tZ ?_
      go_wp2
      refine bodyPost_ret (v := .agg #[.int .i64 (vTruth (decide (x < y)) : Vl).1, .int .i64 (vTruth (decide (x < y)) : Vl).2]) (by simp [results, Tryz.results177, go_sem, k0, k1]) rfl ?_
      rw [HV.out]
      exact HE.out
     ·have b19 : ((k : Int) == 19) = false := beq_eq_false_iff_ne.2 (by omega)
      by_cases hy : y = 0
      ·subst hy
       have HV := tZ (show vInts k x 0 = (3, 1) by unfold vInts; rw [if_neg h12, if_neg h13, if_neg h15, if_neg h18, if_neg h19, if_pos rfl]; rfl)
       clear h12 h13 h15 h18 h19
       go_enter Tryz.func177, Tryz.ntmps177
       go_wp2_with (first | (go_at_call 176; refine (HF.out _ _).mono ?_; rintro e w1 ⟨rfl, hb1⟩; refine Hid.out ?_))
       obtain ⟨⟨k0, k1⟩, ⟨f0, f1⟩, hsz, hfin⟩ := HFIN.out (3, 1) _ hb1
       have HE := tZ hfin
       clear hfin hb1
       refine tZ ?_
       go_wp2
       refine bodyPost_ret (v := .agg #[.int .i64 ((3, 1) : Vl).1, .int .i64 ((3, 1) : Vl).2]) (by simp [results, Tryz.results177, go_sem, k0, k1]) rfl ?_
       rw [HV.out]
       exact HE.out
      ·have by0 : (y == 0) = false := beq_eq_false_iff_ne.2 hy
       by_cases h16 : k = 16
       ·have b16 : ((k : Int) == 16) = true := by simp [h16]
        have HV := tZ (show vInts k x y = (1, wrap64 (x.tdiv y)) by unfold vInts; rw [if_neg h12, if_neg h13, if_neg h15, if_neg h18, if_neg h19, if_neg hy, if_pos h16])
        clear h12 h13 h15 h18 h19 h16
        go_enter Tryz.func177, Tryz.ntmps177
        go_wp2_with (first | (go_at_call 158; refine (HN.out _ _).mono ?_; rintro e w1 ⟨rfl, hb1⟩; refine Hid.out ?_))
        obtain ⟨⟨k0, k1⟩, ⟨f0, f1⟩, hsz, hfin⟩ := HFIN.out ((1, wrap64 (x.tdiv y))) _ hb1
        have HE := tZ hfin
        clear hfin hb1
        refine tZ ?_
        go_wp2
        refine bodyPost_ret (v := .agg #[.int .i64 ((1, wrap64 (x.tdiv y)) : Vl).1, .int .i64 ((1, wrap64 (x.tdiv y)) : Vl).2]) (by simp [results, Tryz.results177, go_sem, k0, k1]) rfl ?_
        rw [HV.out]
        exact HE.out
       ·have b16 : ((k : Int) == 16) = false := beq_eq_false_iff_ne.2 (by omega)
        have HV := tZ (show vInts k x y = (1, x.tmod y) by unfold vInts; rw [if_neg h12, if_neg h13, if_neg h15, if_neg h18, if_neg h19, if_neg hy, if_neg h16])
        clear h12 h13 h15 h18 h19 h16
        go_enter Tryz.func177, Tryz.ntmps177
        go_wp2_with (first | (go_at_call 158; refine (HN.out _ _).mono ?_; rintro e w1 ⟨rfl, hb1⟩; refine Hid.out ?_))
        obtain ⟨⟨k0, k1⟩, ⟨f0, f1⟩, hsz, hfin⟩ := HFIN.out ((1, x.tmod y)) _ hb1
        have HE := tZ hfin
        clear hfin hb1
        refine tZ ?_
        go_wp2
        refine bodyPost_ret (v := .agg #[.int .i64 ((1, x.tmod y) : Vl).1, .int .i64 ((1, x.tmod y) : Vl).2]) (by simp [results, Tryz.results177, go_sem, k0, k1]) rfl ?_
        rw [HV.out]
        exact HE.out
end
end Go.Proofs.YtihgojcfpnhelabGreatDoor
