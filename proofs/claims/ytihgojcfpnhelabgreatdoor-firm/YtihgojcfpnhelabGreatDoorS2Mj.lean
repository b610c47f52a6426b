import Derived.Test.YtihgojcfpnhelabGreatDoorS2Kd
import Derived.Test.YtihgojcfpnhelabGreatDoorS2Mb
import Derived.Test.YtihgojcfpnhelabGreatDoorS2Xba
import Derived.Deep.DeepCutAuto
set_option maxRecDepth 100000
set_option maxHeartbeats 4000000
set_option linter.unusedVariables false
set_option linter.unusedSimpArgs false
namespace Go.Proofs.YtihgojcfpnhelabGreatDoor
open Go.RowKit
section
def renP (x y : By) : Pt → Pt
 | .atom k nm n => .atom k (if k = 2 ∧ nm = x then y else nm) n
 | .un k a => .un k (renP x y a)
 | .bin k a b => .bin k (renP x y a) (renP x y b)
 | .ifs a b c => .ifs (renP x y a) (renP x y b) (renP x y c)
theorem krc_length (ks : List KR) : (krc ks).length = ks.length * 4 := by
 induction ks with
 | nil => rfl
 | cons t ks ih => simp [krc] at *; omega
theorem krc_one (ks : List KR) : ∀ u, u ∈ krc ks → u.oneCell' = true := by
 intro u hu
 simp only [krc, List.mem_flatMap] at hu
 obtain ⟨x, _, hx⟩ := hu
 simp only [List.mem_cons, List.not_mem_nil, or_false] at hx
 rcases hx with rfl | rfl | rfl | rfl <;> rfl
theorem nilEq (w : World) (a : Option Addr) (n c n' c' : Nat) : (binOp .eql 47 (.slice a n c) (.slice none n' c')).run Tryz.prog w = .ok (.bool a.isNone) w :=
 Lib.run_eql_slice_nil w _ _ a n c n' c' Tryz.underlying47
theorem cloneNil (w : World) : Calls Tryz.prog 166 #[.slice none 0 0] w fun e w' => e = .returned (.slice none 0 0) ∧ w' = w := by
 have q22 := nilEq
 go_enter Tryz.func166, Tryz.ntmps166
 go_wp2
 go_ret
 exact ⟨rfl, rfl⟩
theorem cloneParts (ks : List KR) (g c : Nat) (w : World) (h1 : 1 ≤ ks.length) (h3 : ks.length ≤ 3) (hc : ∀ j u, (krc ks)[j]? = some u → w.cell? ⟨g, j, none⟩ = some u) :
  Calls Tryz.prog 166 #[.slice (some ⟨g, 0, none⟩) ks.length c] w fun e w' => ∃ g' cap, e = .returned (.slice (some ⟨g', 0, none⟩) ks.length cap) ∧ w'.ownsRow w.heap.size 49 4 (.slice (some ⟨g', 0, none⟩) ks.length cap) ks.length (krc ks) ∧ Below w.heap.size w w' := by
 obtain ⟨i0, hi0, hz0, hz1, hz2⟩ := info_parts infoPart
 have q22 := nilEq
 have HC := tZ hc
 have u22 : ∀ w, Sem.run Tryz.prog (underlying 47) w = .ok (TypeDesc.slice 49) w := run_underlying Tryz.underlying47
 clear hc
 go_enter Tryz.func166, Tryz.ntmps166
 go_wp2_with (at_builtin; refine wpList_append_own _ rfl _ _ 47 rfl w.heap.size 49 i0 (.agg #[.int .i64 0, .string ⟨#[]⟩, .int .i64 0, .slice none 0 0]) 4 56 Tryz.underlying47 hi0 hz0 hz1 hz2 rfl (by decide) _ _ _ rfl (World.ownsRow_made w #[] 0 (Nat.le_refl _) (Nat.zero_le _) (by simp)) ⟨g, 0, none⟩ ks.length c (krc ks) rfl ?qc1 ?qc2 ?qc3 ?qc4 ?qc5 ?qc6 ?_)
 case qc1 => exact krc_length ks
 case qc2 =>
  intro j u hj
  rw [Addr.add_lit, Nat.zero_add]
  exact Lib.cell?_alloc_some _ (HC.out j u hj)
 case qc3 => exact krc_one ks
 case qc4 => unfold maxLen; omega
 case qc5 => omega
 case qc6 => simp
 intro v' w1 hown hgrow hnil
 have hown' : w1.ownsRow w.heap.size 49 4 v' ks.length (krc ks) := by simpa using hown
 obtain ⟨g', cap, rfl, _, _⟩ := hown'.form (by omega)
 go_wp2
 go_ret
 exact ⟨g', cap, rfl, hown', ((Below.refl _ w).alloc (Nat.le_refl _) _).grown hgrow (by simp) (by intro k hk; simp [Value.ownBlock] at hk; omega)⟩
theorem krc_append (a b : List KR) : krc (a ++ b) = krc a ++ krc b := by simp [krc]
theorem krc_cons (x : KR) (b : List KR) : krc (x :: b) = .int .i64 (x.1.k : Int) :: .string ⟨x.1.nm.toArray⟩ :: .int .i64 (x.1.n : Int) :: .slice x.2.1 x.2.2.1 x.2.2.2 :: krc b := by simp [krc]
theorem krc_set4 (a b : List KR) (x y : KR) : ((((krc (a ++ x :: b)).set (a.length * 4) (.int .i64 (y.1.k : Int))).set (a.length * 4 + 1) (.string ⟨y.1.nm.toArray⟩)).set (a.length * 4 + 2) (.int .i64 (y.1.n : Int))).set (a.length * 4 + 3) (.slice y.2.1 y.2.2.1 y.2.2.2) = krc (a ++ y :: b) := by
 have hl := krc_length a
 rw [krc_append, krc_append, krc_cons, krc_cons]
 rw [List.set_append_right _ _ (by omega), List.set_append_right _ _ (by omega), List.set_append_right _ _ (by omega), List.set_append_right _ _ (by omega), hl]
 simp
structure RnI (x y : By) (k n : Int) (nm : By) (w wr : World) (g cap : Nat) (ks ns : List KR) : Prop where
 bel : Below w.heap.size w wr
 p : wr.heap[w.heap.size]? = some (.cells #[.int .i64 k, .string ⟨nm.toArray⟩, .int .i64 n, .slice (some ⟨g, 0, none⟩) ks.length cap] 49 (0, 0))
 R : wr.heap[w.heap.size + 1]? = some (.cells #[.int .i64 0, .string ⟨#[]⟩, .int .i64 0, .slice none 0 0] 49 (0, 0))
 own : wr.ownsRow (w.heap.size + 1 + 1) 49 4 (.slice (some ⟨g, 0, none⟩) ks.length cap) ks.length (krc (ns ++ ks.drop ns.length))
 le : ns.length ≤ ks.length
 kid : ∀ i (h : i < ns.length), ns[i].1 = renP x y (ks[i]'(by omega)).1 ∧ PIs wr (fun q => w.heap.size + 1 < q ∧ q < wr.heap.size ∧ q ≠ g) ns[i].1 ns[i].2.1 ns[i].2.2.1 ns[i].2.2.2
theorem RnI.step {x y : By} {k n : Int} {nm : By} {w wr : World} {g cap : Nat} {ks ns : List KR} (h : RnI x y k n nm w wr g cap ks ns) {W w2 : World} (hW : Below wr.heap.size wr W) (hb : Below W.heap.size W w2) (z : KR) (hj : ns.length < ks.length) (hz : z.1 = renP x y (ks[ns.length]).1) (hP : PIs w2 (fun q => W.heap.size ≤ q ∧ q < w2.heap.size) z.1 z.2.1 z.2.2.1 z.2.2.2) :
  RnI x y k n nm w ((((w2.setCell ⟨g, ns.length * 4, none⟩ (.int .i64 (z.1.k : Int))).setCell ⟨g, ns.length * 4 + 1, none⟩ (.string ⟨z.1.nm.toArray⟩)).setCell ⟨g, ns.length * 4 + 2, none⟩ (.int .i64 (z.1.n : Int))).setCell ⟨g, ns.length * 4 + 3, none⟩ (.slice z.2.1 z.2.2.1 z.2.2.2)) g cap ks (ns ++ [z]) := by
 obtain ⟨hg1, hg2⟩ := h.own.lt g rfl
 have hb2 : Below wr.heap.size wr w2 := hW.trans (hb.mono hW.size)
 have hs := hb2.size
 have hsW := hW.size
 have hfar : ∀ q, q ≠ g → ((((w2.setCell ⟨g, ns.length * 4, none⟩ (.int .i64 (z.1.k : Int))).setCell ⟨g, ns.length * 4 + 1, none⟩ (.string ⟨z.1.nm.toArray⟩)).setCell ⟨g, ns.length * 4 + 2, none⟩ (.int .i64 (z.1.n : Int))).setCell ⟨g, ns.length * 4 + 3, none⟩ (.slice z.2.1 z.2.2.1 z.2.2.2)).heap[q]? = w2.heap[q]? := fun q hq => by
  rw [Below.heap_setCell _ _ _ _ hq, Below.heap_setCell _ _ _ _ hq, Below.heap_setCell _ _ _ _ hq, Below.heap_setCell _ _ _ _ hq]
 have hsz : ((((w2.setCell ⟨g, ns.length * 4, none⟩ (.int .i64 (z.1.k : Int))).setCell ⟨g, ns.length * 4 + 1, none⟩ (.string ⟨z.1.nm.toArray⟩)).setCell ⟨g, ns.length * 4 + 2, none⟩ (.int .i64 (z.1.n : Int))).setCell ⟨g, ns.length * 4 + 3, none⟩ (.slice z.2.1 z.2.2.1 z.2.2.2)).heap.size = w2.heap.size := by simp
 refine ⟨?_, ?_, ?_, ?_, by simp; omega, fun i hi => ?_⟩
 ·exact ((((h.bel.trans (hb2.mono h.bel.size)).setCell (p := ⟨g, _, none⟩) (by show w.heap.size ≤ g; omega) _).setCell (p := ⟨g, _, none⟩) (by show w.heap.size ≤ g; omega) _).setCell (p := ⟨g, _, none⟩) (by show w.heap.size ≤ g; omega) _).setCell (p := ⟨g, _, none⟩) (by show w.heap.size ≤ g; omega) _
 ·rw [hfar _ (by omega), hb2.block _ (Array.getElem?_eq_some_iff.1 h.p).1]; exact h.p
 ·rw [hfar _ (by omega), hb2.block _ (Array.getElem?_eq_some_iff.1 h.R).1]; exact h.R
 ·have ho := own_below h.own hb2
  have hd : ks.drop ns.length = ks[ns.length] :: ks.drop (ns.length + 1) := List.drop_eq_getElem_cons hj
  rw [hd] at ho
  have h4 := (((((ho.stored (ns.length * 4) (.int .i64 (z.1.k : Int))).1).stored (ns.length * 4 + 1) (.string ⟨z.1.nm.toArray⟩)).1.stored (ns.length * 4 + 2) (.int .i64 (z.1.n : Int))).1.stored (ns.length * 4 + 3) (.slice z.2.1 z.2.2.1 z.2.2.2)).1
  rw [krc_set4] at h4
  rw [List.length_append, List.append_assoc]
  exact h4
 ·by_cases hl : i < ns.length
  ·obtain ⟨h1, h2⟩ := h.kid i hl
   rw [List.getElem_append_left hl]
   exact ⟨h1, (h2.next fun q hq => (hfar q hq.2.2).trans (hb2.block q hq.2.1)).wide fun q hq => ⟨hq.1, by rw [hsz]; omega, hq.2.2⟩⟩
  ·obtain rfl : i = ns.length := by simp at hi; omega
   simp only [List.getElem_append_right (Nat.le_refl _), Nat.sub_self, List.getElem_cons_zero]
   have hws : w.heap.size + 1 < wr.heap.size := (Array.getElem?_eq_some_iff.1 h.R).1
   exact ⟨hz, (hP.next fun q hq => hfar q (by omega)).wide fun q hq => ⟨by omega, by rw [hsz]; exact hq.2, by omega⟩⟩
end
section
def RnPost (x y : By) (p : Pt) (w : World) (e : Ending) (w' : World) : Prop :=
 ∃ (a : Option Addr) (l c : Nat), e = .returned (.agg #[.int .i64 ((renP x y p).k : Int), .string ⟨((renP x y p).nm).toArray⟩, .int .i64 ((renP x y p).n : Int), .slice a l c]) ∧ PIs w' (fun q => w.heap.size ≤ q ∧ q < w'.heap.size) (renP x y p) a l c ∧ Below w.heap.size w w'
theorem renP_k (x y : By) (p : Pt) : (renP x y p).k = p.k ∧ (renP x y p).n = p.n ∧ (renP x y p).kids = p.kids.map (renP x y) := by
 cases p <;> exact ⟨rfl, rfl, rfl⟩
theorem ren_leaf (x y : By) (k n : Int) (nm nm' : By) (w : World) (hk : (k = 2 ∧ nm = x ∧ nm' = y) ∨ (k = 2 ∧ nm ≠ x ∧ nm' = nm) ∨ (k ≠ 2 ∧ nm' = nm)) :
  Calls Tryz.prog 130 #[.agg #[.int .i64 k, .string ⟨nm.toArray⟩, .int .i64 n, .slice none 0 0], .string ⟨x.toArray⟩, .string ⟨y.toArray⟩] w fun e w' => e = .returned (.agg #[.int .i64 k, .string ⟨nm'.toArray⟩, .int .i64 n, .slice none 0 0]) ∧ Below w.heap.size w w' := by
 have HC := tZ (fun w => cloneNil w)
 rcases hk with ⟨rfl, rfl, rfl⟩ | ⟨rfl, hx, rfl⟩ | ⟨hk, rfl⟩
 ·have q1 : (nm == nm) = true := by simp
  go_enter Tryz.func130, Tryz.ntmps130
  go_wp2_with (first | (go_at_call 166; refine (HC.out _).mono ?_; rintro e w1 ⟨rfl, rfl⟩))
  go_loopg [27] 0 (fun _ s wr => s = .int .i64 0 ∧ wr = (w.alloc (.cells #[.int .i64 2, .string ⟨nm'.toArray⟩, .int .i64 n, .slice none 0 0] 49)).alloc (.cells #[.int .i64 0, .string ⟨#[]⟩, .int .i64 0, .slice none 0 0] 49))
  case atStart => exact ⟨rfl, rfl⟩
  case round =>
   obtain ⟨rfl, rfl⟩ := hrel
   go_wp2
   refine bodyPost_ret (v := .agg #[.int .i64 2, .string ⟨nm'.toArray⟩, .int .i64 n, .slice none 0 0]) (by simp [results, Tryz.results130, go_sem]) rfl ?_
   exact ⟨rfl, below2 w _ _⟩
 ·have q1 : (nm' == x) = false := by simp [hx]
  clear hx
  go_enter Tryz.func130, Tryz.ntmps130
  go_wp2_with (first | (go_at_call 166; refine (HC.out _).mono ?_; rintro e w1 ⟨rfl, rfl⟩))
  go_loopg [27] 0 (fun _ s wr => s = .int .i64 0 ∧ wr = (w.alloc (.cells #[.int .i64 2, .string ⟨nm'.toArray⟩, .int .i64 n, .slice none 0 0] 49)).alloc (.cells #[.int .i64 0, .string ⟨#[]⟩, .int .i64 0, .slice none 0 0] 49))
  case atStart => exact ⟨rfl, rfl⟩
  case round =>
   obtain ⟨rfl, rfl⟩ := hrel
   go_wp2
   refine bodyPost_ret (v := .agg #[.int .i64 2, .string ⟨nm'.toArray⟩, .int .i64 n, .slice none 0 0]) (by simp [results, Tryz.results130, go_sem]) rfl ?_
   exact ⟨rfl, below2 w _ _⟩
 ·have q1 : (k == 2) = false := beq_eq_false_iff_ne.2 hk
  clear hk
  go_enter Tryz.func130, Tryz.ntmps130
  go_wp2_with (first | (go_at_call 166; refine (HC.out _).mono ?_; rintro e w1 ⟨rfl, rfl⟩))
  go_loopg [27] 0 (fun _ s wr => s = .int .i64 0 ∧ wr = (w.alloc (.cells #[.int .i64 k, .string ⟨nm'.toArray⟩, .int .i64 n, .slice none 0 0] 49)).alloc (.cells #[.int .i64 0, .string ⟨#[]⟩, .int .i64 0, .slice none 0 0] 49))
  case atStart => exact ⟨rfl, rfl⟩
  case round =>
   obtain ⟨rfl, rfl⟩ := hrel
   go_wp2
   refine bodyPost_ret (v := .agg #[.int .i64 k, .string ⟨nm'.toArray⟩, .int .i64 n, .slice none 0 0]) (by simp [results, Tryz.results130, go_sem]) rfl ?_
   exact ⟨rfl, below2 w _ _⟩
def RnN (x y : By) (k n : Int) (nm : By) (ks : List KR) (w : World) (e : Ending) (w' : World) : Prop :=
 ∃ (g cap : Nat) (ns : List KR) (w2 : World), e = .returned (.agg #[.int .i64 k, .string ⟨nm.toArray⟩, .int .i64 n, .slice (some ⟨g, 0, none⟩) ks.length cap]) ∧ RnI x y k n nm w w2 g cap ks ns ∧ ns.length = ks.length ∧ (∀ q, q ≠ w.heap.size + 1 → w'.heap[q]? = w2.heap[q]?) ∧ Below w.heap.size w w' ∧ w'.heap.size = w2.heap.size
theorem ren_node (x y : By) (k n : Int) (nm nm' : By) (w : World) (hk : k ≠ 2 ∧ nm' = nm) (ks : List KR) (g c : Nat) (h1 : 1 ≤ ks.length) (h3 : ks.length ≤ 3) (hg : g < w.heap.size) (hc : ∀ j u, (krc ks)[j]? = some u → w.cell? ⟨g, j, none⟩ = some u)
  (hI : ∀ j (hj : j < ks.length) W, Below w.heap.size w W → Calls Tryz.prog 130 #[.agg #[.int .i64 (ks[j].1.k : Int), .string ⟨ks[j].1.nm.toArray⟩, .int .i64 (ks[j].1.n : Int), .slice ks[j].2.1 ks[j].2.2.1 ks[j].2.2.2], .string ⟨x.toArray⟩, .string ⟨y.toArray⟩] W (RnPost x y ks[j].1 W)) :
  Calls Tryz.prog 130 #[.agg #[.int .i64 k, .string ⟨nm.toArray⟩, .int .i64 n, .slice (some ⟨g, 0, none⟩) ks.length c], .string ⟨x.toArray⟩, .string ⟨y.toArray⟩] w (RnN x y k n nm' ks w) := by
 obtain ⟨hk, rfl⟩ := hk
 have q1 : (k == 2) = false := beq_eq_false_iff_ne.2 hk
 obtain ⟨W4, hW4⟩ : ∃ W4, W4 = (w.alloc (.cells #[.int .i64 k, .string ⟨nm'.toArray⟩, .int .i64 n, .slice (some ⟨g, 0, none⟩) ks.length c] 49)).alloc (.cells #[.int .i64 0, .string ⟨#[]⟩, .int .i64 0, .slice none 0 0] 49) := ⟨_, rfl⟩
 have hs4 : W4.heap.size = w.heap.size + 1 + 1 := by rw [hW4]; simp
 have hb4 : Below w.heap.size w W4 := by rw [hW4]; exact below2 w _ _
 have r0 : W4.heap[w.heap.size]? = some (.cells #[.int .i64 k, .string ⟨nm'.toArray⟩, .int .i64 n, .slice (some ⟨g, 0, none⟩) ks.length c] 49 (0, 0)) := by
  rw [hW4, Below.heap_alloc _ _ _ (by simp)]; exact heap_alloc_new w _
 have r1 : W4.heap[w.heap.size + 1]? = some (.cells #[.int .i64 0, .string ⟨#[]⟩, .int .i64 0, .slice none 0 0] 49 (0, 0)) := by
  rw [hW4]; exact alloc2_new' w _ _ _
 have HCL := tZ (cloneParts ks g c W4 h1 h3 (fun j u hj => (hb4.cell (p := ⟨g, j, none⟩) hg).trans (hc j u hj)))
 have HI := tZ hI
 have HW4 := tZ hW4
 have HR := tZ (And.intro r0 r1)
 have HB4 := tZ hb4
 have HS4 := tZ hs4
 clear hc hI hk hW4 hb4 r0 r1 hs4
 go_enter Tryz.func130, Tryz.ntmps130
 go_wp2_with (first | (go_at_call 166; rw [← HW4.out]; refine HCL.out.mono ?_; rintro e w1 ⟨g', cap, rfl, hown, hb1⟩; refine Hid.out ?_))
 obtain ⟨r0, r1⟩ := HR.out
 have hx0 : w.heap.size < W4.heap.size := by have := HS4.out; omega
 have hx1 : w.heap.size + 1 < W4.heap.size := by have := HS4.out; omega
 have p1 := (hb1.block _ hx0).trans r0
 have R1 := (hb1.block _ hx1).trans r1
 obtain ⟨⟨k0, k1, k2, k3⟩, ⟨f0, f1, f2, f3⟩, hsz⟩ := row4 p1
 have HI0 := tZ (show RnI x y k n nm' w (w1.setCell ⟨w.heap.size, 3, none⟩ (.slice (some ⟨g', 0, none⟩) ks.length cap)) g' cap ks [] from by
  refine ⟨((HB4.out.trans (hb1.mono HB4.out.size)).setCell (p := ⟨w.heap.size, 3, none⟩) (Nat.le_refl _) _), ?_, ?_, ?_, Nat.zero_le _, fun i hi => by simp at hi⟩
  ·rw [setCell_block p1]; rfl
  ·rw [Below.heap_setCell _ _ _ _ (by show w.heap.size + 1 ≠ w.heap.size; omega)]; exact R1
  ·have := ownsRow_setCell_below (a := ⟨w.heap.size, 3, none⟩) hown (by show w.heap.size < W4.heap.size; exact hx0) (.slice (some ⟨g', 0, none⟩) ks.length cap)
   rw [HS4.out] at this
   exact this)
 clear hown hb1 p1 R1 r0 r1 HCL
 refine tZ ?_
 go_wp2_with fail
 go_loopg [27] ks.length (fun gk s wr => ∃ ns : List KR, s = .int .i64 (ns.length : Int) ∧ ks.length ≤ ns.length + gk ∧ Hid (RnI x y k n nm' w wr g' cap ks ns))
 case atStart => exact ⟨[], rfl, by simp, HI0⟩
 case round =>
  obtain ⟨ns, rfl, hgk, HR5⟩ := hrel
  clear k0 k1 k2 k3 f0 f1 f2 f3 hsz
  have hle := HR5.out.le
  obtain ⟨⟨k0, k1, k2, k3⟩, ⟨f0, f1, f2, f3⟩, hsz⟩ := row4 HR5.out.p
  obtain ⟨⟨z0, z1, z2, z3⟩, ⟨y0, y1, y2, y3⟩, hszR⟩ := row4 HR5.out.R
  by_cases hlt : ns.length < ks.length
  ·have hltz : (ns.length : Int) < (ks.length : Int) := by omega
   have hget : (ns ++ ks.drop ns.length)[ns.length]'(by simp; omega) = ks[ns.length] := by simp
   have h4 := krc_get (ns ++ ks.drop ns.length) ns.length (by simp; omega)
   rw [hget] at h4
   have HKG := tZ h4
   have e0 := (HR5.out.own.cellAt (ns.length * 4) (by omega)).trans h4.1
   have e1 := (HR5.out.own.cellAt (ns.length * 4 + 1) (by omega)).trans h4.2.1
   have e2 := (HR5.out.own.cellAt (ns.length * 4 + 2) (by omega)).trans h4.2.2.1
   have e3 := (HR5.out.own.cellAt (ns.length * 4 + 3) (by omega)).trans h4.2.2.2
   obtain ⟨hg1, hg2⟩ := HR5.out.own.lt g' rfl
   have HCALL := tZ (fun W (hb : Below wr.heap.size wr W) => HI.out ns.length hlt W (HR5.out.bel.trans (hb.mono HR5.out.bel.size)))
   clear h4 hget
   generalize hks : ks[ns.length] = kj at *
   obtain ⟨kp, ka, kl, kc⟩ := kj
   have HKS := tZ hks
   clear hks
   simp only at e0 e1 e2 e3
   have HC2 := tZ (show ∀ W, Below wr.heap.size wr W → Calls Tryz.prog 130 #[.agg #[.int .i64 (kp.k : Int), .string ⟨kp.nm.toArray⟩, .int .i64 (kp.n : Int), .slice ka kl kc], .string ⟨x.toArray⟩, .string ⟨y.toArray⟩] W (RnPost x y kp W) from HCALL.out)
   have HPOST := tZ (show ∀ w2, Below wr.heap.size wr w2 → w2.cell? ⟨w.heap.size, 3, none⟩ = some (.slice (some ⟨g', 0, none⟩) ks.length cap) ∧ (w2.cell? ⟨g', ns.length * 4, none⟩ = some (.int .i64 (kp.k : Int)) ∧ w2.cell? ⟨g', ns.length * 4 + 1, none⟩ = some (.string ⟨kp.nm.toArray⟩) ∧ w2.cell? ⟨g', ns.length * 4 + 2, none⟩ = some (.int .i64 (kp.n : Int)) ∧ w2.cell? ⟨g', ns.length * 4 + 3, none⟩ = some (.slice ka kl kc)) ∧ (∀ o, w2.frozen? ⟨g', o, none⟩ = false) from fun w2 hb => by
    have ho := own_below HR5.out.own hb
    exact ⟨(hb.cell (p := ⟨w.heap.size, 3, none⟩) (by show w.heap.size < _; omega)).trans k3, ⟨(hb.cell (p := ⟨g', ns.length * 4, none⟩) hg2).trans e0, (hb.cell (p := ⟨g', ns.length * 4 + 1, none⟩) hg2).trans e1, (hb.cell (p := ⟨g', ns.length * 4 + 2, none⟩) hg2).trans e2, (hb.cell (p := ⟨g', ns.length * 4 + 3, none⟩) hg2).trans e3⟩, fun o => ho.frozenAt o⟩)
   have HW5 := tZ (show Below wr.heap.size wr (wr.alloc (.cells #[.int .i64 (kp.k : Int), .string ⟨kp.nm.toArray⟩, .int .i64 (kp.n : Int), .slice ka kl kc] 49)).drew from (bZ _).drew)
   have hnl : ns.length ≤ 3 := by omega
   clear HCALL
   go_wp2_with fail
   go_region_with (first | (go_at_call 130; refine (HC2.out _ HW5.out).mono ?_; rintro e w2 ⟨a', l', c', rfl, hP, hb2⟩; obtain ⟨m0, ⟨m1, m2, m3, m4⟩, hfz⟩ := HPOST.out _ (HW5.out.trans (hb2.mono HW5.out.size)); have n0 := hfz (ns.length * 4); have n1 := hfz (ns.length * 4 + 1); have n2 := hfz (ns.length * 4 + 2); have n3 := hfz (ns.length * 4 + 3); have B1 := tZ hP; have B2 := tZ hb2; clear hP hb2 hfz))
   all_goals go_wp2_with fail
   all_goals go_roundg (ks.length - (ns.length + 1))
   all_goals try (case measure => omega)
   all_goals exact ⟨ns ++ [(renP x y kp, a', l', c')], by simp, by simp; omega, tZ (HR5.out.step HW5.out B2.out (renP x y kp, a', l', c') hlt (by rw [HKS.out]) B1.out)⟩
  ·have hlen : ns.length = ks.length := by omega
   have hltz : ¬ (ns.length : Int) < (ks.length : Int) := by omega
   have hne : w.heap.size ≠ w.heap.size + 1 := by omega
   go_wp2
   refine bodyPost_ret (v := .agg #[.int .i64 k, .string ⟨nm'.toArray⟩, .int .i64 n, .slice (some ⟨g', 0, none⟩) ks.length cap]) (by simp [results, Tryz.results130, go_sem, z0, z1, z2, z3]) rfl ?_
   exact ⟨g', cap, ns, wr, rfl, HR5.out, hlen, fun q hq => heap4 wr (w.heap.size + 1) _ _ _ _ hq, (((HR5.out.bel.setCell (p := ⟨w.heap.size + 1, 0, none⟩) (by show w.heap.size ≤ w.heap.size + 1; omega) _).setCell (p := ⟨w.heap.size + 1, 1, none⟩) (by show w.heap.size ≤ w.heap.size + 1; omega) _).setCell (p := ⟨w.heap.size + 1, 2, none⟩) (by show w.heap.size ≤ w.heap.size + 1; omega) _).setCell (p := ⟨w.heap.size + 1, 3, none⟩) (by show w.heap.size ≤ w.heap.size + 1; omega) _, by simp⟩
end
end Go.Proofs.YtihgojcfpnhelabGreatDoor
