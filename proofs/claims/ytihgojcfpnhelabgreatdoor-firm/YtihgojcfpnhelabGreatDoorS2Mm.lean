import Derived.Test.YtihgojcfpnhelabGreatDoorS2Mg
import Derived.Test.YtihgojcfpnhelabGreatDoorS2Mj
import Derived.Test.YtihgojcfpnhelabGreatDoorS2Z
set_option maxRecDepth 100000
set_option maxHeartbeats 4000000
set_option linter.unusedVariables false
set_option linter.unusedSimpArgs false
namespace Go.Proofs.YtihgojcfpnhelabGreatDoor
open Go.RowKit
section
def Shape : Pt → Prop
 | .atom k _ _ => k = 1 ∨ k = 2 ∨ k = 7 ∨ k = 8
 | .un k a => (k = 9 ∨ k = 14 ∨ k = 6) ∧ Shape a
 | .bin k a b => (k = 4 ∨ k = 5 ∨ k = 12 ∨ k = 13 ∨ k = 15 ∨ k = 16 ∨ k = 17 ∨ k = 18 ∨ k = 19) ∧ Shape a ∧ Shape b
 | .ifs a b c => Shape a ∧ Shape b ∧ Shape c
theorem Shape.get {p : Pt} (h : Shape p) : ∀ j (hj : j < p.kids.length), Shape p.kids[j] := by
 intro j hj
 cases p with
 | atom k x n => simp [Pt.kids] at hj
 | un k a =>
  obtain rfl : j = 0 := by simp [Pt.kids] at hj; omega
  exact h.2
 | bin k a b =>
  rcases (show j = 0 ∨ j = 1 by simp [Pt.kids] at hj; omega) with rfl | rfl
  ·exact h.2.1
  ·exact h.2.2
 | ifs a b c =>
  rcases (show j = 0 ∨ j = 1 ∨ j = 2 by simp [Pt.kids] at hj; omega) with rfl | rfl | rfl
  ·exact h.1
  ·exact h.2.1
  ·exact h.2.2
theorem sgn_kind (n : Nat) (h1 : 1 ≤ n) (h5 : n ≤ 5) (t : By) (k : Nat) (h : inB t (sgn n) = true) (hc : Cls t k) : k = 4 ∨ k = 5 ∨ k = 12 ∨ k = 13 ∨ k = 15 ∨ k = 16 ∨ k = 17 ∨ k = 18 ∨ k = 19 := by
 have hn : n = 1 ∨ n = 2 ∨ n = 3 ∨ n = 4 ∨ n = 5 := by omega
 have key : ∀ x m, (x, m) ∈ meanN → t = x → k = m := fun x m hm ht => (cls_word x m hm t k hc).2 ht
 simp only [inB, List.contains_iff_mem] at h
 rcases hn with rfl | rfl | rfl | rfl | rfl <;> simp only [sgn, List.mem_cons, List.not_mem_nil, or_false] at h
 ·have := key _ 5 (by decide) h; omega
 ·have := key _ 4 (by decide) h; omega
 ·rcases h with h | h
  ·have := key _ 18 (by decide) h; omega
  ·have := key _ 19 (by decide) h; omega
 ·rcases h with h | h
  ·have := key _ 12 (by decide) h; omega
  ·have := key _ 13 (by decide) h; omega
 ·rcases h with h | h | h
  ·have := key _ 15 (by decide) h; omega
  ·have := key _ 16 (by decide) h; omega
  ·have := key _ 17 (by decide) h; omega
theorem Der.shape {ts : List (By × Nat)} {n i j : Nat} {p : Pt} (h : Der ts n i j p) : Shape p := by
 induction h with
 | atom i k _ _ hk => exact hk
 | nots _ _ _ _ _ ih => exact ⟨Or.inr (Or.inr rfl), ih⟩
 | neg _ _ _ _ _ ih => exact ⟨Or.inr (Or.inl rfl), ih⟩
 | br _ _ _ _ _ _ ih => exact ⟨Or.inl rfl, ih⟩
 | ifs _ _ _ _ _ _ _ _ _ _ _ _ _ _ _ iha ihb ihc => exact ⟨iha, ihb, ihc⟩
 | up _ _ _ _ _ _ _ ih => exact ih
 | more n i j j' k a b h1 h5 _ hs hc _ iha ihb => exact ⟨sgn_kind n h1 h5 _ k hs hc, iha, ihb⟩
end
section
def kidAt (p : Pt) (j : Nat) : Pt := (p.kids[j]?).getD (.atom 1 [] 0)
theorem kidAt_eq (p : Pt) (j : Nat) (h : j < p.kids.length) : kidAt p j = p.kids[j] := by
 simp [kidAt, h]
theorem worth169 (r : Value) (ρ : By → Vl) {w0 : World} {S : Nat → Prop} {p : Pt} {a : Option Addr} {l c : Nat} (hP : PIs w0 S p a l c) : ∀ w, Shape p → (∀ q, S q → q < w.heap.size ∧ w.heap[q]? = w0.heap[q]?) → (∀ x W, Below w.heap.size w W → Calls Tryz.prog 101 #[r, .string ⟨(x : By).toArray⟩] W (VPost (ρ x) W)) →
  Calls Tryz.prog 128 #[.agg #[namedV r], .agg #[.int .i64 (p.k : Int), .string ⟨p.nm.toArray⟩, .int .i64 (p.n : Int), .slice a l c]] w (VPost (valP ρ p) w) := by
 induction hP with
 | leaf p hk =>
  intro w hSh _ hN
  cases p with
  | atom k x n =>
   rcases hSh with rfl | rfl | rfl | rfl
   ·exact w_num r x n none 0 0 w
   ·exact w_name r x n none 0 0 (ρ x) w (hN x)
   ·exact w_true r x n none 0 0 w
   ·exact w_false r x n none 0 0 w
  | un => simp [Pt.kids] at hk
  | bin => simp [Pt.kids] at hk
  | ifs => simp [Pt.kids] at hk
 | node p g cap A L C hg hk hc _ ih =>
  intro w hSh hS hN
  have hK : KidsAt w (some ⟨g, 0, none⟩) p.kids.length (kidAt p) A L C := fun j hj => by
   refine ⟨g, rfl, (hS g hg).1, ?_⟩
   rw [kidAt_eq p j hj, cell_congr (hS g hg).2, cell_congr (hS g hg).2, cell_congr (hS g hg).2, cell_congr (hS g hg).2]
   exact hc j hj
  have hV : KidsV r w p.kids.length (kidAt p) A L C (fun j => valP ρ (kidAt p j)) := fun j hj W hW => by
   have := ih j hj W (hSh.get j hj) (fun q hq => ⟨Nat.lt_of_lt_of_le (hS q hq).1 hW.size, (hW.block q (hS q hq).1).trans (hS q hq).2⟩) (fun x W' hW' => hN x W' (hW.trans (hW'.mono hW.size)))
   rw [← kidAt_eq p j hj] at this
   exact this
  cases p with
  | atom k x n => exact absurd rfl hk
  | un k y =>
   rcases hSh.1 with rfl | rfl | rfl
   ·exact w_open r [] 0 _ 1 cap _ A L C _ w (by omega) (by omega) hK hV
   ·exact w_neg r [] 0 _ 1 cap _ A L C _ w (by omega) (by omega) hK hV
   ·exact w_not r [] 0 _ 1 cap _ A L C _ w (by omega) (by omega) hK hV
  | bin k y z =>
   by_cases h4 : k = 4
   ·subst h4
    exact w_and r (.bin 4 y z) _ 2 cap _ A L C _ w rfl rfl hK hV
   ·by_cases h5 : k = 5
    ·subst h5
     exact w_or r (.bin 5 y z) _ 2 cap _ A L C _ w rfl rfl hK hV
    ·have e : valP ρ (.bin k y z) = vTwo k (valP ρ y) (valP ρ z) := by simp only [valP, if_neg h4, if_neg h5]
     rw [e]
     exact w_two r (.bin k y z) _ 2 cap _ A L C _ w rfl (by have := hSh.1; show k ≠ 1 ∧ k ≠ 7 ∧ k ≠ 8 ∧ k ≠ 2 ∧ k ≠ 9 ∧ k ≠ 14 ∧ k ≠ 6 ∧ k ≠ 4 ∧ k ≠ 5 ∧ k ≠ 3; omega) hK hV
  | ifs y z u => exact w_if r (.ifs y z u) _ 3 cap _ A L C _ w rfl rfl hK hV
end
section
theorem renamed170 (x y : By) {w0 : World} {S : Nat → Prop} {p : Pt} {a : Option Addr} {l c : Nat} (hP : PIs w0 S p a l c) : ∀ w, Shape p → (∀ q, S q → q < w.heap.size ∧ w.heap[q]? = w0.heap[q]?) →
  Calls Tryz.prog 130 #[.agg #[.int .i64 (p.k : Int), .string ⟨p.nm.toArray⟩, .int .i64 (p.n : Int), .slice a l c], .string ⟨x.toArray⟩, .string ⟨y.toArray⟩] w (RnPost x y p w) := by
 induction hP with
 | leaf p hk =>
  intro w _ _
  cases p with
  | atom k nm n =>
   refine (ren_leaf x y (k : Int) (n : Int) nm (if k = 2 ∧ nm = x then y else nm) w ?_).mono ?_
   ·by_cases h2 : k = 2
    ·by_cases hx : nm = x
     ·exact Or.inl ⟨by omega, hx, by simp [h2, hx]⟩
     ·exact Or.inr (Or.inl ⟨by omega, hx, by simp [hx]⟩)
    ·exact Or.inr (Or.inr ⟨by omega, by simp [h2]⟩)
   ·rintro e w' ⟨rfl, hb⟩
    exact ⟨none, 0, 0, rfl, PIs.leaf _ rfl, hb⟩
  | un k a => simp [Pt.kids] at hk
  | bin k a b => simp [Pt.kids] at hk
  | ifs a b c => simp [Pt.kids] at hk
 | node p g cap A L C hg hk hc _ ih =>
  intro w hsh hS
  have hform : p.k ≠ 2 ∧ p.nm = [] ∧ (renP x y p).nm = [] := by
   cases p with
   | atom k nm n => simp [Pt.kids] at hk
   | un k a => exact ⟨by have := hsh.1; show k ≠ 2; omega, rfl, rfl⟩
   | bin k a b => exact ⟨by have := hsh.1; show k ≠ 2; omega, rfl, rfl⟩
   | ifs a b c => exact ⟨by show (3 : Nat) ≠ 2; omega, rfl, rfl⟩
  have hl3 : p.kids.length ≤ 3 := by cases p <;> simp [Pt.kids]
  have hl1 : 1 ≤ p.kids.length := List.length_pos_iff.2 hk
  obtain ⟨ks, hks⟩ : ∃ ks : List KR, ks = (List.range p.kids.length).map fun j => ((p.kids[j]?).getD (.atom 1 [] 0), A j, L j, C j) := ⟨_, rfl⟩
  have hlen : ks.length = p.kids.length := by rw [hks]; simp
  have hget : ∀ j (h : j < ks.length), ks[j] = (p.kids[j]'(by omega), A j, L j, C j) := fun j h => by
   have h' : j < p.kids.length := by omega
   simp [hks, h']
  have hsh' := hsh.get
  have := ren_node x y (p.k : Int) (p.n : Int) p.nm p.nm w ⟨by have := hform.1; omega, rfl⟩ ks g cap (by omega) (by omega) (hS g hg).1 (fun j u hj => ?_) (fun j hj W hW => ?_)
  ·rw [hlen] at this
   refine this.mono ?_
   rintro e w' ⟨g', cap', ns, w2, rfl, hR, hnl, hfar, hb, hsz⟩
   obtain ⟨hg1, hg2⟩ := hR.own.lt g' rfl
   obtain ⟨e1, e2, e3⟩ := renP_k x y p
   refine ⟨some ⟨g', 0, none⟩, p.kids.length, cap', by rw [e1, e2, hform.2.1, hform.2.2, hlen], ?_, hb⟩
   have hd : ks.drop ns.length = [] := List.drop_eq_nil_of_le (by omega)
   have hown := hR.own
   rw [hd, List.append_nil, ← hnl] at hown
   have hrow := PIs.row (S := fun q => w.heap.size + 1 < q ∧ q < w2.heap.size) hown (fun z hz => ?_) ⟨by omega, hg2⟩ (renP x y p) ?_ (by intro h; rw [h] at hnl; simp at hnl; omega)
   ·rw [hnl, hlen] at hrow
    exact (hrow.next fun q hq => hfar q (by omega)).wide fun q hq => ⟨by omega, by rw [hsz]; exact hq.2⟩
   ·obtain ⟨i, hi, rfl⟩ := List.getElem_of_mem hz
    exact (hR.kid i hi).2.wide fun q hq => ⟨hq.1, hq.2.1⟩
   ·rw [e3]
    refine List.ext_getElem (by simp; omega) fun i h1 h2 => ?_
    simp only [List.getElem_map]
    rw [(hR.kid i (by simpa using h2)).1, hget]
  ·rw [cell_congr (hS g hg).2]
   have hj4 : j < (krc ks).length := (List.getElem?_eq_some_iff.1 hj).1
   rw [krc_length] at hj4
   have hi : j / 4 < ks.length := by omega
   have h4 := krc_get ks (j / 4) hi
   have c4 := hc (j / 4) (by omega)
   rw [hget _ hi] at h4
   rcases (show j = j / 4 * 4 ∨ j = j / 4 * 4 + 1 ∨ j = j / 4 * 4 + 2 ∨ j = j / 4 * 4 + 3 by omega) with hm | hm | hm | hm
   ·rw [← hm] at h4 c4
    rw [c4.1, ← hj]; exact h4.1.symm
   ·rw [← hm] at h4 c4
    rw [c4.2.1, ← hj]; exact h4.2.1.symm
   ·rw [← hm] at h4 c4
    rw [c4.2.2.1, ← hj]; exact h4.2.2.1.symm
   ·rw [← hm] at h4 c4
    rw [c4.2.2.2, ← hj]; exact h4.2.2.2.symm
  ·rw [hget j hj]
   have hj' : j < p.kids.length := by omega
   exact ih j hj' W (hsh' j hj') fun q' hq' => ⟨Nat.lt_of_lt_of_le (hS q' hq').1 hW.size, (hW.block q' (hS q' hq').1).trans (hS q' hq').2⟩
end
section
theorem entersM : ∀ args w, (callFunc 157 args).run Tryz.prog w = .ok (.enter 157 args) w := enters_of Tryz.func157 (by kernel_rfl) rfl
theorem indexParts (a : Option Addr) (n c : Nat) (lb : Value) (w : World) (q : Nat → Pt) (A : Nat → Option Addr) (L C : Nat → Nat) (f : Nat → Bool) (hn : n ≤ 3) (hK : KidsAt w a n q A L C)
  (hp : ∀ j, j < n → ∀ W, Below w.heap.size w W → Calls Tryz.prog 157 #[.agg #[.int .i64 ((q j).k : Int), .string ⟨((q j).nm).toArray⟩, .int .i64 ((q j).n : Int), .slice (A j) (L j) (C j)], lb] W fun e w' => e = .returned (.bool (f j)) ∧ Below w.heap.size w w') :
  Calls Tryz.prog 175 #[.slice a n c, .func (.func 157) #[] #[lb]] w fun e w' => ∃ z : Int, e = .returned (.int .i64 z) ∧ (0 ≤ z ↔ ∃ j, j < n ∧ f j = true) ∧ Below w.heap.size w w' := by
 have HK := tZ hK
 have HP := tZ hp
 have eg := entersM
 clear hK hp
 go_enter Tryz.func175, Tryz.ntmps175
 go_wp2_with fail
 go_loopg [5, 8] n (fun gk _ s8 wr => ∃ j : Nat, j ≤ n ∧ n ≤ j + gk ∧ s8 = .int .i64 (j : Int) ∧ Hid (Below w.heap.size w wr) ∧ Hid (∀ i, i < j → f i = false))
 case atStart => exact ⟨0, Nat.zero_le _, by omega, rfl, Below.refl _ _, fun i hi => by omega⟩
 case round =>
  obtain ⟨j, hj, hgk, rfl, HB, HF⟩ := hrel
  by_cases hlt : j < n
  ·obtain ⟨g, rfl, hg, c0, c1, c2, c3⟩ := HK.out j hlt
   have d0 := (HB.out.cell (p := ⟨g, j * 4, none⟩) hg).trans c0
   have d1 := (HB.out.cell (p := ⟨g, j * 4 + 1, none⟩) hg).trans c1
   have d2 := (HB.out.cell (p := ⟨g, j * 4 + 2, none⟩) hg).trans c2
   have d3 := (HB.out.cell (p := ⟨g, j * 4 + 3, none⟩) hg).trans c3
   have HC := tZ (HP.out j hlt wr HB.out)
   have hltz : (j : Int) < (n : Int) := by omega
   clear c0 c1 c2 c3
   cases hf : f j with
   | true =>
    rw [hf] at HC
    go_wp2_with (first | (go_at_fn 157; refine HC.out.mono ?_; rintro e w1 ⟨rfl, hb1⟩) | (go_at_call 157; refine HC.out.mono ?_; rintro e w1 ⟨rfl, hb1⟩))
    go_ret
    exact ⟨_, rfl, ⟨fun _ => ⟨j, hlt, hf⟩, fun _ => by omega⟩, hb1⟩
   | false =>
    rw [hf] at HC
    go_wp2_with (first | (go_at_fn 157; refine HC.out.mono ?_; rintro e w1 ⟨rfl, hb1⟩) | (go_at_call 157; refine HC.out.mono ?_; rintro e w1 ⟨rfl, hb1⟩))
    go_roundg (n - (j + 1))
    case measure => omega
    case rel =>
     refine ⟨j + 1, by omega, by omega, by go_num, hb1, (show Hid _ from fun i hi => ?_)⟩
     by_cases e : i = j
     ·subst e; exact hf
     ·exact HF.out i (by omega)
  ·have hltz : ¬ (j : Int) < (n : Int) := by omega
   go_wp2
   go_ret
   refine ⟨_, rfl, ⟨fun h => by omega, fun ⟨i, hi, h⟩ => ?_⟩, HB.out⟩
   rw [HF.out i (by omega)] at h
   cases h
theorem containsParts (a : Option Addr) (n c : Nat) (lb : Value) (w : World) (q : Nat → Pt) (A : Nat → Option Addr) (L C : Nat → Nat) (f : Nat → Bool) (b : Bool) (hn : n ≤ 3) (hK : KidsAt w a n q A L C) (hb : b = true ↔ ∃ j, j < n ∧ f j = true)
  (hp : ∀ j, j < n → ∀ W, Below w.heap.size w W → Calls Tryz.prog 157 #[.agg #[.int .i64 ((q j).k : Int), .string ⟨((q j).nm).toArray⟩, .int .i64 ((q j).n : Int), .slice (A j) (L j) (C j)], lb] W fun e w' => e = .returned (.bool (f j)) ∧ Below w.heap.size w w') :
  Calls Tryz.prog 156 #[.slice a n c, .func (.func 157) #[] #[lb]] w fun e w' => e = .returned (.bool b) ∧ Below w.heap.size w w' := by
 have H := tZ (indexParts a n c lb w q A L C f hn hK hp)
 have HB := tZ hb
 clear hK hp hb
 go_enter Tryz.func156, Tryz.ntmps156
 go_wp2_with (first | (go_at_call 175; refine H.out.mono ?_; rintro e w1 ⟨z, rfl, hz, hb1⟩; refine Hid.out ?_))
 have hbz : decide (0 ≤ z) = b := by
  have h1 := hz.trans HB.out.symm
  cases b with
  | true => exact decide_eq_true (h1.2 rfl)
  | false => exact decide_eq_false (fun h => by cases h1.1 h)
 have HZ := tZ hbz
 have HB1 := tZ hb1
 clear hz hb1 hbz
 refine tZ ?_
 go_wp2
 go_ret
 exact ⟨congrArg (fun b => Ending.returned (.bool b)) HZ.out, HB1.out⟩
theorem closM (x : By) (k n : Int) (y : By) (a : Option Addr) (l c B : Nat) (b : Bool) (w : World) (hB : B < w.heap.size) (hc : w.cell? ⟨B, 0, none⟩ = some (.string ⟨x.toArray⟩))
  (hM : ∀ W, Below w.heap.size w W → Calls Tryz.prog 126 #[.agg #[.int .i64 k, .string ⟨y.toArray⟩, .int .i64 n, .slice a l c], .string ⟨x.toArray⟩] W fun e w' => e = .returned (.bool b) ∧ Below W.heap.size W w') :
  Calls Tryz.prog 157 #[.agg #[.int .i64 k, .string ⟨y.toArray⟩, .int .i64 n, .slice a l c], .pointer (some ⟨B, 0, none⟩)] w fun e w' => e = .returned (.bool b) ∧ Below w.heap.size w w' := by
 have HM := tZ hM
 clear hM
 go_enter Tryz.func157, Tryz.ntmps157
 go_wp2_with (first | (go_at_call 126; refine (HM.out _ (bZ _)).mono ?_; rintro e w1 ⟨rfl, hb1⟩))
 go_ret
 exact ⟨rfl, (bZ _).trans (hb1.mono (by simp))⟩
theorem ment_core (x : By) (p : Pt) (a : Option Addr) (c : Nat) (w : World) (q : Nat → Pt) (A : Nat → Option Addr) (L C : Nat → Nat) (f : Nat → Bool) (b : Bool) (hn : p.kids.length ≤ 3) (hK : KidsAt w a p.kids.length q A L C) (hb : b = true ↔ ∃ j, j < p.kids.length ∧ f j = true)
  (hM : ∀ j, j < p.kids.length → ∀ W, Below w.heap.size w W → Calls Tryz.prog 126 #[.agg #[.int .i64 ((q j).k : Int), .string ⟨((q j).nm).toArray⟩, .int .i64 ((q j).n : Int), .slice (A j) (L j) (C j)], .string ⟨x.toArray⟩] W fun e w' => e = .returned (.bool (f j)) ∧ Below W.heap.size W w') :
  Calls Tryz.prog 126 #[.agg #[.int .i64 (p.k : Int), .string ⟨p.nm.toArray⟩, .int .i64 (p.n : Int), .slice a p.kids.length c], .string ⟨x.toArray⟩] w fun e w' => e = .returned (.bool ((p.k == 2 && p.nm == x) || b)) ∧ Below w.heap.size w w' := by
 have HK := tZ hK
 have HM := tZ hM
 clear hK hM
 have HCF := tZ (containsParts a p.kids.length c (.pointer (some ⟨w.heap.size + 1, 0, none⟩)) ((w.alloc (.cells #[.int .i64 (p.k : Int), .string ⟨p.nm.toArray⟩, .int .i64 (p.n : Int), .slice a p.kids.length c] 49)).alloc (.cells #[.string ⟨x.toArray⟩] 9)) q A L C f b hn (HK.out.next (below2 _ _ _)) hb (fun j hj W hW => by
  have hB : w.heap.size + 1 < ((w.alloc (.cells #[.int .i64 (p.k : Int), .string ⟨p.nm.toArray⟩, .int .i64 (p.n : Int), .slice a p.kids.length c] 49)).alloc (.cells #[.string ⟨x.toArray⟩] 9)).heap.size := by simp
  have hc : W.cell? ⟨w.heap.size + 1, 0, none⟩ = some (.string ⟨x.toArray⟩) := (hW.cell (p := ⟨w.heap.size + 1, 0, none⟩) hB).trans (row1 (alloc2_new' w _ _ _)).1
  exact (closM x _ _ _ _ _ _ (w.heap.size + 1) (f j) W (Nat.lt_of_lt_of_le hB hW.size) hc (fun W' hW' => HM.out j hj W' ((below2 w _ _).trans ((hW.mono (by simp; omega)).trans (hW'.mono (by have := hW.size; simp at this; omega)))))).mono fun e w' h => ⟨h.1, hW.trans (h.2.mono hW.size)⟩))
 by_cases hk : p.k = 2
 ·have qk : ((p.k : Int) == 2) = true := by simp [hk]
  by_cases hx : p.nm = x
  ·have qx : (p.nm == x) = true := by simp [hx]
   have HE := tZ (show ((p.k == 2 && p.nm == x) || b) = true by simp [hk, hx])
   rw [HE.out]
   clear hk hx hb
   go_enter Tryz.func126, Tryz.ntmps126
   go_wp2
   go_ret
   exact ⟨rfl, below2 w _ _⟩
  ·have qx : (p.nm == x) = false := by simp [hx]
   have HE := tZ (show Ending.returned (.bool b) = Ending.returned (.bool ((p.k == 2 && p.nm == x) || b)) by simp [hx])
   clear hk hx hb
   go_enter Tryz.func126, Tryz.ntmps126
   go_wp2_with (first | (go_at_call 156; refine HCF.out.mono ?_; rintro e w1 ⟨rfl, hb1⟩))
   go_ret
   exact ⟨HE.out, (below2 w _ _).trans (hb1.mono (by simp; omega))⟩
 ·have qk : ((p.k : Int) == 2) = false := beq_eq_false_iff_ne.2 (by omega)
  have HE := tZ (show Ending.returned (.bool b) = Ending.returned (.bool ((p.k == 2 && p.nm == x) || b)) by simp [hk])
  clear hk hb
  go_enter Tryz.func126, Tryz.ntmps126
  go_wp2_with (first | (go_at_call 156; refine HCF.out.mono ?_; rintro e w1 ⟨rfl, hb1⟩))
  go_ret
  exact ⟨HE.out, (below2 w _ _).trans (hb1.mono (by simp; omega))⟩
theorem mentions168 (x : By) {w0 : World} {S : Nat → Prop} {p : Pt} {a : Option Addr} {l c : Nat} (hP : PIs w0 S p a l c) : ∀ w, (∀ q, S q → q < w.heap.size ∧ w.heap[q]? = w0.heap[q]?) →
  Calls Tryz.prog 126 #[.agg #[.int .i64 (p.k : Int), .string ⟨p.nm.toArray⟩, .int .i64 (p.n : Int), .slice a l c], .string ⟨x.toArray⟩] w fun e w' => e = .returned (.bool (mentP x p)) ∧ Below w.heap.size w w' := by
 induction hP with
 | leaf p hk =>
  intro w _
  have h0 : p.kids.length = 0 := by rw [hk]; rfl
  have := ment_core x p none 0 w (fun _ => p) (fun _ => none) (fun _ => 0) (fun _ => 0) (fun _ => false) false (by omega) (fun j hj => by omega) ⟨fun h => (by cases h), fun ⟨j, hj, _⟩ => by omega⟩ (fun j hj => by omega)
  rw [h0] at this
  rw [mentP_eq, hk]
  exact this
 | node p g cap A L C hg hk hc _ ih =>
  intro w hS
  have hq : ∀ j (h : j < p.kids.length), (p.kids[j]?).getD (.atom 1 [] 0) = p.kids[j] := fun j h => by simp [h]
  rw [mentP_eq]
  refine ment_core x p (some ⟨g, 0, none⟩) cap w (fun j => (p.kids[j]?).getD (.atom 1 [] 0)) A L C (fun j => mentP x ((p.kids[j]?).getD (.atom 1 [] 0))) _ (by cases p <;> simp [Pt.kids]) (fun j hj => ?_) ?_ (fun j hj W hW => ?_)
  ·refine ⟨g, rfl, (hS g hg).1, ?_⟩
   simp only [hq j hj]
   rw [cell_congr (hS g hg).2, cell_congr (hS g hg).2, cell_congr (hS g hg).2, cell_congr (hS g hg).2]
   exact hc j hj
  ·rw [List.any_map, List.any_eq_true]
   constructor
   ·rintro ⟨y, hy, h⟩
    obtain ⟨j, hj, rfl⟩ := List.getElem_of_mem hy
    exact ⟨j, hj, by simp only [hq j hj]; exact h⟩
   ·rintro ⟨j, hj, h⟩
    simp only [hq j hj] at h
    exact ⟨_, List.getElem_mem hj, h⟩
  ·simp only [hq j hj]
   exact ih j hj W fun q' hq' => ⟨Nat.lt_of_lt_of_le (hS q' hq').1 hW.size, (hW.block q' (hS q' hq').1).trans (hS q' hq').2⟩
end
section
theorem ruleMentions (x : By) {S : Nat → Prop} (p : Pt) (a : Option Addr) (l c : Nat) (w : World) (hP : PIs w S p a l c) (hS : ∀ q, S q → q < w.heap.size) :
  Calls Tryz.prog 98 #[.agg #[.int .i64 (p.k : Int), .string ⟨p.nm.toArray⟩, .int .i64 (p.n : Int), .slice a l c], .string ⟨x.toArray⟩] w fun e w' => e = .returned (.bool (mentP x p)) ∧ Below w.heap.size w w' := by
 have H := tZ (fun w1 (hb : Below w.heap.size w w1) => mentions168 x hP w1 (fun q hq => ⟨Nat.lt_of_lt_of_le (hS q hq) hb.size, hb.block q (hS q hq)⟩))
 clear hP hS
 go_enter Tryz.func98, Tryz.ntmps98
 go_wp2_with (first | (go_at_call 126; refine (H.out _ (bZ _)).mono ?_; rintro e w1 ⟨rfl, hb1⟩))
 go_ret
 exact ⟨rfl, (bZ _).trans (hb1.mono (by simp))⟩
theorem ruleWorth (r : Value) (ρ : By → Vl) {S : Nat → Prop} (p : Pt) (a : Option Addr) (l c : Nat) (w : World) (hP : PIs w S p a l c) (hS : ∀ q, S q → q < w.heap.size) (hsh : Shape p) (hN : ∀ x W, Below w.heap.size w W → Calls Tryz.prog 101 #[r, .string ⟨(x : By).toArray⟩] W (VPost (ρ x) W)) :
  Calls Tryz.prog 100 #[.agg #[.int .i64 (p.k : Int), .string ⟨p.nm.toArray⟩, .int .i64 (p.n : Int), .slice a l c], namedV r] w (VPost (valP ρ p) w) := by
 have H := tZ (fun w1 (hb : Below w.heap.size w w1) => worth169 r ρ hP w1 hsh (fun q hq => ⟨Nat.lt_of_lt_of_le (hS q hq) hb.size, hb.block q (hS q hq)⟩) (fun x W hW => hN x W (hb.trans (hW.mono hb.size))))
 clear hP hS hN hsh
 go_enter Tryz.func100, Tryz.ntmps100
 go_wp2_with (first | (go_at_call 128; refine (H.out _ (below2 _ _ _)).mono ?_; rintro e w1 ⟨rfl, hb1⟩; refine Hid.out ?_))
 have hR := (hb1.block (w.heap.size + 1) (by simp)).trans (alloc2_new' w _ _ _)
 obtain ⟨⟨k0, k1⟩, ⟨f0, f1⟩, hsz⟩ := row2 hR
 have HB := tZ (show Below w.heap.size w w1 from (below2 w _ _).trans (hb1.mono (by simp; omega)))
 clear hb1 hR H
 generalize valP ρ p = vv at *
 refine tZ ?_
 go_wp2
 refine bodyPost_ret (v := .agg #[.int .i64 vv.1, .int .i64 vv.2]) (by simp [results, Tryz.results100, go_sem, k0, k1]) rfl ?_
 exact ⟨rfl, below_st2 HB.out _ (by omega) _ _⟩
def RuPost (x y : By) (p : Pt) (w : World) (e : Ending) (w' : World) : Prop :=
 Below w.heap.size w w' ∧ ((100 < (txt (renP x y p)).length ∧ e = .returned (.tuple #[.agg #[.int .i64 0, .string ⟨#[]⟩, .int .i64 0, .slice none 0 0], .int .i64 7])) ∨ (¬ 100 < (txt (renP x y p)).length ∧ ∃ (a : Option Addr) (l c : Nat), e = .returned (.tuple #[.agg #[.int .i64 ((renP x y p).k : Int), .string ⟨((renP x y p).nm).toArray⟩, .int .i64 ((renP x y p).n : Int), .slice a l c], .int .i64 0]) ∧ PIs w' (fun q => w.heap.size ≤ q ∧ q < w'.heap.size) (renP x y p) a l c))
theorem ruleRenamed (x y : By) {S : Nat → Prop} (p : Pt) (a : Option Addr) (l c : Nat) (w : World) (hP : PIs w S p a l c) (hS : ∀ q, S q → q < w.heap.size) (hsh : Shape p) (hE : Env w) (hG : Good (renP x y p)) (hl : (txt (renP x y p)).length ≤ 1000000) :
  Calls Tryz.prog 103 #[.agg #[.int .i64 (p.k : Int), .string ⟨p.nm.toArray⟩, .int .i64 (p.n : Int), .slice a l c], .string ⟨x.toArray⟩, .string ⟨y.toArray⟩] w (RuPost x y p w) := by
 have H := tZ (fun w1 (hb : Below w.heap.size w w1) => renamed170 x y hP w1 hsh (fun q hq => ⟨Nat.lt_of_lt_of_le (hS q hq) hb.size, hb.block q (hS q hq)⟩))
 have HBD := tZ (show ∀ (a : Option Addr) (l c : Nat) (w1 w2 : World), Below w.heap.size w w1 → PIs w2 (fun q => w1.heap.size ≤ q ∧ q < w2.heap.size) (renP x y p) a l c → Below w1.heap.size w1 w2 → Calls Tryz.prog 72 #[.agg #[.int .i64 ((renP x y p).k : Int), .string ⟨((renP x y p).nm).toArray⟩, .int .i64 ((renP x y p).n : Int), .slice a l c]] w2 (RuPost x y p w1) from fun a l c w1 w2 hb hp hb2 => by
  have hb3 := hb.trans (hb2.mono hb.size)
  refine (bounded15 (renP x y p) a l c w2 hp (fun q hq => hq.2) (hE.next hb3) hG hl).mono ?_
  rintro e w' ⟨hb4, h⟩
  refine ⟨hb2.trans (hb4.mono hb2.size), ?_⟩
  rcases h with ⟨h1, h2⟩ | ⟨h1, h2⟩
  ·exact Or.inl ⟨h1, h2⟩
  ·exact Or.inr ⟨h1, a, l, c, h2, (hp.next fun q hq => hb4.block q hq.2).wide fun q hq => ⟨hq.1, Nat.lt_of_lt_of_le hq.2 hb4.size⟩⟩)
 clear hP hS hsh hE hG hl
 go_enter Tryz.func103, Tryz.ntmps103
 go_wp2_with (first | (go_at_call 130; refine (H.out _ (below2 _ _ _)).mono ?_; rintro e w1 ⟨a', l', c', rfl, hp1, hb1⟩) | (go_at_call 72; refine (HBD.out _ _ _ _ _ (below2 _ _ _) hp1 hb1).mono ?_; rintro e w3 ⟨hb3, ⟨h1, rfl⟩ | ⟨h1, a2, l2, c2, rfl, hp2⟩⟩ <;> refine Hid.out ?_))
 ·obtain ⟨⟨k0, k1, k2, k3⟩, ⟨f0, f1, f2, f3⟩, hsz⟩ := row4 ((hb3.block (w.heap.size + 1) (by simp)).trans (alloc2_new' w _ _ _))
  have HB := tZ hb3
  have H1 := tZ h1
  clear hb3 h1 hb1 hp1 H HBD
  refine tZ ?_
  go_wp2
  refine bodyPost_ret (v := .tuple #[.agg #[.int .i64 0, .string ⟨#[]⟩, .int .i64 0, .slice none 0 0], .int .i64 7]) (by simp [results, Tryz.results103, go_sem, k0, k1, k2, k3]) rfl ?_
  refine ⟨?_, Or.inl ⟨H1.out, rfl⟩⟩
  exact ((((((below2 w _ _).trans (HB.out.mono (by simp; omega))).setCell (p := ⟨w.heap.size + 1, 0, none⟩) (by show w.heap.size ≤ w.heap.size + 1; omega) _).setCell (p := ⟨w.heap.size + 1, 1, none⟩) (by show w.heap.size ≤ w.heap.size + 1; omega) _).setCell (p := ⟨w.heap.size + 1, 2, none⟩) (by show w.heap.size ≤ w.heap.size + 1; omega) _).setCell (p := ⟨w.heap.size + 1, 3, none⟩) (by show w.heap.size ≤ w.heap.size + 1; omega) _)
 ·obtain ⟨⟨k0, k1, k2, k3⟩, ⟨f0, f1, f2, f3⟩, hsz⟩ := row4 ((hb3.block (w.heap.size + 1) (by simp)).trans (alloc2_new' w _ _ _))
  have HB := tZ hb3
  have H1 := tZ h1
  have HP2 := tZ hp2
  clear hb3 h1 hb1 hp1 H HBD hp2
  refine tZ ?_
  go_wp2
  refine bodyPost_ret (v := .tuple #[.agg #[.int .i64 ((renP x y p).k : Int), .string ⟨((renP x y p).nm).toArray⟩, .int .i64 ((renP x y p).n : Int), .slice a2 l2 c2], .int .i64 0]) (by simp [results, Tryz.results103, go_sem, k0, k1, k2, k3]) rfl ?_
  refine ⟨?_, Or.inr ⟨H1.out, a2, l2, c2, rfl, (HP2.out.next fun q hq => heap4 w3 (w.heap.size + 1) _ _ _ _ (by have := hq.1; simp at this; omega)).wide fun q hq => ⟨by have := hq.1; simp at this; omega, by simpa using hq.2⟩⟩⟩
  exact ((((((below2 w _ _).trans (HB.out.mono (by simp; omega))).setCell (p := ⟨w.heap.size + 1, 0, none⟩) (by show w.heap.size ≤ w.heap.size + 1; omega) _).setCell (p := ⟨w.heap.size + 1, 1, none⟩) (by show w.heap.size ≤ w.heap.size + 1; omega) _).setCell (p := ⟨w.heap.size + 1, 2, none⟩) (by show w.heap.size ≤ w.heap.size + 1; omega) _).setCell (p := ⟨w.heap.size + 1, 3, none⟩) (by show w.heap.size ≤ w.heap.size + 1; omega) _)
end
end Go.Proofs.YtihgojcfpnhelabGreatDoor
