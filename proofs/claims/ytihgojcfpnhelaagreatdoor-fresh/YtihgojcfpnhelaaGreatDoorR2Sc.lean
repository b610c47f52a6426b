import Derived.Test.YtihgojcfpnhelaaGreatDoorR2Xba
import Derived.Test.YtihgojcfpnhelaaGreatDoorR2Mg
import Derived.Test.YtihgojcfpnhelaaGreatDoorR2Mj
import Derived.Test.YtihgojcfpnhelaaGreatDoorR2Kd
import Derived.Test.YtihgojcfpnhelaaGreatDoorR2Mq
import Derived.Test.YtihgojcfpnhelaaGreatDoorR2Z
import Derived.Test.YtihgojcfpnhelaaGreatDoorR2Za
set_option maxRecDepth 100000
set_option maxHeartbeats 4000000
set_option linter.unusedVariables false
set_option linter.unusedSimpArgs false
namespace Go.Proofs.YtihgojcfpnhelaaGreatDoor
open Go.RowKit
section
def Shape : Pt → Prop
 | .atom k _ _ => k = 1 ∨ k = 2 ∨ k = 7 ∨ k = 8
 | .un k a => (k = 9 ∨ k = 14 ∨ k = 6) ∧ Shape a
 | .bin k a b => (k = 4 ∨ k = 5 ∨ k = 12 ∨ k = 13 ∨ k = 15 ∨ k = 16 ∨ k = 17 ∨ k = 18 ∨ k = 19) ∧ Shape a ∧ Shape b
 | .ifs a b c => Shape a ∧ Shape b ∧ Shape c
theorem Shape.get {p : Pt} (h : Shape p) : ∀ j (hj : j < p.kids.length), Shape p.kids[j] := by
 intro j hj
 cases p with
 | atom k x n => simp [Pt.kids] at hj
 | un k a =>
  obtain rfl : j = 0 := by simp [Pt.kids] at hj; omega
  exact h.2
 | bin k a b =>
  rcases (show j = 0 ∨ j = 1 by simp [Pt.kids] at hj; omega) with rfl | rfl
  ·exact h.2.1
  ·exact h.2.2
 | ifs a b c =>
  rcases (show j = 0 ∨ j = 1 ∨ j = 2 by simp [Pt.kids] at hj; omega) with rfl | rfl | rfl
  ·exact h.1
  ·exact h.2.1
  ·exact h.2.2
theorem sgn_kind (n : Nat) (h1 : 1 ≤ n) (h5 : n ≤ 5) (t : By) (k : Nat) (h : inB t (sgn n) = true) (hc : Cls t k) : k = 4 ∨ k = 5 ∨ k = 12 ∨ k = 13 ∨ k = 15 ∨ k = 16 ∨ k = 17 ∨ k = 18 ∨ k = 19 := by
 have hn : n = 1 ∨ n = 2 ∨ n = 3 ∨ n = 4 ∨ n = 5 := by omega
 have key : ∀ x m, (x, m) ∈ meanN → t = x → k = m := fun x m hm ht => (cls_word x m hm t k hc).2 ht
 simp only [inB, List.contains_iff_mem] at h
 rcases hn with rfl | rfl | rfl | rfl | rfl <;> simp only [sgn, List.mem_cons, List.not_mem_nil, or_false] at h
 ·have := key _ 5 (by decide) h; omega
 ·have := key _ 4 (by decide) h; omega
 ·rcases h with h | h
  ·have := key _ 18 (by decide) h; omega
  ·have := key _ 19 (by decide) h; omega
 ·rcases h with h | h
  ·have := key _ 12 (by decide) h; omega
  ·have := key _ 13 (by decide) h; omega
 ·rcases h with h | h | h
  ·have := key _ 15 (by decide) h; omega
  ·have := key _ 16 (by decide) h; omega
  ·have := key _ 17 (by decide) h; omega
theorem Der.shape {ts : List (By × Nat)} {n i j : Nat} {p : Pt} (h : Der ts n i j p) : Shape p := by
 induction h with
 | atom i k _ _ hk => exact hk
 | nots _ _ _ _ _ ih => exact ⟨Or.inr (Or.inr rfl), ih⟩
 | neg _ _ _ _ _ ih => exact ⟨Or.inr (Or.inl rfl), ih⟩
 | br _ _ _ _ _ _ ih => exact ⟨Or.inl rfl, ih⟩
 | ifs _ _ _ _ _ _ _ _ _ _ _ _ _ _ _ iha ihb ihc => exact ⟨iha, ihb, ihc⟩
 | up _ _ _ _ _ _ _ ih => exact ih
 | more n i j j' k a b h1 h5 _ hs hc _ iha ihb => exact ⟨sgn_kind n h1 h5 _ k hs hc, iha, ihb⟩
end
section
def kidAt (p : Pt) (j : Nat) : Pt := (p.kids[j]?).getD (.atom 1 [] 0)
theorem kidAt_eq (p : Pt) (j : Nat) (h : j < p.kids.length) : kidAt p j = p.kids[j] := by
 simp [kidAt, h]
theorem worth169 (r : Value) (ρ : By → Vl) {w0 : World} {S : Nat → Prop} {p : Pt} {a : Option Addr} {l c : Nat} (hP : PIs w0 S p a l c) : ∀ w, Shape p → (∀ q, S q → q < w.heap.size ∧ w.heap[q]? = w0.heap[q]?) → (∀ x W, Below w.heap.size w W → Calls Tryz.prog 198 #[r, .string ⟨(x : By).toArray⟩] W (VPost (ρ x) W)) →
  Calls Tryz.prog 220 #[.agg #[namedV r], .agg #[.int .i64 (p.k : Int), .string ⟨p.nm.toArray⟩, .int .i64 (p.n : Int), .slice a l c]] w (VPost (valP ρ p) w) := by
 induction hP with
 | leaf p hk =>
  intro w hSh _ hN
  cases p with
  | atom k x n =>
   rcases hSh with rfl | rfl | rfl | rfl
   ·exact w_num r x n none 0 0 w
   ·exact w_name r x n none 0 0 (ρ x) w (hN x)
   ·exact w_true r x n none 0 0 w
   ·exact w_false r x n none 0 0 w
  | un => simp [Pt.kids] at hk
  | bin => simp [Pt.kids] at hk
  | ifs => simp [Pt.kids] at hk
 | node p g cap A L C hg hk hc _ ih =>
  intro w hSh hS hN
  have hK : KidsAt w (some ⟨g, 0, none⟩) p.kids.length (kidAt p) A L C := fun j hj => by
   refine ⟨g, rfl, (hS g hg).1, ?_⟩
   rw [kidAt_eq p j hj, cell_congr (hS g hg).2, cell_congr (hS g hg).2, cell_congr (hS g hg).2, cell_congr (hS g hg).2]
   exact hc j hj
  have hV : KidsV r w p.kids.length (kidAt p) A L C (fun j => valP ρ (kidAt p j)) := fun j hj W hW => by
   have := ih j hj W (hSh.get j hj) (fun q hq => ⟨Nat.lt_of_lt_of_le (hS q hq).1 hW.size, (hW.block q (hS q hq).1).trans (hS q hq).2⟩) (fun x W' hW' => hN x W' (hW.trans (hW'.mono hW.size)))
   rw [← kidAt_eq p j hj] at this
   exact this
  cases p with
  | atom k x n => exact absurd rfl hk
  | un k y =>
   rcases hSh.1 with rfl | rfl | rfl
   ·exact w_open r [] 0 _ 1 cap _ A L C _ w (by omega) (by omega) hK hV
   ·exact w_neg r [] 0 _ 1 cap _ A L C _ w (by omega) (by omega) hK hV
   ·exact w_not r [] 0 _ 1 cap _ A L C _ w (by omega) (by omega) hK hV
  | bin k y z =>
   by_cases h4 : k = 4
   ·subst h4
    exact w_and r (.bin 4 y z) _ 2 cap _ A L C _ w rfl rfl hK hV
   ·by_cases h5 : k = 5
    ·subst h5
     exact w_or r (.bin 5 y z) _ 2 cap _ A L C _ w rfl rfl hK hV
    ·have e : valP ρ (.bin k y z) = vTwo k (valP ρ y) (valP ρ z) := by simp only [valP, if_neg h4, if_neg h5]
     rw [e]
     exact w_two r (.bin k y z) _ 2 cap _ A L C _ w rfl (by have := hSh.1; show k ≠ 1 ∧ k ≠ 7 ∧ k ≠ 8 ∧ k ≠ 2 ∧ k ≠ 9 ∧ k ≠ 14 ∧ k ≠ 6 ∧ k ≠ 4 ∧ k ≠ 5 ∧ k ≠ 3; omega) hK hV
  | ifs y z u => exact w_if r (.ifs y z u) _ 3 cap _ A L C _ w rfl rfl hK hV
end
section
theorem renamed170 (x y : By) {w0 : World} {S : Nat → Prop} {p : Pt} {a : Option Addr} {l c : Nat} (hP : PIs w0 S p a l c) : ∀ w, Shape p → (∀ q, S q → q < w.heap.size ∧ w.heap[q]? = w0.heap[q]?) →
  Calls Tryz.prog 222 #[.agg #[.int .i64 (p.k : Int), .string ⟨p.nm.toArray⟩, .int .i64 (p.n : Int), .slice a l c], .string ⟨x.toArray⟩, .string ⟨y.toArray⟩] w (RnPost x y p w) := by
 induction hP with
 | leaf p hk =>
  intro w _ _
  cases p with
  | atom k nm n =>
   refine (ren_leaf x y (k : Int) (n : Int) nm (if k = 2 ∧ nm = x then y else nm) w ?_).mono ?_
   ·by_cases h2 : k = 2
    ·by_cases hx : nm = x
     ·exact Or.inl ⟨by omega, hx, by simp [h2, hx]⟩
     ·exact Or.inr (Or.inl ⟨by omega, hx, by simp [hx]⟩)
    ·exact Or.inr (Or.inr ⟨by omega, by simp [h2]⟩)
   ·rintro e w' ⟨rfl, hb⟩
    exact ⟨none, 0, 0, rfl, PIs.leaf _ rfl, hb⟩
  | un k a => simp [Pt.kids] at hk
  | bin k a b => simp [Pt.kids] at hk
  | ifs a b c => simp [Pt.kids] at hk
 | node p g cap A L C hg hk hc _ ih =>
  intro w hsh hS
  have hform : p.k ≠ 2 ∧ p.nm = [] ∧ (renP x y p).nm = [] := by
   cases p with
   | atom k nm n => simp [Pt.kids] at hk
   | un k a => exact ⟨by have := hsh.1; show k ≠ 2; omega, rfl, rfl⟩
   | bin k a b => exact ⟨by have := hsh.1; show k ≠ 2; omega, rfl, rfl⟩
   | ifs a b c => exact ⟨by show (3 : Nat) ≠ 2; omega, rfl, rfl⟩
  have hl3 : p.kids.length ≤ 3 := by cases p <;> simp [Pt.kids]
  have hl1 : 1 ≤ p.kids.length := List.length_pos_iff.2 hk
  obtain ⟨ks, hks⟩ : ∃ ks : List KR, ks = (List.range p.kids.length).map fun j => ((p.kids[j]?).getD (.atom 1 [] 0), A j, L j, C j) := ⟨_, rfl⟩
  have hlen : ks.length = p.kids.length := by rw [hks]; simp
  have hget : ∀ j (h : j < ks.length), ks[j] = (p.kids[j]'(by omega), A j, L j, C j) := fun j h => by
   have h' : j < p.kids.length := by omega
   simp [hks, h']
  have hsh' := hsh.get
  have := ren_node x y (p.k : Int) (p.n : Int) p.nm p.nm w ⟨by have := hform.1; omega, rfl⟩ ks g cap (by omega) (by omega) (hS g hg).1 (fun j u hj => ?_) (fun j hj W hW => ?_)
  ·rw [hlen] at this
   refine this.mono ?_
   rintro e w' ⟨g', cap', ns, w2, rfl, hR, hnl, hfar, hb, hsz⟩
   obtain ⟨hg1, hg2⟩ := hR.own.lt g' rfl
   obtain ⟨e1, e2, e3⟩ := renP_k x y p
   refine ⟨some ⟨g', 0, none⟩, p.kids.length, cap', by rw [e1, e2, hform.2.1, hform.2.2, hlen], ?_, hb⟩
   have hd : ks.drop ns.length = [] := List.drop_eq_nil_of_le (by omega)
   have hown := hR.own
   rw [hd, List.append_nil, ← hnl] at hown
   have hrow := PIs.row (S := fun q => w.heap.size + 1 < q ∧ q < w2.heap.size) hown (fun z hz => ?_) ⟨by omega, hg2⟩ (renP x y p) ?_ (by intro h; rw [h] at hnl; simp at hnl; omega)
   ·rw [hnl, hlen] at hrow
    exact (hrow.next fun q hq => hfar q (by omega)).wide fun q hq => ⟨by omega, by rw [hsz]; exact hq.2⟩
   ·obtain ⟨i, hi, rfl⟩ := List.getElem_of_mem hz
    exact (hR.kid i hi).2.wide fun q hq => ⟨hq.1, hq.2.1⟩
   ·rw [e3]
    refine List.ext_getElem (by simp; omega) fun i h1 h2 => ?_
    simp only [List.getElem_map]
    rw [(hR.kid i (by simpa using h2)).1, hget]
  ·rw [cell_congr (hS g hg).2]
   have hj4 : j < (krc ks).length := (List.getElem?_eq_some_iff.1 hj).1
   rw [krc_length] at hj4
   have hi : j / 4 < ks.length := by omega
   have h4 := krc_get ks (j / 4) hi
   have c4 := hc (j / 4) (by omega)
   rw [hget _ hi] at h4
   rcases (show j = j / 4 * 4 ∨ j = j / 4 * 4 + 1 ∨ j = j / 4 * 4 + 2 ∨ j = j / 4 * 4 + 3 by omega) with hm | hm | hm | hm
   ·rw [← hm] at h4 c4
    rw [c4.1, ← hj]; exact h4.1.symm
   ·rw [← hm] at h4 c4
    rw [c4.2.1, ← hj]; exact h4.2.1.symm
   ·rw [← hm] at h4 c4
    rw [c4.2.2.1, ← hj]; exact h4.2.2.1.symm
   ·rw [← hm] at h4 c4
    rw [c4.2.2.2, ← hj]; exact h4.2.2.2.symm
  ·rw [hget j hj]
   have hj' : j < p.kids.length := by omega
   exact ih j hj' W (hsh' j hj') fun q' hq' => ⟨Nat.lt_of_lt_of_le (hS q' hq').1 hW.size, (hW.block q' (hS q' hq').1).trans (hS q' hq').2⟩
end
section
theorem entersM : ∀ args w, (callFunc 239 args).run Tryz.prog w = .ok (.enter 239 args) w := enters_of Tryz.func239 (by kernel_rfl) rfl
theorem indexParts (a : Option Addr) (n c : Nat) (lb : Value) (w : World) (q : Nat → Pt) (A : Nat → Option Addr) (L C : Nat → Nat) (f : Nat → Bool) (hn : n ≤ 3) (hK : KidsAt w a n q A L C)
  (hp : ∀ j, j < n → ∀ W, Below w.heap.size w W → Calls Tryz.prog 239 #[.agg #[.int .i64 ((q j).k : Int), .string ⟨((q j).nm).toArray⟩, .int .i64 ((q j).n : Int), .slice (A j) (L j) (C j)], lb] W fun e w' => e = .returned (.bool (f j)) ∧ Below w.heap.size w w') :
  Calls Tryz.prog 257 #[.slice a n c, .func (.func 239) #[] #[lb]] w fun e w' => ∃ z : Int, e = .returned (.int .i64 z) ∧ (0 ≤ z ↔ ∃ j, j < n ∧ f j = true) ∧ Below w.heap.size w w' := by
 have HK := tZ hK
 have HP := tZ hp
 have eg := entersM
 clear hK hp
 go_enter Tryz.func257, Tryz.ntmps257
 go_wp2_with fail
 go_loopg [5, 8] n (fun gk _ s8 wr => ∃ j : Nat, j ≤ n ∧ n ≤ j + gk ∧ s8 = .int .i64 (j : Int) ∧ Hid (Below w.heap.size w wr) ∧ Hid (∀ i, i < j → f i = false))
 case atStart => exact ⟨0, Nat.zero_le _, by omega, rfl, Below.refl _ _, fun i hi => by omega⟩
 case round =>
  obtain ⟨j, hj, hgk, rfl, HB, HF⟩ := hrel
  by_cases hlt : j < n
  ·obtain ⟨g, rfl, hg, c0, c1, c2, c3⟩ := HK.out j hlt
   have d0 := (HB.out.cell (p := ⟨g, j * 4, none⟩) hg).trans c0
   have d1 := (HB.out.cell (p := ⟨g, j * 4 + 1, none⟩) hg).trans c1
   have d2 := (HB.out.cell (p := ⟨g, j * 4 + 2, none⟩) hg).trans c2
   have d3 := (HB.out.cell (p := ⟨g, j * 4 + 3, none⟩) hg).trans c3
   have HC := tZ (HP.out j hlt wr HB.out)
   have hltz : (j : Int) < (n : Int) := by omega
   clear c0 c1 c2 c3
   cases hf : f j with
   | true =>
    rw [hf] at HC
    go_wp2_with (first | (go_at_fn 239; refine HC.out.mono ?_; rintro e w1 ⟨rfl, hb1⟩) | (go_at_call 239; refine HC.out.mono ?_; rintro e w1 ⟨rfl, hb1⟩))
    go_ret
    exact ⟨_, rfl, ⟨fun _ => ⟨j, hlt, hf⟩, fun _ => by omega⟩, hb1⟩
   | false =>
    rw [hf] at HC
    go_wp2_with (first | (go_at_fn 239; refine HC.out.mono ?_; rintro e w1 ⟨rfl, hb1⟩) | (go_at_call 239; refine HC.out.mono ?_; rintro e w1 ⟨rfl, hb1⟩))
    go_roundg (n - (j + 1))
    case measure => omega
    case rel =>
     refine ⟨j + 1, by omega, by omega, by go_num, hb1, (show Hid _ from fun i hi => ?_)⟩
     by_cases e : i = j
     ·subst e; exact hf
     ·exact HF.out i (by omega)
  ·have hltz : ¬ (j : Int) < (n : Int) := by omega
   go_wp2
   go_ret
   refine ⟨_, rfl, ⟨fun h => by omega, fun ⟨i, hi, h⟩ => ?_⟩, HB.out⟩
   rw [HF.out i (by omega)] at h
   cases h
theorem containsParts (a : Option Addr) (n c : Nat) (lb : Value) (w : World) (q : Nat → Pt) (A : Nat → Option Addr) (L C : Nat → Nat) (f : Nat → Bool) (b : Bool) (hn : n ≤ 3) (hK : KidsAt w a n q A L C) (hb : b = true ↔ ∃ j, j < n ∧ f j = true)
  (hp : ∀ j, j < n → ∀ W, Below w.heap.size w W → Calls Tryz.prog 239 #[.agg #[.int .i64 ((q j).k : Int), .string ⟨((q j).nm).toArray⟩, .int .i64 ((q j).n : Int), .slice (A j) (L j) (C j)], lb] W fun e w' => e = .returned (.bool (f j)) ∧ Below w.heap.size w w') :
  Calls Tryz.prog 238 #[.slice a n c, .func (.func 239) #[] #[lb]] w fun e w' => e = .returned (.bool b) ∧ Below w.heap.size w w' := by
 have H := tZ (indexParts a n c lb w q A L C f hn hK hp)
 have HB := tZ hb
 clear hK hp hb
 go_enter Tryz.func238, Tryz.ntmps238
 go_wp2_with (first | (go_at_call 257; refine H.out.mono ?_; rintro e w1 ⟨z, rfl, hz, hb1⟩; refine Hid.out ?_))
 have hbz : decide (0 ≤ z) = b := by
  have h1 := hz.trans HB.out.symm
  cases b with
  | true => exact decide_eq_true (h1.2 rfl)
  | false => exact decide_eq_false (fun h => by cases h1.1 h)
 have HZ := tZ hbz
 have HB1 := tZ hb1
 clear hz hb1 hbz
 refine tZ ?_
 go_wp2
 go_ret
 exact ⟨congrArg (fun b => Ending.returned (.bool b)) HZ.out, HB1.out⟩
theorem closM (x : By) (k n : Int) (y : By) (a : Option Addr) (l c B : Nat) (b : Bool) (w : World) (hB : B < w.heap.size) (hc : w.cell? ⟨B, 0, none⟩ = some (.string ⟨x.toArray⟩))
  (hM : ∀ W, Below w.heap.size w W → Calls Tryz.prog 218 #[.agg #[.int .i64 k, .string ⟨y.toArray⟩, .int .i64 n, .slice a l c], .string ⟨x.toArray⟩] W fun e w' => e = .returned (.bool b) ∧ Below W.heap.size W w') :
  Calls Tryz.prog 239 #[.agg #[.int .i64 k, .string ⟨y.toArray⟩, .int .i64 n, .slice a l c], .pointer (some ⟨B, 0, none⟩)] w fun e w' => e = .returned (.bool b) ∧ Below w.heap.size w w' := by
 have HM := tZ hM
 clear hM
 go_enter Tryz.func239, Tryz.ntmps239
 go_wp2_with (first | (go_at_call 218; refine (HM.out _ (bZ _)).mono ?_; rintro e w1 ⟨rfl, hb1⟩))
 go_ret
 exact ⟨rfl, (bZ _).trans (hb1.mono (by simp))⟩
theorem ment_core (x : By) (p : Pt) (a : Option Addr) (c : Nat) (w : World) (q : Nat → Pt) (A : Nat → Option Addr) (L C : Nat → Nat) (f : Nat → Bool) (b : Bool) (hn : p.kids.length ≤ 3) (hK : KidsAt w a p.kids.length q A L C) (hb : b = true ↔ ∃ j, j < p.kids.length ∧ f j = true)
  (hM : ∀ j, j < p.kids.length → ∀ W, Below w.heap.size w W → Calls Tryz.prog 218 #[.agg #[.int .i64 ((q j).k : Int), .string ⟨((q j).nm).toArray⟩, .int .i64 ((q j).n : Int), .slice (A j) (L j) (C j)], .string ⟨x.toArray⟩] W fun e w' => e = .returned (.bool (f j)) ∧ Below W.heap.size W w') :
  Calls Tryz.prog 218 #[.agg #[.int .i64 (p.k : Int), .string ⟨p.nm.toArray⟩, .int .i64 (p.n : Int), .slice a p.kids.length c], .string ⟨x.toArray⟩] w fun e w' => e = .returned (.bool ((p.k == 2 && p.nm == x) || b)) ∧ Below w.heap.size w w' := by
 have HK := tZ hK
 have HM := tZ hM
 clear hK hM
 have HCF := tZ (containsParts a p.kids.length c (.pointer (some ⟨w.heap.size + 1, 0, none⟩)) ((w.alloc (.cells #[.int .i64 (p.k : Int), .string ⟨p.nm.toArray⟩, .int .i64 (p.n : Int), .slice a p.kids.length c] 87)).alloc (.cells #[.string ⟨x.toArray⟩] 9)) q A L C f b hn (HK.out.next (below2 _ _ _)) hb (fun j hj W hW => by
  have hB : w.heap.size + 1 < ((w.alloc (.cells #[.int .i64 (p.k : Int), .string ⟨p.nm.toArray⟩, .int .i64 (p.n : Int), .slice a p.kids.length c] 87)).alloc (.cells #[.string ⟨x.toArray⟩] 9)).heap.size := by simp
  have hc : W.cell? ⟨w.heap.size + 1, 0, none⟩ = some (.string ⟨x.toArray⟩) := (hW.cell (p := ⟨w.heap.size + 1, 0, none⟩) hB).trans (row1 (alloc2_new' w _ _ _)).1
  exact (closM x _ _ _ _ _ _ (w.heap.size + 1) (f j) W (Nat.lt_of_lt_of_le hB hW.size) hc (fun W' hW' => HM.out j hj W' ((below2 w _ _).trans ((hW.mono (by simp; omega)).trans (hW'.mono (by have := hW.size; simp at this; omega)))))).mono fun e w' h => ⟨h.1, hW.trans (h.2.mono hW.size)⟩))
 by_cases hk : p.k = 2
 ·have qk : ((p.k : Int) == 2) = true := by simp [hk]
  by_cases hx : p.nm = x
  ·have qx : (p.nm == x) = true := by simp [hx]
   have HE := tZ (show ((p.k == 2 && p.nm == x) || b) = true by simp [hk, hx])
   rw [HE.out]
   clear hk hx hb
   go_enter Tryz.func218, Tryz.ntmps218
   go_wp2
   go_ret
   exact ⟨rfl, below2 w _ _⟩
  ·have qx : (p.nm == x) = false := by simp [hx]
   have HE := tZ (show Ending.returned (.bool b) = Ending.returned (.bool ((p.k == 2 && p.nm == x) || b)) by simp [hx])
   clear hk hx hb
   go_enter Tryz.func218, Tryz.ntmps218
   go_wp2_with (first | (go_at_call 238; refine HCF.out.mono ?_; rintro e w1 ⟨rfl, hb1⟩))
   go_ret
   exact ⟨HE.out, (below2 w _ _).trans (hb1.mono (by simp; omega))⟩
 ·have qk : ((p.k : Int) == 2) = false := beq_eq_false_iff_ne.2 (by omega)
  have HE := tZ (show Ending.returned (.bool b) = Ending.returned (.bool ((p.k == 2 && p.nm == x) || b)) by simp [hk])
  clear hk hb
  go_enter Tryz.func218, Tryz.ntmps218
  go_wp2_with (first | (go_at_call 238; refine HCF.out.mono ?_; rintro e w1 ⟨rfl, hb1⟩))
  go_ret
  exact ⟨HE.out, (below2 w _ _).trans (hb1.mono (by simp; omega))⟩
theorem mentions168 (x : By) {w0 : World} {S : Nat → Prop} {p : Pt} {a : Option Addr} {l c : Nat} (hP : PIs w0 S p a l c) : ∀ w, (∀ q, S q → q < w.heap.size ∧ w.heap[q]? = w0.heap[q]?) →
  Calls Tryz.prog 218 #[.agg #[.int .i64 (p.k : Int), .string ⟨p.nm.toArray⟩, .int .i64 (p.n : Int), .slice a l c], .string ⟨x.toArray⟩] w fun e w' => e = .returned (.bool (mentP x p)) ∧ Below w.heap.size w w' := by
 induction hP with
 | leaf p hk =>
  intro w _
  have h0 : p.kids.length = 0 := by rw [hk]; rfl
  have := ment_core x p none 0 w (fun _ => p) (fun _ => none) (fun _ => 0) (fun _ => 0) (fun _ => false) false (by omega) (fun j hj => by omega) ⟨fun h => (by cases h), fun ⟨j, hj, _⟩ => by omega⟩ (fun j hj => by omega)
  rw [h0] at this
  rw [mentP_eq, hk]
  exact this
 | node p g cap A L C hg hk hc _ ih =>
  intro w hS
  have hq : ∀ j (h : j < p.kids.length), (p.kids[j]?).getD (.atom 1 [] 0) = p.kids[j] := fun j h => by simp [h]
  rw [mentP_eq]
  refine ment_core x p (some ⟨g, 0, none⟩) cap w (fun j => (p.kids[j]?).getD (.atom 1 [] 0)) A L C (fun j => mentP x ((p.kids[j]?).getD (.atom 1 [] 0))) _ (by cases p <;> simp [Pt.kids]) (fun j hj => ?_) ?_ (fun j hj W hW => ?_)
  ·refine ⟨g, rfl, (hS g hg).1, ?_⟩
   simp only [hq j hj]
   rw [cell_congr (hS g hg).2, cell_congr (hS g hg).2, cell_congr (hS g hg).2, cell_congr (hS g hg).2]
   exact hc j hj
  ·rw [List.any_map, List.any_eq_true]
   constructor
   ·rintro ⟨y, hy, h⟩
    obtain ⟨j, hj, rfl⟩ := List.getElem_of_mem hy
    exact ⟨j, hj, by simp only [hq j hj]; exact h⟩
   ·rintro ⟨j, hj, h⟩
    simp only [hq j hj] at h
    exact ⟨_, List.getElem_mem hj, h⟩
  ·simp only [hq j hj]
   exact ih j hj W fun q' hq' => ⟨Nat.lt_of_lt_of_le (hS q' hq').1 hW.size, (hW.block q' (hS q' hq').1).trans (hS q' hq').2⟩
end
section
theorem ruleMentions (x : By) {S : Nat → Prop} (p : Pt) (a : Option Addr) (l c : Nat) (w : World) (hP : PIs w S p a l c) (hS : ∀ q, S q → q < w.heap.size) :
  Calls Tryz.prog 195 #[.agg #[.int .i64 (p.k : Int), .string ⟨p.nm.toArray⟩, .int .i64 (p.n : Int), .slice a l c], .string ⟨x.toArray⟩] w fun e w' => e = .returned (.bool (mentP x p)) ∧ Below w.heap.size w w' := by
 have H := tZ (fun w1 (hb : Below w.heap.size w w1) => mentions168 x hP w1 (fun q hq => ⟨Nat.lt_of_lt_of_le (hS q hq) hb.size, hb.block q (hS q hq)⟩))
 clear hP hS
 go_enter Tryz.func195, Tryz.ntmps195
 go_wp2_with (first | (go_at_call 218; refine (H.out _ (bZ _)).mono ?_; rintro e w1 ⟨rfl, hb1⟩))
 go_ret
 exact ⟨rfl, (bZ _).trans (hb1.mono (by simp))⟩
theorem ruleWorth (r : Value) (ρ : By → Vl) {S : Nat → Prop} (p : Pt) (a : Option Addr) (l c : Nat) (w : World) (hP : PIs w S p a l c) (hS : ∀ q, S q → q < w.heap.size) (hsh : Shape p) (hN : ∀ x W, Below w.heap.size w W → Calls Tryz.prog 198 #[r, .string ⟨(x : By).toArray⟩] W (VPost (ρ x) W)) :
  Calls Tryz.prog 197 #[.agg #[.int .i64 (p.k : Int), .string ⟨p.nm.toArray⟩, .int .i64 (p.n : Int), .slice a l c], namedV r] w (VPost (valP ρ p) w) := by
 have H := tZ (fun w1 (hb : Below w.heap.size w w1) => worth169 r ρ hP w1 hsh (fun q hq => ⟨Nat.lt_of_lt_of_le (hS q hq) hb.size, hb.block q (hS q hq)⟩) (fun x W hW => hN x W (hb.trans (hW.mono hb.size))))
 clear hP hS hN hsh
 go_enter Tryz.func197, Tryz.ntmps197
 go_wp2_with (first | (go_at_call 220; refine (H.out _ (below2 _ _ _)).mono ?_; rintro e w1 ⟨rfl, hb1⟩; refine Hid.out ?_))
 have hR := (hb1.block (w.heap.size + 1) (by simp)).trans (alloc2_new' w _ _ _)
 obtain ⟨⟨k0, k1⟩, ⟨f0, f1⟩, hsz⟩ := row2 hR
 have HB := tZ (show Below w.heap.size w w1 from (below2 w _ _).trans (hb1.mono (by simp; omega)))
 clear hb1 hR H
 generalize valP ρ p = vv at *
 refine tZ ?_
 go_wp2
 refine bodyPost_ret (v := .agg #[.int .i64 vv.1, .int .i64 vv.2]) (by simp [results, Tryz.results197, go_sem, k0, k1]) rfl ?_
 exact ⟨rfl, below_st2 HB.out _ (by omega) _ _⟩
def RuPost (x y : By) (p : Pt) (w : World) (e : Ending) (w' : World) : Prop :=
 Below w.heap.size w w' ∧ ((100 < (txt (renP x y p)).length ∧ e = .returned (.tuple #[.agg #[.int .i64 0, .string ⟨#[]⟩, .int .i64 0, .slice none 0 0], .int .i64 7])) ∨ (¬ 100 < (txt (renP x y p)).length ∧ ∃ (a : Option Addr) (l c : Nat), e = .returned (.tuple #[.agg #[.int .i64 ((renP x y p).k : Int), .string ⟨((renP x y p).nm).toArray⟩, .int .i64 ((renP x y p).n : Int), .slice a l c], .int .i64 0]) ∧ PIs w' (fun q => w.heap.size ≤ q ∧ q < w'.heap.size) (renP x y p) a l c))
theorem ruleRenamed (x y : By) {S : Nat → Prop} (p : Pt) (a : Option Addr) (l c : Nat) (w : World) (hP : PIs w S p a l c) (hS : ∀ q, S q → q < w.heap.size) (hsh : Shape p) (hE : Env w) (hG : Good (renP x y p)) (hl : (txt (renP x y p)).length ≤ 1000000) :
  Calls Tryz.prog 200 #[.agg #[.int .i64 (p.k : Int), .string ⟨p.nm.toArray⟩, .int .i64 (p.n : Int), .slice a l c], .string ⟨x.toArray⟩, .string ⟨y.toArray⟩] w (RuPost x y p w) := by
 have H := tZ (fun w1 (hb : Below w.heap.size w w1) => renamed170 x y hP w1 hsh (fun q hq => ⟨Nat.lt_of_lt_of_le (hS q hq) hb.size, hb.block q (hS q hq)⟩))
 have HBD := tZ (show ∀ (a : Option Addr) (l c : Nat) (w1 w2 : World), Below w.heap.size w w1 → PIs w2 (fun q => w1.heap.size ≤ q ∧ q < w2.heap.size) (renP x y p) a l c → Below w1.heap.size w1 w2 → Calls Tryz.prog 62 #[.agg #[.int .i64 ((renP x y p).k : Int), .string ⟨((renP x y p).nm).toArray⟩, .int .i64 ((renP x y p).n : Int), .slice a l c]] w2 (RuPost x y p w1) from fun a l c w1 w2 hb hp hb2 => by
  have hb3 := hb.trans (hb2.mono hb.size)
  refine (bounded15 (renP x y p) a l c w2 hp (fun q hq => hq.2) (hE.next hb3) hG hl).mono ?_
  rintro e w' ⟨hb4, h⟩
  refine ⟨hb2.trans (hb4.mono hb2.size), ?_⟩
  rcases h with ⟨h1, h2⟩ | ⟨h1, h2⟩
  ·exact Or.inl ⟨h1, h2⟩
  ·exact Or.inr ⟨h1, a, l, c, h2, (hp.next fun q hq => hb4.block q hq.2).wide fun q hq => ⟨hq.1, Nat.lt_of_lt_of_le hq.2 hb4.size⟩⟩)
 clear hP hS hsh hE hG hl
 go_enter Tryz.func200, Tryz.ntmps200
 go_wp2_with (first | (go_at_call 222; refine (H.out _ (below2 _ _ _)).mono ?_; rintro e w1 ⟨a', l', c', rfl, hp1, hb1⟩) | (go_at_call 62; refine (HBD.out _ _ _ _ _ (below2 _ _ _) hp1 hb1).mono ?_; rintro e w3 ⟨hb3, ⟨h1, rfl⟩ | ⟨h1, a2, l2, c2, rfl, hp2⟩⟩ <;> refine Hid.out ?_))
 ·obtain ⟨⟨k0, k1, k2, k3⟩, ⟨f0, f1, f2, f3⟩, hsz⟩ := row4 ((hb3.block (w.heap.size + 1) (by simp)).trans (alloc2_new' w _ _ _))
  have HB := tZ hb3
  have H1 := tZ h1
  clear hb3 h1 hb1 hp1 H HBD
  refine tZ ?_
  go_wp2
  refine bodyPost_ret (v := .tuple #[.agg #[.int .i64 0, .string ⟨#[]⟩, .int .i64 0, .slice none 0 0], .int .i64 7]) (by simp [results, Tryz.results200, go_sem, k0, k1, k2, k3]) rfl ?_
  refine ⟨?_, Or.inl ⟨H1.out, rfl⟩⟩
  exact ((((((below2 w _ _).trans (HB.out.mono (by simp; omega))).setCell (p := ⟨w.heap.size + 1, 0, none⟩) (by show w.heap.size ≤ w.heap.size + 1; omega) _).setCell (p := ⟨w.heap.size + 1, 1, none⟩) (by show w.heap.size ≤ w.heap.size + 1; omega) _).setCell (p := ⟨w.heap.size + 1, 2, none⟩) (by show w.heap.size ≤ w.heap.size + 1; omega) _).setCell (p := ⟨w.heap.size + 1, 3, none⟩) (by show w.heap.size ≤ w.heap.size + 1; omega) _)
 ·obtain ⟨⟨k0, k1, k2, k3⟩, ⟨f0, f1, f2, f3⟩, hsz⟩ := row4 ((hb3.block (w.heap.size + 1) (by simp)).trans (alloc2_new' w _ _ _))
  have HB := tZ hb3
  have H1 := tZ h1
  have HP2 := tZ hp2
  clear hb3 h1 hb1 hp1 H HBD hp2
  refine tZ ?_
  go_wp2
  refine bodyPost_ret (v := .tuple #[.agg #[.int .i64 ((renP x y p).k : Int), .string ⟨((renP x y p).nm).toArray⟩, .int .i64 ((renP x y p).n : Int), .slice a2 l2 c2], .int .i64 0]) (by simp [results, Tryz.results200, go_sem, k0, k1, k2, k3]) rfl ?_
  refine ⟨?_, Or.inr ⟨H1.out, a2, l2, c2, rfl, (HP2.out.next fun q hq => heap4 w3 (w.heap.size + 1) _ _ _ _ (by have := hq.1; simp at this; omega)).wide fun q hq => ⟨by have := hq.1; simp at this; omega, by simpa using hq.2⟩⟩⟩
  exact ((((((below2 w _ _).trans (HB.out.mono (by simp; omega))).setCell (p := ⟨w.heap.size + 1, 0, none⟩) (by show w.heap.size ≤ w.heap.size + 1; omega) _).setCell (p := ⟨w.heap.size + 1, 1, none⟩) (by show w.heap.size ≤ w.heap.size + 1; omega) _).setCell (p := ⟨w.heap.size + 1, 2, none⟩) (by show w.heap.size ≤ w.heap.size + 1; omega) _).setCell (p := ⟨w.heap.size + 1, 3, none⟩) (by show w.heap.size ≤ w.heap.size + 1; omega) _)
end
section
structure Fd where
 nm : By
 p : Pt
 v : Vl
def FdAt (w : World) (S : Nat → Prop) (b : Nat) (f : Fd) : Prop :=
 ¬ S b ∧ Shape f.p ∧ Good f.p ∧ (txt f.p).length ≤ 100 ∧ ∃ (a : Option Addr) (l c : Nat), w.heap[b]? = some (.cells #[.string ⟨f.nm.toArray⟩, .int .i64 (f.p.k : Int), .string ⟨f.p.nm.toArray⟩, .int .i64 (f.p.n : Int), .slice a l c, .int .i64 f.v.1, .int .i64 f.v.2] 223 (0, 0)) ∧ PIs w S f.p a l c
structure Sh (w : World) (S : Nat → Prop) (a : Option Addr) (fs : List (Nat × Fd)) : Prop where
 still : ∀ q, S q → q < w.heap.size
 ptr : ∀ j (h : j < fs.length), ∃ g o, a = some ⟨g, o, none⟩ ∧ S g ∧ w.cell? ⟨g, o + j, none⟩ = some (.pointer (some ⟨(fs[j]).1, 0, none⟩))
 fld : ∀ x, x ∈ fs → FdAt w S x.1 x.2
theorem FdAt.lt {w : World} {S : Nat → Prop} {b : Nat} {f : Fd} (h : FdAt w S b f) : b < w.heap.size := by
 obtain ⟨_, _, _, _, a, l, c, hb, _⟩ := h
 exact (Array.getElem?_eq_some_iff.1 hb).1
theorem FdAt.next {w w' : World} {S : Nat → Prop} {b : Nat} {f : Fd} (h : FdAt w S b f) (hS : ∀ q, S q → q < w.heap.size) (hb : Below w.heap.size w w') : FdAt w' S b f := by
 have hlt := h.lt
 obtain ⟨h1, h2, h3, h4, a, l, c, hh, hp⟩ := h
 exact ⟨h1, h2, h3, h4, a, l, c, (hb.block b hlt).trans hh, hp.next fun q hq => hb.block q (hS q hq)⟩
theorem Sh.next {w w' : World} {S : Nat → Prop} {a : Option Addr} {fs : List (Nat × Fd)} (h : Sh w S a fs) (hb : Below w.heap.size w w') : Sh w' S a fs := by
 refine ⟨fun q hq => Nat.lt_of_lt_of_le (h.still q hq) hb.size, fun j hj => ?_, fun x hx => (h.fld x hx).next h.still hb⟩
 obtain ⟨g, o, h1, h2, h3⟩ := h.ptr j hj
 exact ⟨g, o, h1, h2, (hb.cell (p := ⟨g, o + j, none⟩) (h.still g h2)).trans h3⟩
theorem row7 {w : World} {q : Nat} {v0 v1 v2 v3 v4 v5 v6 : Value} {t : TypeId} (h : w.heap[q]? = some (.cells #[v0, v1, v2, v3, v4, v5, v6] t (0, 0))) :
  (w.cell? ⟨q, 0, none⟩ = some v0 ∧ w.cell? ⟨q, 1, none⟩ = some v1 ∧ w.cell? ⟨q, 2, none⟩ = some v2 ∧ w.cell? ⟨q, 3, none⟩ = some v3 ∧ w.cell? ⟨q, 4, none⟩ = some v4 ∧ w.cell? ⟨q, 5, none⟩ = some v5 ∧ w.cell? ⟨q, 6, none⟩ = some v6) ∧ (∀ j, w.frozen? ⟨q, j, none⟩ = false) ∧ q < w.heap.size :=
 ⟨⟨(cell_of_row w q 0 _ _ _ h).trans rfl, (cell_of_row w q 1 _ _ _ h).trans rfl, (cell_of_row w q 2 _ _ _ h).trans rfl, (cell_of_row w q 3 _ _ _ h).trans rfl, (cell_of_row w q 4 _ _ _ h).trans rfl, (cell_of_row w q 5 _ _ _ h).trans rfl, (cell_of_row w q 6 _ _ _ h).trans rfl⟩, fun j => fz_of_row h j, (Array.getElem?_eq_some_iff.1 h).1⟩
def findF (fs : List (Nat × Fd)) (x : By) : Option (Nat × Fd) := fs.find? fun f => f.2.nm == x
def findB (fs : List (Nat × Fd)) (x : By) : Option Addr := (findF fs x).map fun f => ⟨f.1, 0, none⟩
theorem findF_at (fs : List (Nat × Fd)) (x : By) (k : Nat) (h : k < fs.length) (h1 : ∀ j (hj : j < fs.length), j < k → (fs[j]).2.nm ≠ x) (h2 : (fs[k]).2.nm = x) : findF fs x = some fs[k] := by
 induction fs generalizing k with
 | nil => simp at h
 | cons f fs ih =>
  cases k with
  | zero =>
   simp at h2
   simp [findF, h2]
  | succ k =>
   have h0 : f.2.nm ≠ x := h1 0 (by simp) (by omega)
   have := ih k (by simpa using h) (fun j hj hjk => h1 (j + 1) (by simpa using hj) (by omega)) (by simpa using h2)
   simp only [findF] at *
   rw [List.find?_cons_of_neg (by simpa using h0)]
   simpa using this
theorem findF_none (fs : List (Nat × Fd)) (x : By) (h1 : ∀ j (hj : j < fs.length), (fs[j]).2.nm ≠ x) : findF fs x = none := by
 simp only [findF, List.find?_eq_none]
 intro f hf
 obtain ⟨j, hj, rfl⟩ := List.getElem_of_mem hf
 simpa using h1 j hj
theorem find101 (x : By) {S : Nat → Prop} (e c : Nat) (a : Option Addr) (fs : List (Nat × Fd)) (w : World) (hs : Sh w S a fs) (hc : w.cell? ⟨e, 0, none⟩ = some (.slice a fs.length c)) (hl : fs.length ≤ 1000) :
  Calls Tryz.prog 137 #[.pointer (some ⟨e, 0, none⟩), .string ⟨x.toArray⟩] w fun r w' => r = .returned (.pointer (findB fs x)) ∧ w = w' := by
 have HS := tZ hs
 clear hs
 go_enter Tryz.func137, Tryz.ntmps137
 go_wp2_with fail
 go_loopg [6, 12] fs.length (fun gk _ s12 wr => wr = w ∧ ∃ j : Nat, j ≤ fs.length ∧ fs.length ≤ j + gk ∧ s12 = .int .i64 (j : Int) ∧ Hid (∀ i (hi : i < fs.length), i < j → (fs[i]).2.nm ≠ x))
 case atStart => exact ⟨rfl, 0, Nat.zero_le _, by omega, rfl, fun i hi h => by omega⟩
 case round =>
  obtain ⟨rfl, j, hj, hgk, rfl, HF⟩ := hrel
  by_cases hlt : j < fs.length
  ·obtain ⟨g, o, rfl, hg, hp⟩ := HS.out.ptr j hlt
   obtain ⟨_, _, _, _, a1, l1, c1, hb, _⟩ := HS.out.fld fs[j] (List.getElem_mem hlt)
   obtain ⟨⟨k0, _⟩, hfz, hsz⟩ := row7 hb
   have hltz : (j : Int) < (fs.length : Int) := by omega
   by_cases he : (fs[j]).2.nm = x
   ·have heb : ((fs[j]).2.nm == x) = true := by simp [he]
    have HR := tZ (findF_at fs x j hlt (fun i hi h => HF.out i hi h) he)
    clear he hb hfz HF
    generalize hq : (fs[j]).1 = q at *
    have HQ := tZ hq
    clear hq
    generalize (fs[j]).2.nm = y at *
    go_wp2
    go_ret
    exact ⟨by rw [findB, HR.out, ← HQ.out]; rfl, rfl⟩
   ·have heb : ((fs[j]).2.nm == x) = false := beq_eq_false_iff_ne.2 he
    have HF2 := tZ (show ∀ i (hi : i < fs.length), i < j + 1 → (fs[i]).2.nm ≠ x from fun i hi h => by
     by_cases e : i = j
     ·subst e; exact he
     ·exact HF.out i hi (by omega))
    clear he hb hfz
    generalize (fs[j]).1 = q at *
    generalize (fs[j]).2.nm = y at *
    go_wp2
    go_roundg (fs.length - (j + 1))
    case measure => omega
    case rel => exact ⟨rfl, j + 1, by omega, by omega, by go_num, HF2⟩
  ·have hltz : ¬ (j : Int) < (fs.length : Int) := by omega
   go_wp2
   go_ret
   refine ⟨?_, rfl⟩
   rw [findB, findF_none fs x fun i hi => HF.out i hi (by omega)]
   rfl
def rho (fs : List (Nat × Fd)) (x : By) : Vl := match findF fs x with | some f => f.2.v | none => (3, 3)
theorem findF_mem {fs : List (Nat × Fd)} {x : By} {f : Nat × Fd} (h : findF fs x = some f) : f ∈ fs ∧ f.2.nm = x := by
 simp only [findF] at h
 exact ⟨List.mem_of_find?_eq_some h, by simpa using List.find?_some h⟩
theorem worth172 (x : By) {S : Nat → Prop} (e c : Nat) (a : Option Addr) (fs : List (Nat × Fd)) (w : World) (hs : Sh w S a fs) (hc : w.cell? ⟨e, 0, none⟩ = some (.slice a fs.length c)) (he : e < w.heap.size) (hl : fs.length ≤ 1000) :
  Calls Tryz.prog 198 #[.pointer (some ⟨e, 0, none⟩), .string ⟨x.toArray⟩] w (VPost (rho fs x) w) := by
 have H := tZ (fun W (hb : Below w.heap.size w W) => find101 x e c a fs W (hs.next hb) ((hb.cell (p := ⟨e, 0, none⟩) he).trans hc) hl)
 have HS := tZ hs
 clear hs
 unfold rho
 cases hf : findF fs x with
 | some f =>
  have hfb : findB fs x = some ⟨f.1, 0, none⟩ := by simp [findB, hf]
  rw [hfb] at H
  obtain ⟨_, _, _, _, a1, l1, c1, hb, _⟩ := HS.out.fld f (findF_mem hf).1
  have HR := tZ hb
  clear hb
  go_enter Tryz.func198, Tryz.ntmps198
  go_wp2_with (first | (go_at_call 137; refine (H.out _ (bZ _)).mono ?_; rintro r w1 ⟨rfl, rfl⟩; refine Hid.out ?_))
  obtain ⟨⟨k0, k1, k2, k3, k4, k5, k6⟩, hfz, hsz⟩ := row7 ((Below.heap_alloc w (.cells #[.int .i64 0, .int .i64 0] 177) _ (HS.out.fld f (findF_mem hf).1).lt).trans HR.out)
  have hne : f.1 ≠ w.heap.size := by have := (HS.out.fld f (findF_mem hf).1).lt; omega
  have hne' : w.heap.size ≠ f.1 := fun h => hne h.symm
  generalize f.2.v = vv at *
  generalize f.1 = q at *
  clear hfz H hf hfb
  refine tZ ?_
  go_wp2
  refine bodyPost_ret (v := .agg #[.int .i64 vv.1, .int .i64 vv.2]) (by simp [results, Tryz.results198, go_sem]) rfl ?_
  exact ⟨rfl, (Below.refl _ _).alloc (Nat.le_refl _) _⟩
 | none =>
  have hfb : findB fs x = none := by simp [findB, hf]
  rw [hfb] at H
  go_enter Tryz.func198, Tryz.ntmps198
  go_wp2_with (first | (go_at_call 137; refine (H.out _ (bZ _)).mono ?_; rintro r w1 ⟨rfl, rfl⟩))
  refine bodyPost_ret (v := .agg #[.int .i64 3, .int .i64 3]) (by simp [results, Tryz.results198, go_sem]) rfl ?_
  exact ⟨rfl, (Below.refl _ _).alloc (Nat.le_refl _) _⟩
end
section
def nmsF (fs : List (Nat × Fd)) : List By := fs.map fun f => f.2.nm
theorem names_set (fs : List (Nat × Fd)) (j : Nat) (h : j < fs.length) : (strs ((nmsF fs).take j ++ List.replicate (fs.length - j) [])).set j (.string ⟨((fs[j]).2.nm).toArray⟩) = strs ((nmsF fs).take (j + 1) ++ List.replicate (fs.length - (j + 1)) []) := by
 have e1 : (nmsF fs).take (j + 1) = (nmsF fs).take j ++ [(fs[j]).2.nm] := by
  rw [List.take_add_one, List.getElem?_eq_getElem (by simpa [nmsF] using h)]
  simp [nmsF]
 have hl : min j (nmsF fs).length = j := by simp [nmsF]; omega
 obtain ⟨m, hm⟩ : ∃ m, fs.length - j = m + 1 := ⟨fs.length - j - 1, by omega⟩
 rw [e1, hm, show fs.length - (j + 1) = m by omega]
 simp only [strs, List.map_append, List.replicate_succ, List.map_cons, List.map_nil, List.append_assoc, List.cons_append, List.nil_append]
 rw [List.set_append_right _ _ (by simp [hl])]
 simp [hl]
theorem names107 {S : Nat → Prop} (a : Option Addr) (c : Nat) (fs : List (Nat × Fd)) (w : World) (hs : Sh w S a fs) (hl : fs.length ≤ 1000) :
  Calls Tryz.prog 142 #[.slice a fs.length c] w fun e w' => ∃ v, e = .returned v ∧ w'.ownsRow w.heap.size 9 1 v fs.length (strs (nmsF fs)) ∧ Below w.heap.size w w' := by
 have HS := tZ hs
 clear hs
 obtain ⟨i0, hi, hz0, hz1, hz2⟩ := info_parts info9
 go_enter Tryz.func142, Tryz.ntmps142
 obtain ⟨w1, hmake, hown, hgrow⟩ := run_make_full (P := Tryz.prog) w w.heap.size 24 9 i0 (.string ⟨#[]⟩) 1 Tryz.underlying24 hi hz0 hz1 .i64 .i64 fs.length (by rw [hz2]; omega) (by unfold maxLen; omega) (Nat.le_refl _)
 have HB := tZ (show Below w.heap.size w w1 from (Below.refl _ _).grown hgrow (Nat.le_refl _) (fun k hk => by cases hk))
 have HO := tZ (show w1.ownsRow w.heap.size 9 1 (.slice (some ⟨w.heap.size, 0, none⟩) fs.length fs.length) fs.length (strs ((nmsF fs).take 0 ++ List.replicate (fs.length - 0) [])) by
  have e : (madeCells (Value.cells (.string ⟨#[]⟩)) (fs.length * 1)).toList = strs ((nmsF fs).take 0 ++ List.replicate (fs.length - 0) []) := by
   rw [show Value.cells (.string ⟨#[]⟩) = #[.string ⟨#[]⟩] from rfl, toList_madeCells_one]
   simp [strs]
  rw [← e]
  exact hown)
 clear hown hgrow
 go_wp2_with fail
 go_loopg [11] fs.length (fun gk s11 wr => ∃ j : Nat, j ≤ fs.length ∧ fs.length ≤ j + gk ∧ s11 = .int .i64 (j : Int) ∧ Hid (Below w.heap.size w wr) ∧ Hid (wr.ownsRow w.heap.size 9 1 (.slice (some ⟨w.heap.size, 0, none⟩) fs.length fs.length) fs.length (strs ((nmsF fs).take j ++ List.replicate (fs.length - j) []))))
 case atStart => exact ⟨0, Nat.zero_le _, by omega, rfl, HB, HO⟩
 case round =>
  obtain ⟨j, hj, hgk, rfl, HBr, HOr⟩ := hrel
  by_cases hlt : j < fs.length
  ·obtain ⟨g, o, rfl, hg, hp⟩ := HS.out.ptr j hlt
   have hp' := (HBr.out.cell (p := ⟨g, o + j, none⟩) (HS.out.still g hg)).trans hp
   have hq := HS.out.fld fs[j] (List.getElem_mem hlt)
   have hql := hq.lt
   obtain ⟨_, _, _, _, a1, l1, c1, hb, _⟩ := hq
   obtain ⟨⟨k0, _⟩, _, hsz⟩ := row7 ((HBr.out.block _ hql).trans hb)
   have hltz : (j : Int) < (fs.length : Int) := by omega
   have hc := HOr.out.cellAt j (by omega)
   obtain ⟨u, hu⟩ : ∃ u, (strs ((nmsF fs).take j ++ List.replicate (fs.length - j) []))[j]? = some u := ⟨_, List.getElem?_eq_getElem (by simp [strs, nmsF]; omega)⟩
   rw [hu] at hc
   have hfz := HOr.out.frozenAt j
   have HO2 := tZ (show (wr.setCell ⟨w.heap.size, j, none⟩ (.string ⟨((fs[j]).2.nm).toArray⟩)).ownsRow w.heap.size 9 1 (.slice (some ⟨w.heap.size, 0, none⟩) fs.length fs.length) fs.length (strs ((nmsF fs).take (j + 1) ++ List.replicate (fs.length - (j + 1)) [])) by
    have h2 := (HOr.out.stored j (.string ⟨((fs[j]).2.nm).toArray⟩)).1
    have e : (strs ((nmsF fs).take j ++ List.replicate (fs.length - j) [])).set j (.string ⟨((fs[j]).2.nm).toArray⟩) = strs ((nmsF fs).take (j + 1) ++ List.replicate (fs.length - (j + 1)) []) := names_set fs j hlt
    rw [e] at h2
    exact h2)
   clear hb hp hu HOr
   generalize (fs[j]).1 = q at *
   generalize (fs[j]).2.nm = y at *
   go_wp2
   go_roundg (fs.length - (j + 1))
   case measure => omega
   case rel => exact ⟨j + 1, by omega, by omega, by go_num, HBr.out.setCell (p := ⟨w.heap.size, j, none⟩) (Nat.le_refl _) _, HO2⟩
  ·have hltz : ¬ (j : Int) < (fs.length : Int) := by omega
   obtain rfl : j = fs.length := by omega
   go_wp2
   go_ret
   refine ⟨_, rfl, ?_, HBr.out⟩
   have := HOr.out
   rw [Nat.sub_self, List.take_of_length_le (by simp [nmsF])] at this
   simpa using this
end
section
def anyM (on : List By) (p : Pt) : Bool := on.any fun x => mentP x p
def ruleV (p : Pt) (a : Option Addr) (l c : Nat) : Value := .agg #[.int .i64 (p.k : Int), .string ⟨p.nm.toArray⟩, .int .i64 (p.n : Int), .slice a l c]
theorem entersMent : ∀ args w, (callFunc 195 args).run Tryz.prog w = .ok (.enter 195 args) w := enters_of Tryz.func195 (by kernel_rfl) rfl
theorem indexOn {S : Nat → Prop} (p : Pt) (a : Option Addr) (l c : Nat) (on : List By) (ao : Option Addr) (co : Nat) (w : World) (hP : PIs w S p a l c) (hS : ∀ q, S q → q < w.heap.size)
  (hon : ∀ j (h : j < on.length), ∃ g, ao = some ⟨g, 0, none⟩ ∧ g < w.heap.size ∧ w.cell? ⟨g, j, none⟩ = some (.string ⟨(on[j]).toArray⟩)) (hl : on.length ≤ 1000) :
  Calls Tryz.prog 217 #[.slice ao on.length co, .func (.func 195) #[ruleV p a l c] #[]] w fun e w' => ∃ z : Int, e = .returned (.int .i64 z) ∧ (0 ≤ z ↔ anyM on p = true) ∧ Below w.heap.size w w' := by
 have HM := tZ (fun x W (hb : Below w.heap.size w W) => ruleMentions x p a l c W (hP.next fun q hq => hb.block q (hS q hq)) (fun q hq => Nat.lt_of_lt_of_le (hS q hq) hb.size))
 have eg := entersMent
 have HON := tZ hon
 clear hP hS hon
 go_enter Tryz.func217, Tryz.ntmps217
 go_wp2_with fail
 go_loopg [5, 8] on.length (fun gk _ s8 wr => ∃ j : Nat, j ≤ on.length ∧ on.length ≤ j + gk ∧ s8 = .int .i64 (j : Int) ∧ Hid (Below w.heap.size w wr) ∧ Hid (∀ i (hi : i < on.length), i < j → mentP on[i] p = false))
 case atStart => exact ⟨0, Nat.zero_le _, by omega, rfl, Below.refl _ _, fun i hi h => by omega⟩
 case round =>
  obtain ⟨j, hj, hgk, rfl, HB, HF⟩ := hrel
  by_cases hlt : j < on.length
  ·obtain ⟨g, rfl, hg, c0⟩ := HON.out j hlt
   have d0 := (HB.out.cell (p := ⟨g, j, none⟩) hg).trans c0
   have HC := tZ (HM.out (on[j]) wr HB.out)
   have HSZ := tZ HB.out.size
   have hltz : (j : Int) < (on.length : Int) := by omega
   clear c0
   cases hf : mentP on[j] p with
   | true =>
    rw [hf] at HC
    unfold ruleV
    go_wp2_with (first | (go_at_fn 195; refine HC.out.mono ?_; rintro e w1 ⟨rfl, hb1⟩) | (go_at_call 195; refine HC.out.mono ?_; rintro e w1 ⟨rfl, hb1⟩))
    go_ret
    exact ⟨_, rfl, ⟨fun _ => List.any_eq_true.2 ⟨on[j], List.getElem_mem hlt, hf⟩, fun _ => by omega⟩, HB.out.trans (hb1.mono HSZ.out)⟩
   | false =>
    rw [hf] at HC
    go_wp2_with (first | (go_at_fn 195; refine HC.out.mono ?_; rintro e w1 ⟨rfl, hb1⟩) | (go_at_call 195; refine HC.out.mono ?_; rintro e w1 ⟨rfl, hb1⟩))
    go_roundg (on.length - (j + 1))
    case measure => omega
    case rel =>
     refine ⟨j + 1, by omega, by omega, by go_num, HB.out.trans (hb1.mono HSZ.out), (show Hid _ from fun i hi h => ?_)⟩
     by_cases e : i = j
     ·subst e; exact hf
     ·exact HF.out i hi (by omega)
  ·have hltz : ¬ (j : Int) < (on.length : Int) := by omega
   go_wp2
   go_ret
   refine ⟨_, rfl, ⟨fun h => by omega, fun h => ?_⟩, HB.out⟩
   obtain ⟨x, hx, hm⟩ := List.any_eq_true.1 h
   obtain ⟨i, hi, rfl⟩ := List.getElem_of_mem hx
   rw [HF.out i hi (by omega)] at hm
   cases hm
theorem containsOn {S : Nat → Prop} (p : Pt) (a : Option Addr) (l c : Nat) (on : List By) (ao : Option Addr) (co : Nat) (w : World) (hP : PIs w S p a l c) (hS : ∀ q, S q → q < w.heap.size)
  (hon : ∀ j (h : j < on.length), ∃ g, ao = some ⟨g, 0, none⟩ ∧ g < w.heap.size ∧ w.cell? ⟨g, j, none⟩ = some (.string ⟨(on[j]).toArray⟩)) (hl : on.length ≤ 1000) :
  Calls Tryz.prog 194 #[.slice ao on.length co, .func (.func 195) #[ruleV p a l c] #[]] w fun e w' => e = .returned (.bool (anyM on p)) ∧ Below w.heap.size w w' := by
 have H := tZ (indexOn p a l c on ao co w hP hS hon hl)
 clear hP hS hon
 go_enter Tryz.func194, Tryz.ntmps194
 go_wp2_with (first | (go_at_call 217; refine H.out.mono ?_; rintro e w1 ⟨z, rfl, hz, hb1⟩))
 cases hb : anyM on p with
 | true =>
  have : 0 ≤ z := hz.2 hb
  have hzb : decide (0 ≤ z) = true := by simp [this]
  go_ret
  exact ⟨by simp [this, hb], hb1⟩
 | false =>
  have : ¬ 0 ≤ z := fun h => by rw [hz.1 h] at hb; cases hb
  go_ret
  exact ⟨by simp [this, hb], hb1⟩
def hangP (on : List By) : List (Nat × Fd) → List (Nat × Fd)
 | [] => []
 | f :: r => if anyM on f.2.p = true then f :: hangP (on ++ [f.2.nm]) r else hangP on r
def ptrs (fs : List (Nat × Fd)) : List Value := fs.map fun f => .pointer (some ⟨f.1, 0, none⟩)
theorem infoPtr : (Tryz.prog.info? 220).map (fun i => (i.zero, i.size, i.bytes)) = some (some (.pointer none), 1, 8) := by kernel_rfl
theorem own_ne {w : World} {B B' z z' n n' : Nat} {e e' : TypeId} {v v' : Value} {xs xs' : List Value} (h : w.ownsRow B e z v n xs) (h' : w.ownsRow B' e' z' v' n' xs') (hne : e ≠ e') : v.ownBlock = none ∨ v.ownBlock ≠ v'.ownBlock := by
 rcases h.2 with ⟨rfl, _⟩ | ⟨g, cap, cur, rfl, _, hg, _⟩
 ·exact Or.inl rfl
 ·right
  rcases h'.2 with ⟨rfl, _⟩ | ⟨g', cap', cur', rfl, _, hg', _⟩
  ·simp [Value.ownBlock]
  ·simp only [Value.ownBlock, ne_eq, Option.some.injEq]
   rintro rfl
   rw [hg] at hg'
   simp at hg'
   exact hne hg'.2
theorem hanging137 (x : By) {S : Nat → Prop} (e c : Nat) (a : Option Addr) (fs : List (Nat × Fd)) (w : World) (hs : Sh w S a fs) (hc : w.cell? ⟨e, 0, none⟩ = some (.slice a fs.length c)) (he : e < w.heap.size) (hl : fs.length ≤ 900) :
  Calls Tryz.prog 166 #[.pointer (some ⟨e, 0, none⟩), .string ⟨x.toArray⟩] w fun r w' => ∃ v, r = .returned v ∧ w'.ownsRow w.heap.size 220 1 v (hangP [x] fs).length (ptrs (hangP [x] fs)) ∧ Below w.heap.size w w' := by
 have HS := tZ hs
 clear hs
 obtain ⟨i0, hi, hz0, hz1, hz2⟩ := info_parts info9
 obtain ⟨i1, gi, gz0, gz1, gz2⟩ := info_parts infoPtr
 go_enter Tryz.func166, Tryz.ntmps166
 go_wp2_with fail
 go_loopg [5, 6, 8, 16] fs.length (fun gk s5 s6 _ s16 wr => ∃ (j : Nat) (k : List (Nat × Fd)) (o : List By), j ≤ fs.length ∧ fs.length ≤ j + gk ∧ k.length ≤ j ∧ o.length ≤ j + 1 ∧ s16 = .int .i64 (j : Int) ∧ Hid (hangP [x] fs = k ++ hangP o (fs.drop j)) ∧ Hid (wr.ownsRow w.heap.size 220 1 s5 k.length (ptrs k)) ∧ Hid (wr.ownsRow w.heap.size 9 1 s6 o.length (strs o)) ∧ Hid (Below w.heap.size w wr))
 case atStart => exact ⟨0, [], [x], Nat.zero_le _, by omega, by simp, by simp, rfl, by rw [List.drop_zero]; rfl, World.ownsRow_nil _ _ _ _, own_lit w [x] (by simp), (Below.refl _ _).alloc (Nat.le_refl _) _⟩
 case round =>
  obtain ⟨j, k, o, hj, hgk, hk, ho, rfl, HH, HK, HO, HB⟩ := hrel
  obtain ⟨ak, lk, ck, rfl⟩ := own_slice HK.out
  by_cases hlt : j < fs.length
  ·obtain ⟨g, of, rfl, hg, hp⟩ := HS.out.ptr j hlt
   have hp' := (HB.out.cell (p := ⟨g, of + j, none⟩) (HS.out.still g hg)).trans hp
   have hq := HS.out.fld fs[j] (List.getElem_mem hlt)
   have hql := hq.lt
   obtain ⟨_, _, _, _, a1, l1, c1, hb, hP⟩ := hq
   obtain ⟨⟨k0, k1, k2, k3, k4, k5, k6⟩, _, hsz⟩ := row7 ((HB.out.block _ hql).trans hb)
   have hltz : (j : Int) < (fs.length : Int) := by omega
   obtain ⟨ao, lo, co, rfl⟩ := own_slice HO.out
   have hlo : lo = o.length := by
    rcases HO.out.2 with ⟨h1, h2⟩ | ⟨_, _, _, h1, _⟩
    ·simp at h1; omega
    ·simp at h1; omega
   subst hlo
   have HC := tZ (fun W (hb : Below wr.heap.size wr W) => containsOn (fs[j]).2.p a1 l1 c1 o ao co W ((hP.next fun q hq => HB.out.block q (HS.out.still q hq)).next fun q hq => hb.block q (Nat.lt_of_lt_of_le (HS.out.still q hq) HB.out.size)) (fun q hq => Nat.lt_of_lt_of_le (Nat.lt_of_lt_of_le (HS.out.still q hq) HB.out.size) hb.size) (fun i hi => by
    rcases HO.out.2 with ⟨h1, h2⟩ | ⟨g0, cap0, cur0, h1, h2, h3, _⟩
    ·omega
    ·have e1 : ao = some ⟨g0, 0, none⟩ := by simp at h1; exact h1.1
     subst e1
     have hg0 := (Array.getElem?_eq_some_iff.1 h3).1
     refine ⟨g0, rfl, Nat.lt_of_lt_of_le hg0 hb.size, ?_⟩
     rw [hb.cell (p := ⟨g0, i, none⟩) hg0, HO.out.cellAt i (by omega)]
     simp [strs, hi]) (by omega))
   have hdrop := List.drop_eq_getElem_cons hlt
   have HP0 := tZ hP
   have HB0 := tZ hb
   clear hP hb hp
   cases hm : anyM o (fs[j]).2.p with
   | false =>
    have HH2 := tZ (show hangP [x] fs = k ++ hangP o (fs.drop (j + 1)) by rw [HH.out, hdrop]; simp [hangP, hm])
    rw [hm] at HC
    clear hm
    generalize fs[j] = ff at *
    go_wp2_with (first | (go_at_call 194; refine (HC.out _ (Below.refl _ _)).mono ?_; rintro e w1 ⟨rfl, hb1⟩))
    go_roundg (fs.length - (j + 1))
    case measure => omega
    case rel => exact ⟨j + 1, k, o, by omega, by omega, by omega, by omega, by go_num, HH2, own_below HK.out hb1, own_below HO.out hb1, HB.out.trans (hb1.mono HB.out.size)⟩
   | true =>
    have HH2 := tZ (show hangP [x] fs = (k ++ [fs[j]]) ++ hangP (o ++ [(fs[j]).2.nm]) (fs.drop (j + 1)) by rw [HH.out, hdrop]; simp [hangP, hm])
    rw [hm] at HC
    clear hm
    generalize fs[j] = ff at *
    go_wp2_with (first | (go_at_call 194; refine (HC.out _ (Below.refl _ _)).mono ?_; rintro e w1 ⟨rfl, hb1⟩; refine Hid.out ?_))
    have HK1 := tZ (own_below HK.out hb1)
    have HO1 := tZ (own_below HO.out hb1)
    have HB1 := tZ (HB.out.trans (hb1.mono HB.out.size))
    have hs1 := HB1.out.size
    obtain ⟨⟨m0, _⟩, _, hsm⟩ := row7 ((HB1.out.block _ hql).trans HB0.out)
    clear hb1
    refine tZ ?_
    go_wp2_with (first | (at_builtin; refine wpList_append_own _ rfl (.tmp 27) (.tmp 29) 101 rfl w.heap.size 220 i1 (.pointer none) 1 8 Tryz.underlying101 gi gz0 gz1 gz2 rfl (by decide) (.slice ak lk ck) k.length (ptrs k) rfl (HK1.out.alloc _) ⟨w1.heap.size, 0, none⟩ 1 1 [.pointer (some ⟨ff.1, 0, none⟩)] rfl rfl (fun q u hq => cells_new w1 [.pointer (some ⟨ff.1, 0, none⟩)] 220 q u hq) (fun u hu => by simp at hu; subst hu; rfl) (by unfold maxLen; omega) (by omega) (by simp; omega) ?_; intro v' w2 hown' hgrow _; refine Hid.out ?_))
    have HB2 := tZ ((HB1.out.alloc hs1 (.cells #[.pointer (some ⟨ff.1, 0, none⟩)] 220)).grown hgrow (by simp; omega) (fun q hq => (HK1.out.lt q hq).1))
    have hs2 := HB2.out.size
    obtain ⟨⟨n0, _⟩, _, hsn⟩ := row7 ((HB2.out.block _ hql).trans HB0.out)
    have HO2 := tZ ((HO1.out.alloc (.cells #[.pointer (some ⟨ff.1, 0, none⟩)] 220)).kept hgrow (own_ne HO1.out HK1.out (by decide)))
    have HK2 := tZ hown'
    clear hgrow hown'
    refine tZ ?_
    go_wp2_with (first | (at_builtin; refine wpList_append_own _ rfl (.tmp 31) (.tmp 36) 24 rfl w.heap.size 9 i0 (.string ⟨#[]⟩) 1 16 Tryz.underlying24 hi hz0 hz1 hz2 rfl (by decide) (.slice ao o.length co) o.length (strs o) rfl (HO2.out.alloc _) ⟨w2.heap.size, 0, none⟩ 1 1 [.string ⟨ff.2.nm.toArray⟩] rfl rfl (fun q u hq => cells_new w2 [.string ⟨ff.2.nm.toArray⟩] 9 q u hq) (fun u hu => by simp at hu; subst hu; rfl) (by unfold maxLen; omega) (by omega) (by simp; omega) ?_; intro v3 w3 hown3 hgrow3 _; refine Hid.out ?_))
    have HB3 := tZ ((HB2.out.alloc hs2 (.cells #[.string ⟨ff.2.nm.toArray⟩] 9)).grown hgrow3 (by simp; omega) (fun q hq => (HO2.out.lt q hq).1))
    have HK3 := tZ ((HK2.out.alloc (.cells #[.string ⟨ff.2.nm.toArray⟩] 9)).kept hgrow3 (own_ne HK2.out HO2.out (by decide)))
    have HO3 := tZ hown3
    clear hgrow3 hown3
    refine tZ ?_
    go_wp2
    go_roundg (fs.length - (j + 1))
    case measure => omega
    case rel => exact ⟨j + 1, k ++ [ff], o ++ [ff.2.nm], by omega, by omega, by simp; omega, by simp; omega, by go_num, HH2, tZ (by rw [List.length_append]; simpa [ptrs] using HK3.out), tZ (by rw [List.length_append]; simpa [strs] using HO3.out), HB3⟩
  ·have hltz : ¬ (j : Int) < (fs.length : Int) := by omega
   go_wp2
   go_ret
   have e1 : hangP [x] fs = k := by
    rw [HH.out, List.drop_of_length_le (by omega)]
    simp [hangP]
   rw [e1]
   exact ⟨_, rfl, HK.out, HB.out⟩
end
end Go.Proofs.YtihgojcfpnhelaaGreatDoor
