import Derived.Shelf.SlSortCmp.Insertion
import Derived.Shelf.Small.Strs
import Derived.Test.YtihgojcfpnhelabGreatDoorS2Bk
set_option maxRecDepth 100000
set_option maxHeartbeats 4000000
set_option linter.unusedVariables false
set_option linter.unusedSimpArgs false
namespace Go.Proofs
open Go.Shelf
def Tryz.lays106_ren : Go.Shelf.Ren := ⟨fun | 106 => 63 | 213 => 85 | 265 => 108 | n => n, fun | 3 => 3 | 9 => 9 | n => n, fun | n => n⟩
theorem Tryz.lays106 : Go.Proofs.Lays.n106 Tryz.prog Tryz.lays106_ren := {
 mixed := by kernel_rfl
 f106 := Tryz.func63.trans (congrArg some (by kernel_rfl))
 f213 := Tryz.func85.trans (congrArg some (by kernel_rfl))
 f265 := Tryz.func108.trans (congrArg some (by kernel_rfl))
 t3 := Tryz.underlying3
 a3 := Tryz.isAgg3
 z3 := Tryz.sizeOf3
 v3 := Tryz.zeroValue3
 t9 := Tryz.underlying9
 a9 := Tryz.isAgg9
 z9 := Tryz.sizeOf9
 v9 := Tryz.zeroValue9 }
def Tryz.lays125_ren : Go.Shelf.Ren := ⟨fun | 125 => 107 | 128 => 140 | 129 => 141 | n => n, fun | 3 => 3 | 4 => 4 | 5 => 5 | 9 => 9 | 46 => 183 | 51 => 218 | 53 => 187 | n => n, fun | n => n⟩
theorem Tryz.lays125 : Go.Proofs.Lays.n125 Tryz.prog Tryz.lays125_ren := {
 mixed := by kernel_rfl
 f125 := Tryz.func107.trans (congrArg some (by kernel_rfl))
 f128 := Tryz.func140.trans (congrArg some (by kernel_rfl))
 f129 := Tryz.func141.trans (congrArg some (by kernel_rfl))
 t3 := Tryz.underlying3
 a3 := Tryz.isAgg3
 z3 := Tryz.sizeOf3
 v3 := Tryz.zeroValue3
 t4 := Tryz.underlying4
 a4 := Tryz.isAgg4
 z4 := Tryz.sizeOf4
 v4 := Tryz.zeroValue4
 t5 := Tryz.underlying5
 a5 := Tryz.isAgg5
 z5 := Tryz.sizeOf5
 v5 := Tryz.zeroValue5
 t9 := Tryz.underlying9
 a9 := Tryz.isAgg9
 z9 := Tryz.sizeOf9
 v9 := Tryz.zeroValue9
 t46 := Tryz.underlying183
 a46 := Tryz.isAgg183
 z46 := Tryz.sizeOf183
 v46 := Tryz.zeroValue183
 t51 := Tryz.underlying218
 a51 := Tryz.isAgg218
 z51 := Tryz.sizeOf218
 v51 := Tryz.zeroValue218
 t53 := Tryz.underlying187
 a53 := Tryz.isAgg187
 z53 := Tryz.sizeOf187
 v53 := Tryz.zeroValue187 }
def Tryz.lays20_ren : Go.Shelf.Ren := ⟨fun | 20 => 132 | n => n, fun | 0 => 0 | 3 => 3 | 4 => 4 | 22 => 58 | 24 => 116 | 25 => 125 | n => n, fun | n => n⟩
theorem Tryz.lays20 : Go.Proofs.SlLaysF.n20 Tryz.prog Tryz.lays20_ren := {
 mixed := by kernel_rfl
 f20 := ⟨Tryz.f132.name, by kernel_rfl, Tryz.func132.trans (congrArg some (by kernel_rfl))⟩
 t0 := Tryz.underlying0
 a0 := Tryz.isAgg0
 z0 := Tryz.sizeOf0
 v0 := Tryz.zeroValue0
 t3 := Tryz.underlying3
 a3 := Tryz.isAgg3
 z3 := Tryz.sizeOf3
 v3 := Tryz.zeroValue3
 t4 := Tryz.underlying4
 a4 := Tryz.isAgg4
 z4 := Tryz.sizeOf4
 v4 := Tryz.zeroValue4
 t22 := Tryz.underlying58
 a22 := Tryz.isAgg58
 z22 := Tryz.sizeOf58
 v22 := Tryz.zeroValue58
 a24 := Tryz.isAgg116
 z24 := Tryz.sizeOf116
 t25 := Tryz.underlying125
 a25 := Tryz.isAgg125
 z25 := Tryz.sizeOf125
 v25 := Tryz.zeroValue125 }
end Go.Proofs
namespace Go.Proofs.YtihgojcfpnhelabGreatDoor
open Go.RowKit Go.Shelf
attribute [local go_sem] Oper.semAt_some
def upL (n : Nat) : (k : Nat) → k ≤ n → List { i : Nat // i < n }
 | 0, _ => []
 | k + 1, h => upL n k (by omega) ++ [⟨k, by omega⟩]
theorem upL_length (n : Nat) : ∀ k h, (upL n k h).length = k
 | 0, _ => rfl
 | k + 1, h => by simp [upL, upL_length n k]
theorem wrap_up (n j : Nat) (hn : n ≤ maxLen) (hj : j < n) : wrap64 ((j : Int) + 1) = ((j + 1 : Nat) : Int) := by
 unfold maxLen at hn
 unfold wrap64
 omega
theorem meas_up (n j : Nat) (hj : j < n) : ((n : Int) - ((j + 1 : Nat) : Int)).toNat < ((n : Int) - (j : Int)).toNat := by omega
theorem values1 (m : Nat) (hm : 1 ≤ m) (l Bs b off n c : Nat) (vs : Nat → Value) (T : Nat → Prop) (hn : n ≤ maxLen) (hT1 : T Bs) (hT2 : T b) (J Jx : List { i : Nat // i < n } → World → Prop)
  (hY : ∀ pre (x : { i : Nat // i < n }) W, J pre W → pre.length < n → YieldAt Fence.wide (m - 1) Tryz.prog l #[vs x.1] W fun e W' =>
   (e = .returned (.bool true) ∧ J (pre ++ [x]) W' ∧ KpB T W W') ∨ (e = .returned (.bool false) ∧ Jx (pre ++ [x]) W'))
  (W : World) (hBs : W.cell? ⟨Bs, 0, none⟩ = some (.slice (some ⟨b, off, none⟩) n c)) (hc : ∀ j, j < n → W.cell? ⟨b, off + j, none⟩ = some (vs j)) (h0 : J [] W) :
  CallsIn Fence.wide m Tryz.prog 84 #[.func (.yield l) #[] #[], .pointer (some ⟨Bs, 0, none⟩)] W fun e W' => (∃ v, e = .returned v) ∧
   ((∃ ys, ys = upL n n (Nat.le_refl _) ∧ J ys W') ∨ (∃ pre, True ∧ Jx pre W')) := by
 refine callsIn_of_wp Tryz.func84 rfl trivial ?_ rfl
 simp only [Tryz.ntmps84, List.size_toArray, List.length_cons, List.length_nil, Nat.reduceAdd, Nat.reduceSub, Array.replicate_succ, Array.replicate_zero, List.push_toArray, List.append_toArray, List.nil_append, List.cons_append]
 gi_wp2
 gi_loopw [7] (fun i wr => ∃ (j : Nat) (hj : j ≤ n), i = .int .i64 (j : Int) ∧ J (upL n j hj) wr ∧ KpB T W wr) (fun i _ => ((n : Int) - intOf i).toNat)
 case atStart => exact ⟨0, by omega, rfl, h0, Nat.le_refl _, fun _ _ => rfl⟩
 case round =>
  obtain ⟨j, hj, rfl, hJs, hsz, hkp⟩ := hrel
  by_cases hjn : j < n
  ·obtain ⟨fn, tmps, assign, body, hy, hR⟩ := hY _ ⟨j, hjn⟩ wr hJs (by rw [upL_length]; omega)
   dsimp only at hy
   have hcx : wr.cell? ⟨b, off + j, none⟩ = some (vs j) := (World.cell?_of_block (a := ⟨b, off + j, none⟩) (hkp b hT2)).trans (hc _ (by omega))
   have hil : (j : Int) < (n : Int) := by omega
   have hwj : wrap64 ((j : Int) + 1) = ((j + 1 : Nat) : Int) := wrap_up n j hn hjn
   gi_wp2
   refine hR.mono ?_
   rintro e W3 (⟨rfl, hJ3, hk3⟩ | ⟨rfl, hJx3⟩)
   ·gi_wp2
    go_roundw
    case rel =>
     exact ⟨j + 1, hjn, by rw [hwj], hJ3, Nat.le_trans hsz hk3.1, fun q hq => (hk3.2 q hq).trans (hkp q hq)⟩
    case measure =>
     rw [hwj]
     exact meas_up n j hjn
   ·gi_wp2
    refine bodyPost_ret (results_none rfl _ _ _) rfl ?_
    exact ⟨⟨_, rfl⟩, .inr ⟨_, trivial, hJx3⟩⟩
  ·obtain rfl : j = n := by omega
   gi_wp2
   go_end0
   exact ⟨⟨_, rfl⟩, .inl ⟨_, rfl, hJs⟩⟩
theorem values0 (m : Nat) (l Bs c : Nat) (a : Option Addr) (J : List { i : Nat // i < 0 } → World → Prop) (W : World) (hBs : W.cell? ⟨Bs, 0, none⟩ = some (.slice a 0 c)) (h0 : J [] W) :
  CallsIn Fence.wide m Tryz.prog 84 #[.func (.yield l) #[] #[], .pointer (some ⟨Bs, 0, none⟩)] W fun e W' => (∃ v, e = .returned v) ∧ J [] W' := by
 refine callsIn_of_wp Tryz.func84 rfl trivial ?_ rfl
 simp only [Tryz.ntmps84, List.size_toArray, List.length_cons, List.length_nil, Nat.reduceAdd, Nat.reduceSub, Array.replicate_succ, Array.replicate_zero, List.push_toArray, List.append_toArray, List.nil_append, List.cons_append]
 gi_wp2
 gi_loopw [7] (fun i wr => i = .int .i64 0 ∧ J [] wr) (fun _ _ => 0)
 case atStart => exact ⟨rfl, h0⟩
 case round =>
  obtain ⟨rfl, hJs⟩ := hrel
  gi_wp2
  go_end0
  exact ⟨⟨_, rfl⟩, hJs⟩
theorem valuesC (a : Option Addr) (n c : Nat) (w : World) :
  Calls Tryz.prog 61 #[.slice a n c] w fun e w' => e = .returned (.func (.func 84) #[] #[.pointer (some ⟨w.heap.size, 0, none⟩)]) ∧ w' = w.alloc (.cells #[.slice a n c] 58) := by
 go_enter Tryz.func61, Tryz.ntmps61
 go_wp2
 go_ret
 exact ⟨rfl, rfl⟩
theorem values_stops (m : Nat) (hm : 1 ≤ m) (Bs n c : Nat) (a : Option Addr) (vs : Nat → Value) (T : Nat → Prop) (hn : n ≤ maxLen) (hT1 : T Bs) (w : World) (hT : ∀ q, T q → q < w.heap.size) (hBs : w.cell? ⟨Bs, 0, none⟩ = some (.slice a n c)) (ha : n = 0 ∨ ∃ h o, a = some ⟨h, o, none⟩ ∧ T h) (hc : ∀ j, j < n → ∀ h o, a = some ⟨h, o, none⟩ → w.cell? ⟨h, o + j, none⟩ = some (vs j)) :
  SeqStopsK Fence.wide m Tryz.prog 84 #[.pointer (some ⟨Bs, 0, none⟩)] (fun x : { i : Nat // i < n } => #[vs x.1]) (KpB T) (fun ys => ys = upL n n (Nat.le_refl _)) (fun _ => True) n w := fun l J Jx W hW _ _ hY h0 => by
 have hBs' := (hW.cell (p := ⟨Bs, 0, none⟩) (hT _ hT1)).trans hBs
 rcases ha with rfl | ⟨h, o, rfl, hh⟩
 ·exact (values0 m l Bs c a J W hBs' h0).mono fun e W' ⟨he, hj⟩ => ⟨he, .inl ⟨_, rfl, hj⟩⟩
 ·exact values1 m hm l Bs h o n c vs T hn hT1 hh J Jx hY W hBs' (fun j hj => (hW.cell (p := ⟨h, o + j, none⟩) (hT _ hh)).trans (hc j hj h o rfl)) h0
end Go.Proofs.YtihgojcfpnhelabGreatDoor
namespace Go.Proofs.YtihgojcfpnhelabGreatDoor
open Go.RowKit Go.Shelf
attribute [local go_sem] Oper.semAt_some
def AppI (w : World) (n : Nat) (vs : Nat → Value) (pre : List { i : Nat // i < n }) (W : World) : Prop :=
 ∃ v, Boxed W w.heap.size 58 v ∧ W.ownsRow w.heap.size 116 1 v pre.length (pre.map fun x => vs x.1) ∧ Below w.heap.size w W
theorem appI_own {w : World} {n B : Nat} {vs : Nat → Value} (hw : w.heap.size ≤ B) : OwnFrom B (AppI w n vs) := by
 rintro pre W W' row ⟨v, h1, h2, h3⟩ hg hr
 refine ⟨v, h1.kept hg fun e' => ?_, ?_, ⟨hg.os.trans h3.os, hg.tape.trans h3.tape, hg.output.trans h3.output, Nat.le_trans h3.size hg.size, fun q hq => ?_⟩⟩
 ·obtain ⟨_, o, h4, h5⟩ := hr _ e'.symm
  rw [show W.heap[w.heap.size]? = _ from h1] at h4
  cases h4
  simp [Obj.isCells] at h5
 ·refine own_ke h2 (P := fun q => some q = row) ⟨hg.os, hg.tape, hg.output, hg.size, fun q hq hn => hg.block q hq hn⟩ fun q hq e' => ?_
  rcases h2.2 with ⟨h3, _⟩ | ⟨g, cap, cur, h3, _, h4, _⟩
  ·rw [h3] at hq; simp [Value.ownBlock] at hq
  ·rw [h3] at hq
   simp [Value.ownBlock] at hq
   subst hq
   obtain ⟨_, o, h5, h6⟩ := hr g e'.symm
   rw [h4] at h5
   cases h5
   simp [Obj.isCells] at h6
 ·rw [hg.block q (Nat.lt_of_lt_of_le hq h3.size) fun e' => by have := (hr q e'.symm).1; omega]
  exact h3.block q hq
theorem upL_map (n : Nat) (f : Nat → Value) : (upL n n (Nat.le_refl _)).map (fun x => f x.1) = (List.range n).map f := by
 have : ∀ k h, (upL n k h).map (fun x => f x.1) = (List.range k).map f := by
  intro k
  induction k with
  | zero => intro _; rfl
  | succ k ih => intro h; rw [upL, List.map_append, ih, List.range_succ, List.map_append]; rfl
 exact this n _
theorem appendSeq (Bs n c : Nat) (a : Option Addr) (ps : Nat → Nat) (w : World) (hn : n ≤ 1000) (hBl : Bs < w.heap.size) (hBs : w.cell? ⟨Bs, 0, none⟩ = some (.slice a n c)) (ha : n = 0 ∨ ∃ h o, a = some ⟨h, o, none⟩ ∧ h < w.heap.size) (hc : ∀ j, j < n → ∀ h o, a = some ⟨h, o, none⟩ → w.cell? ⟨h, o + j, none⟩ = some (.pointer (some ⟨ps j, 0, none⟩))) :
  Calls Tryz.prog 105 #[.slice none 0 0, .func (.func 84) #[] #[.pointer (some ⟨Bs, 0, none⟩)]] w fun r w' => ∃ an ln cn, r = .returned (.slice an ln cn) ∧ w'.ownsRow w.heap.size 116 1 (.slice an ln cn) n ((List.range n).map fun j => .pointer (some ⟨ps j, 0, none⟩)) ∧ Below w.heap.size w w' := by
 have hnm : n ≤ maxLen := by unfold maxLen; omega
 have HC := tZ hc
 have HA := tZ ha
 clear hc ha
 refine (callsIn_wide (n := 3)).1 ?_
 refine callsIn_of_wp_marks Tryz.func105 rfl trivial ?_ rfl
 simp only [Tryz.ntmps105, List.size_toArray, List.length_cons, List.length_nil, Nat.reduceAdd, Nat.reduceSub, Array.replicate_succ, Array.replicate_zero, List.push_toArray, List.append_toArray, List.nil_append, List.cons_append]
 gi_wp2
 have hb1 : Below w.heap.size w (w.alloc (.cells #[.slice none 0 0] 58)) := (Below.refl _ _).alloc (Nat.le_refl _) _
 have bO := Boxed.new w 58 (.slice none 0 0)
 refine wpIn_rangeFunc_ownG rfl (by omega) (gf := 84) (lb := #[.pointer (some ⟨Bs, 0, none⟩)]) rfl trivial (enters_of Tryz.func84 (by kernel_rfl) rfl)
  (values_stops _ (by omega) Bs n c a (fun i => .pointer (some ⟨ps i, 0, none⟩)) (fun q => q < w.heap.size) hnm hBl _ (fun q hq => by simp; omega) ((hb1.cell (p := ⟨Bs, 0, none⟩) hBl).trans hBs) HA.out (fun i hi h o e' => by
   rcases HA.out with h0 | ⟨h', o', h1, h2⟩
   ·omega
   ·rw [e'] at h1
    cases h1
    exact (hb1.cell (p := ⟨h, o + i, none⟩) h2).trans (HC.out i hi h o e')))
  (fun h1 h2 => ⟨Nat.le_trans h1.1 h2.1, fun q hq => (h2.2 q hq).trans (h1.2 q hq)⟩)
  (fun W l o o' hl ho _ _ => ⟨by simp, fun q hq => World.putObj_heap_other (fun e' => by simp at hl; omega)⟩)
  (Below.refl _ _) (fun _ => rfl) (AppI w n (fun i => .pointer (some ⟨ps i, 0, none⟩))) (fun _ _ _ => False)
  (appI_own (by simp)) (fun _ _ _ _ _ hs _ _ => hs)
  ⟨.slice none 0 0, bO, World.ownsRow_nil _ _ _ _, hb1⟩
  (fun x => { tmps := #[.slice none 0 0, .func (.func 84) #[] #[.pointer (some ⟨Bs, 0, none⟩)], .pointer (some ⟨w.heap.size, 0, none⟩), undef, .slice none 0 0, .pointer (some ⟨ps x.1, 0, none⟩), .func (.func 84) #[] #[.pointer (some ⟨Bs, 0, none⟩)], .pointer (some ⟨ps x.1, 0, none⟩), undef, undef, undef, undef, undef], defers := [] }) ?assign ?body ?done ?stop
 case assign =>
  intro l x W K hK
  gi_wp2
  exact hK
 case body =>
  rintro l pre x W ⟨v, hbox, hown, hbel⟩ hlt
  obtain ⟨i1, gi, gz0, gz1, gz2⟩ := info_parts infoPtr
  obtain ⟨an, ln, cn, rfl⟩ := own_slice hown
  have hcb := hbox.cell
  have hwW := hbel.size
  have hpl : pre.length < n := hlt
  have hno : (Value.slice an ln cn).ownBlock ≠ some w.heap.size := fun h1 => hbox.not_row (by decide) hown h1.symm
  have hwB : w.heap.size < W.heap.size := hbox.lt
  have HBX := tZ hbox
  have HOW := tZ hown
  have HBL := tZ hbel
  clear hbox hown hbel hlt
  gi_wp2_with (first | (gi_at_builtin; refine wpListIn_append_own _ rfl _ _ 58 rfl w.heap.size 116 i1 (.pointer none) 1 8 Tryz.underlying58 gi gz0 gz1 gz2 rfl (by decide) _ _ _ rfl (HOW.out.alloc _) ⟨W.heap.size, 0, none⟩ 1 1 [.pointer (some ⟨ps x.1, 0, none⟩)] rfl rfl (fun q u hq => cells_new W [.pointer (some ⟨ps x.1, 0, none⟩)] 116 q u hq) (fun u hu => by simp at hu; subst hu; rfl) (by omega) (by omega) (by simp; omega) ?_; intro v' w3 hown' hg3 hnil3; have hbx3 : Boxed w3 w.heap.size 58 (.slice an ln cn) := (hg3.block _ (by simp; omega) (fun h1 => hno h1.symm)).trans ((Below.heap_alloc W _ _ (by omega)).trans HBX.out); have hcb3 := hbx3.cell; have hfb3 := hbx3.frozen; obtain ⟨an', ln', cn', rfl⟩ := own_slice hown'; have H1 := tZ hown'; have H2 := tZ hg3; have H3 := tZ hbx3; clear hown' hg3 hnil3 hbx3; go_frame) | gi_in)
  have hgr := H2.out
  have hg3 := hgr.size
  simp at hg3
  have hset : ∀ q, q ≠ w.heap.size → (w3.setCell ⟨w.heap.size, 0, none⟩ (.slice an' ln' cn')).heap[q]? = w3.heap[q]? := fun q hq => Below.heap_setCell _ _ _ _ hq
  have hold : ∀ q, q < W.heap.size → q ≠ w.heap.size → (Value.slice an ln cn).ownBlock ≠ some q → (w3.setCell ⟨w.heap.size, 0, none⟩ (.slice an' ln' cn')).heap[q]? = W.heap[q]? := fun q hq h1 h3 => by
   rw [hset q h1, hgr.block q (by simp; omega) (fun h => h3 h.symm), Below.heap_alloc _ _ _ (by omega)]
  have hlow : ∀ q, q < w.heap.size → (Value.slice an ln cn).ownBlock ≠ some q := fun q hq h1 => by
   have := (HOW.out.lt q h1).1; omega
  have hno' : (Value.slice an' ln' cn').ownBlock ≠ some w.heap.size := fun h1 => H3.out.not_row (by decide) H1.out h1.symm
  have hbox' := H3.out.set (.slice an' ln' cn')
  have hlen : (pre ++ [x]).length = pre.length + 1 := by simp
  refine ⟨⟨by simp; omega, fun q o hB hq ho => ?_⟩, ⟨by simp; omega, fun q hq => hold q (by omega) (by omega) (hlow q hq)⟩, .slice an' ln' cn', hbox', ?_, ⟨?_, ?_, ?_, by simp; omega, fun q hq => (hold q (by omega) (by omega) (hlow q hq)).trans (HBL.out.block q hq)⟩⟩
  ·refine (hold q (Array.getElem?_eq_some_iff.1 hq).1 (by omega) fun h1 => ?_).trans hq
   rcases HOW.out.2 with ⟨h3, _⟩ | ⟨gg, cap, cur, h3, _, h4, _⟩
   ·rw [h3] at h1; simp [Value.ownBlock] at h1
   ·rw [h3] at h1
    simp [Value.ownBlock] at h1
    subst h1
    rw [h4] at hq
    cases hq
    simp [Obj.isCells] at ho
  ·rw [hlen, List.map_append]
   exact own_ke H1.out (P := fun q => q = w.heap.size) ((Ks.refl _ _).set w.heap.size 0 _ rfl) fun q hq e' => hno' (by rw [hq, e'])
  ·exact hgr.os.trans HBL.out.os
  ·exact hgr.tape.trans HBL.out.tape
  ·exact hgr.output.trans HBL.out.output
 case done =>
  rintro D' ys W hD rfl ⟨v, hbox, hown, hbel⟩ hK
  have hcell := hbox.cell
  obtain ⟨an, ln, cn, rfl⟩ := own_slice hown
  have HB := tZ hbox
  have HO := tZ hown
  have HL := tZ hbel
  have HK := tZ hK
  clear hbox hown hbel hK
  gi_wp2
  refine ⟨by simp, .inl ⟨_, _, rfl, run_takeDeferred HK.out, ?_⟩⟩
  have hg := grownBy_putObj' W D' (.deferred none)
  have hDl : D' < W.heap.size := (Array.getElem?_eq_some_iff.1 HK.out).1
  have hDw : w.heap.size < D' := by simp at hD; omega
  refine ⟨.slice an ln cn, by simp [results, Tryz.f105, go_sem], an, ln, cn, rfl, ?_, ⟨hg.os.trans HL.out.os, hg.tape.trans HL.out.tape, hg.output.trans HL.out.output, Nat.le_trans HL.out.size hg.size, fun q hq => (hg.block q (Nat.lt_of_lt_of_le hq HL.out.size) fun e' => by cases e'; omega).trans (HL.out.block q hq)⟩⟩
  have ho := HO.out
  rw [upL_length, upL_map n (fun i => .pointer (some ⟨ps i, 0, none⟩))] at ho
  refine own_ke ho (P := fun q => some q = some D') ⟨hg.os, hg.tape, hg.output, hg.size, fun q hq hn => hg.block q hq hn⟩ fun q hq e' => ?_
  cases e'
  rcases ho.2 with ⟨h3, _⟩ | ⟨g, cap, cur, h3, _, h4, _⟩
  ·rw [h3] at hq; simp [Value.ownBlock] at hq
  ·rw [h3] at hq
   simp [Value.ownBlock] at hq
   subst hq
   have := HK.out
   rw [h4] at this
   cases this
 case stop =>
  rintro D' c pre W _ _ h _
  exact h.elim
theorem collect (Bs n c : Nat) (a : Option Addr) (ps : Nat → Nat) (w : World) (hn : n ≤ 1000) (hBl : Bs < w.heap.size) (hBs : w.cell? ⟨Bs, 0, none⟩ = some (.slice a n c)) (ha : n = 0 ∨ ∃ h o, a = some ⟨h, o, none⟩ ∧ h < w.heap.size) (hc : ∀ j, j < n → ∀ h o, a = some ⟨h, o, none⟩ → w.cell? ⟨h, o + j, none⟩ = some (.pointer (some ⟨ps j, 0, none⟩))) :
  Calls Tryz.prog 82 #[.func (.func 84) #[] #[.pointer (some ⟨Bs, 0, none⟩)]] w fun r w' => ∃ an ln cn, r = .returned (.slice an ln cn) ∧ w'.ownsRow w.heap.size 116 1 (.slice an ln cn) n ((List.range n).map fun j => .pointer (some ⟨ps j, 0, none⟩)) ∧ Below w.heap.size w w' := by
 have H := tZ (appendSeq Bs n c a ps w hn hBl hBs ha hc)
 clear hn hBl hBs ha hc
 go_enter Tryz.func82, Tryz.ntmps82
 go_wp2_with (go_at_call 105; refine H.out.mono ?_; rintro e w' ⟨an, ln, cn, rfl, h1, h2⟩; have C1 := tZ h1; have C2 := tZ h2; clear h1 h2)
 go_ret
 exact ⟨an, ln, cn, rfl, C1.out, C2.out⟩
end Go.Proofs.YtihgojcfpnhelabGreatDoor
namespace Go.Proofs.YtihgojcfpnhelabGreatDoor
open Go.RowKit Go.Shelf Go.Sort
theorem cmpNames (b1 b2 : Nat) (n1 n2 : By) (W : World) (c1 : W.cell? ⟨b1, 0, none⟩ = some (.string ⟨n1.toArray⟩)) (c2 : W.cell? ⟨b2, 0, none⟩ = some (.string ⟨n2.toArray⟩)) :
  Calls Tryz.prog 62 #[.pointer (some ⟨b1, 0, none⟩), .pointer (some ⟨b2, 0, none⟩)] W fun e w' => e = .returned (.int .i64 (Lib.compareBytes n1 n2)) ∧ ∃ q, w' = W.drewN q := by
 have H := fun W => Any.strings_Compare Tryz.lays106 ⟨n1.toArray⟩ ⟨n2.toArray⟩ W
 change ∀ W, Calls Tryz.prog 63 _ _ _ at H
 simp only [] at H
 generalize Lib.compareBytes n1 n2 = z at H ⊢
 go_enter Tryz.func62, Tryz.ntmps62
 go_wp2_with fail
 go_region_with (first | (go_at_call 63; refine (H _).mono ?_; rintro e w' ⟨rfl, rfl⟩))
 all_goals go_wp2
 all_goals refine bodyPost_ret (v := .int .i64 z) (by simp [results, Tryz.results62, go_sem]) (by simp [go_sem]) ?_
 all_goals exact ⟨rfl, 1, rfl⟩
theorem sortWorld_heap {α : Type} [Inhabited α] (enc : α → Value) (w : World) (blk off m : Nat) (dk : Array α) (os : Array Obj) (q : Nat) (h1 : q ≠ blk) (h2 : q < w.heap.size) : (sortWorld enc w blk off m dk os).heap[q]? = w.heap[q]? := by
 unfold sortWorld Sort.grow Sort.putRow Sort.mapBlock Sort.ahead
 show ((w.heap.modify blk _) ++ os)[q]? = _
 rw [Array.getElem?_append_left (by simpa using h2), Array.getElem?_modify]
 simp [Ne.symm h1]
theorem putRow_heap {α : Type} [Inhabited α] (enc : α → Value) (w : World) (blk off : Nat) (d : Array α) (q : Nat) (h1 : q ≠ blk) : (putRow enc w blk off d).heap[q]? = w.heap[q]? := by
 unfold Sort.putRow Sort.mapBlock
 show (w.heap.modify blk _)[q]? = _
 rw [Array.getElem?_modify]
 simp [Ne.symm h1]
theorem wrap_few : ∀ n : Nat, n < 13 → IntKind.u64.wrap (n : Int) = (n : Int) := by decide
abbrev Mem (fs : List (Nat × Fd)) : Type := { f : Nat × Fd // f ∈ fs }
def encM {fs : List (Nat × Fd)} (x : Mem fs) : Value := .pointer (some ⟨x.1.1, 0, none⟩)
def cfM {fs : List (Nat × Fd)} (x y : Mem fs) : Int := Lib.compareBytes x.1.2.nm y.1.2.nm
theorem pdqM (fs : List (Nat × Fd)) [Inhabited (Mem fs)] (blk off cap : Nat) (lim : Int) (d : Array (Mem fs)) (w : World) (hcmp : CmpReads Tryz.prog 62 #[] (encM (fs := fs)) cfM blk off d.size w) (hH : Holds (encM (fs := fs)) w blk off d) (h12 : d.size ≤ 12) :
  Calls Tryz.prog 106 #[.slice (some ⟨blk, off, none⟩) d.size cap, .int .i64 0, .int .i64 (d.size : Int), .int .i64 lim, .func (.func 62) #[] #[]] w fun e w' => e = .returned (.tuple #[]) ∧ ∃ n, w' = (putRow (encM (fs := fs)) w blk off (Sort.insertionSort (ltOf (cfM (fs := fs))) d 0 d.size)).drewN n := by
 have hi := Any.insertionSortCmpFunc_one Tryz.lays20 (encM (fs := fs)) (fun _ => rfl) cfM 62 #[] blk off cap 0 d.size d w (enters_of Tryz.func62 (by kernel_rfl) rfl) hcmp hH (Nat.zero_le _) (Nat.le_refl _) (by omega)
 replace hi : Calls Tryz.prog 132 #[.slice (some ⟨blk, off, none⟩) d.size cap, .int .i64 0, .int .i64 (d.size : Int), .func (.func 62) #[] #[]] w fun e w' => e = .returned (.tuple #[]) ∧ ∃ n, w' = (putRow (encM (fs := fs)) w blk off (Sort.insertionSort (ltOf (cfM (fs := fs))) d 0 d.size)).drewN n := hi
 clear hcmp hH
 generalize Sort.insertionSort (ltOf (cfM (fs := fs))) d 0 d.size = d' at hi ⊢
 generalize d.size = n at hi h12 ⊢
 have hl : (n : Int) ≤ 12 := by omega
 go_enter Tryz.func106, Tryz.ntmps106
 go_wp2
 refine wp_loop_rounds 1 ?_
 rw [rounds_succ]
 go_wp2_with (go_at_call 132; refine hi.mono ?_; rintro e w' ⟨rfl, n, rfl⟩)
 (try simp only [Exit.inBlock, Exit.then]); refine bodyPost_ret (results_none rfl _ _ _) rfl ?_
 exact ⟨rfl, n, rfl⟩
theorem sortM (fs : List (Nat × Fd)) [Inhabited (Mem fs)] (blk off cap : Nat) (d : Array (Mem fs)) (w : World) (hcmp : CmpReads Tryz.prog 62 #[] (encM (fs := fs)) cfM blk off d.size w) (hH : Holds (encM (fs := fs)) w blk off d) (h12 : d.size ≤ 12) :
  Calls Tryz.prog 83 #[.slice (some ⟨blk, off, none⟩) d.size cap, .func (.func 62) #[] #[]] w fun e w' => e = .returned (.tuple #[]) ∧ ∃ n, w' = (putRow (encM (fs := fs)) w blk off (Sort.insertionSort (ltOf (cfM (fs := fs))) d 0 d.size)).drewN n := by
 have hp := fun lim => pdqM fs blk off cap lim d w hcmp hH h12
 have hl := Any.bits_Len Tryz.lays125 (d.size : Int) w (by omega) (by omega)
 change Calls Tryz.prog 107 _ _ _ at hl
 clear hcmp hH
 generalize Sort.insertionSort (ltOf (cfM (fs := fs))) d 0 d.size = d' at hp ⊢
 generalize Lib.bitLen (d.size : Int).toNat = z at hl
 have hw : IntKind.u64.wrap (d.size : Int) = (d.size : Int) := wrap_few d.size (by omega)
 generalize d.size = n at hp hl h12 hw ⊢
 go_enter Tryz.func83, Tryz.ntmps83
 go_wp2_with (first | (go_at_call 107; refine hl.mono ?_; rintro e w' ⟨rfl, rfl⟩) | (go_at_call 106; refine (hp _).mono ?_; rintro e w' ⟨rfl, n, rfl⟩))
 go_end0
 exact ⟨rfl, n, rfl⟩
end Go.Proofs.YtihgojcfpnhelabGreatDoor
namespace Go.Proofs.YtihgojcfpnhelabGreatDoor
open Go.RowKit Go.Shelf Go.Sort
theorem ins0 (a : Option Addr) (c : Nat) (w : World) :
  Calls Tryz.prog 132 #[.slice a 0 c, .int .i64 0, .int .i64 0, .func (.func 62) #[] #[]] w fun e w' => e = .returned (.tuple #[]) ∧ w' = w := by
 go_enter Tryz.func132, Tryz.ntmps132
 go_wp2
 refine wp_loop_rounds 1 ?_
 rw [rounds_succ]
 go_wp2
 go_end0
 exact ⟨rfl, rfl⟩
theorem pdq0 (a : Option Addr) (c : Nat) (lim : Int) (w : World) :
  Calls Tryz.prog 106 #[.slice a 0 c, .int .i64 0, .int .i64 0, .int .i64 lim, .func (.func 62) #[] #[]] w fun e w' => e = .returned (.tuple #[]) ∧ w' = w := by
 have hi := ins0 a c w
 go_enter Tryz.func106, Tryz.ntmps106
 go_wp2
 refine wp_loop_rounds 1 ?_
 rw [rounds_succ]
 go_wp2_with (go_at_call 132; refine hi.mono ?_; rintro e w' ⟨rfl, rfl⟩)
 (try simp only [Exit.inBlock, Exit.then]); refine bodyPost_ret (results_none rfl _ _ _) rfl ?_
 exact ⟨rfl, rfl⟩
theorem sort0 (a : Option Addr) (c : Nat) (w : World) :
  Calls Tryz.prog 83 #[.slice a 0 c, .func (.func 62) #[] #[]] w fun e w' => e = .returned (.tuple #[]) ∧ w' = w := by
 have hp := fun lim => pdq0 a c lim w
 have hl := Any.bits_Len Tryz.lays125 0 w (by omega) (by omega)
 change Calls Tryz.prog 107 _ _ _ at hl
 generalize Lib.bitLen (0 : Int).toNat = z at hl
 go_enter Tryz.func83, Tryz.ntmps83
 go_wp2_with (first | (go_at_call 107; refine hl.mono ?_; rintro e w' ⟨rfl, rfl⟩) | (go_at_call 106; refine (hp _).mono ?_; rintro e w' ⟨rfl, rfl⟩))
 go_end0
 exact ⟨rfl, rfl⟩
theorem cmp_lt : ∀ x y : By, Lib.compareBytes x y < 0 ↔ x < y
 | [], [] => by simp [Lib.compareBytes]
 | [], _ :: _ => by simp [Lib.compareBytes]
 | _ :: _, [] => by simp [Lib.compareBytes]
 | a :: r, b :: t => by
  have ih := cmp_lt r t
  unfold Lib.compareBytes
  rw [List.cons_lt_cons_iff]
  by_cases h1 : a < b
  ·simp [h1]
  ·rw [if_neg h1]
   by_cases h2 : b < a
   ·rw [if_pos h2]
    have : a ≠ b := fun e => h1 (e ▸ h2)
    simp [h1, this]
   ·rw [if_neg h2, ih]
    have : a = b := UInt8.le_antisymm (UInt8.not_lt.1 h2) (UInt8.not_lt.1 h1)
    simp [this]
theorem ltOf_cfM {fs : List (Nat × Fd)} (x y : Mem fs) : ltOf cfM x y = ltStr x.1.2.nm y.1.2.nm := by
 unfold ltOf cfM ltStr
 exact decide_eq_decide.2 (cmp_lt _ _)
theorem swoM (fs : List (Nat × Fd)) : SWO (ltOf (cfM (fs := fs))) := by
 refine ⟨fun x => ?_, fun x y z h1 h2 => ?_, fun x y z h1 h2 => ?_⟩
 ·rw [ltOf_cfM]; exact swo_ltStr.irrefl _
 ·rw [ltOf_cfM] at *; exact swo_ltStr.trans _ _ _ h1 h2
 ·rw [ltOf_cfM] at *; exact swo_ltStr.ntrans _ _ _ h1 h2
def srtD (fs : List (Nat × Fd)) [Inhabited (Mem fs)] : Array (Mem fs) := Sort.insertionSort (ltOf (cfM (fs := fs))) fs.attach.toArray 0 fs.length
theorem srtD_size (fs : List (Nat × Fd)) [Inhabited (Mem fs)] : (srtD fs).size = fs.length := by
 have := (insertionSort_holds (lt := ltOf (cfM (fs := fs))) (swoM fs) fs.attach.toArray 0 fs.length (Nat.zero_le _) (by simp)).1.1
 unfold srtD
 simpa using this
open Classical in
noncomputable def srtL (fs : List (Nat × Fd)) : List (Nat × Fd) := if h : fs = [] then [] else
 haveI : Inhabited (Mem fs) := ⟨⟨fs.head h, List.head_mem h⟩⟩
 (srtD fs).toList.map Subtype.val
theorem sortFs {S : Nat → Prop} (fs : List (Nat × Fd)) (w : World) (B : Nat) (v : Value) (hfd : ∀ f, f ∈ fs → FdAt w S f.1 f.2 ∧ f.1 < B) (ho : w.ownsRow B 116 1 v fs.length (fs.map fun f => .pointer (some ⟨f.1, 0, none⟩))) (hB : B ≤ w.heap.size) (h12 : fs.length ≤ 12) :
  Calls Tryz.prog 83 #[v, .func (.func 62) #[] #[]] w fun e w' => e = .returned (.tuple #[]) ∧ Below B w w' ∧ ∃ a c, v = .slice a fs.length c ∧ (srtL fs).length = fs.length ∧ ∀ j (hj : j < (srtL fs).length), ∃ g, a = some ⟨g, 0, none⟩ ∧ w'.cell? ⟨g, j, none⟩ = some (.pointer (some ⟨(srtL fs)[j].1, 0, none⟩)) := by
 obtain ⟨a, l, c, rfl⟩ := own_slice ho
 have hl : l = fs.length := by
  rcases ho.2 with h1 | ⟨g, cap, cur, h1, _⟩
  ·have := h1.1
   cases this
   exact h1.2.symm
  ·cases h1
   rfl
 subst hl
 by_cases h0 : fs = []
 ·subst h0
  refine (sort0 a c w).mono ?_
  rintro e w' ⟨rfl, rfl⟩
  exact ⟨rfl, Below.refl _ _, a, c, rfl, by simp [srtL], fun j hj => by simp [srtL] at hj⟩
 ·letI : Inhabited (Mem fs) := ⟨⟨fs.head h0, List.head_mem h0⟩⟩
  have hpos : 0 < fs.length := List.length_pos_iff.2 h0
  obtain ⟨g, cap, hv, hg, hgl⟩ := ho.form hpos
  simp at hv
  obtain ⟨rfl, rfl⟩ := hv
  have hH : Holds (encM (fs := fs)) w g 0 fs.attach.toArray := by
   intro j hj
   simp at hj
   have hc := ho.cellAt j (by simpa using hj)
   refine ⟨?_, ?_⟩
   ·simp only [Nat.zero_add]
    rw [hc]
    rw [getElem!_pos fs.attach.toArray j (by simpa using hj)]
    simp [encM, hj]
   ·simp only [Nat.zero_add]
    exact ho.frozenAt j
  have hcmp : CmpReads Tryz.prog 62 #[] (encM (fs := fs)) cfM g 0 fs.attach.toArray.size w := by
   intro m os dk hdk x y
   have hx := hfd x.1 x.2
   have hy := hfd y.1 y.2
   have cell : ∀ f : Nat × Fd, FdAt w S f.1 f.2 ∧ f.1 < B → (sortWorld (encM (fs := fs)) w g 0 m dk os).cell? ⟨f.1, 0, none⟩ = some (.string ⟨f.2.nm.toArray⟩) := fun f hf => by
    obtain ⟨⟨_, _, _, _, a', l', c', hr, _⟩, hlt⟩ := hf
    rw [World.cell?_of_block (a := ⟨f.1, 0, none⟩) (sortWorld_heap (encM (fs := fs)) w g 0 m dk os f.1 (by omega) (by omega))]
    exact (cell_of_row w f.1 0 _ _ _ hr).trans rfl
   exact cmpNames x.1.1 y.1.1 x.1.2.nm y.1.2.nm _ (cell x.1 hx) (cell y.1 hy)
  have hs := sortM fs g 0 c fs.attach.toArray w hcmp hH (by simpa using h12)
  have hsz : fs.attach.toArray.size = fs.length := by simp
  rw [hsz] at hs
  refine hs.mono ?_
  rintro e w' ⟨rfl, n, rfl⟩
  have hL : srtL fs = (srtD fs).toList.map Subtype.val := by
   unfold srtL
   rw [dif_neg h0]
  refine ⟨rfl, below_drewN ?_ n, some ⟨g, 0, none⟩, c, rfl, ?_, fun j hj => ⟨g, rfl, ?_⟩⟩
  ·refine ⟨rfl, rfl, rfl, ?_, fun q hq => putRow_heap _ _ _ _ _ q (by omega)⟩
   show w.heap.size ≤ (w.heap.modify g _).size
   simp
  ·rw [hL]; simp [srtD_size]
  ·have hjl : j < (srtD fs).size := by rw [hL] at hj; simpa using hj
   have := cell?_putRow (encM (fs := fs)) w g 0 fs.attach.toArray (srtD fs) hH (by rw [srtD_size, hsz]) j hjl
   rw [Nat.zero_add] at this
   refine Eq.trans (b := some (encM (srtD fs)[j]!)) this ?_
   rw [getElem!_pos (srtD fs) j hjl]
   simp [encM, hL]
theorem extract_all {α : Type} (d : Array α) (n : Nat) (h : d.size = n) : d.extract 0 n = d := by
 subst h
 exact Array.extract_size
theorem srtL_facts (fs : List (Nat × Fd)) : (srtL fs).Perm fs ∧ (srtL fs).Pairwise fun f g => ¬ g.2.nm < f.2.nm := by
 by_cases h0 : fs = []
 ·subst h0
  simp [srtL]
 ·letI : Inhabited (Mem fs) := ⟨⟨fs.head h0, List.head_mem h0⟩⟩
  have hL : srtL fs = (srtD fs).toList.map Subtype.val := by
   unfold srtL
   rw [dif_neg h0]
  have hsz : fs.attach.toArray.size = fs.length := by simp
  obtain ⟨⟨h1, _, h2⟩, h3⟩ := insertionSort_holds (lt := ltOf (cfM (fs := fs))) (swoM fs) fs.attach.toArray 0 fs.length (Nat.zero_le _) (by simp)
  have e1 : (srtD fs).toList.Perm fs.attach := by
   have e2 := extract_all (Sort.insertionSort (ltOf (cfM (fs := fs))) fs.attach.toArray 0 fs.length) fs.length (by rw [h1, hsz])
   have e3 := extract_all fs.attach.toArray fs.length hsz
   rw [e2, e3] at h2
   exact h2
  refine ⟨?_, ?_⟩
  ·rw [hL]
   have := e1.map Subtype.val
   rw [List.attach_map_subtype_val] at this
   exact this
  ·rw [hL, List.pairwise_map, List.pairwise_iff_getElem]
   intro i j hi hj hij
   simp at hi hj
   have := h3 i j (Nat.zero_le _) hij (by rw [srtD_size] at hj; exact hj)
   change ltOf cfM (srtD fs)[j]! (srtD fs)[i]! = false at this
   rw [ltOf_cfM, getElem!_pos (srtD fs) j hj, getElem!_pos (srtD fs) i hi] at this
   simpa [ltStr] using this
end Go.Proofs.YtihgojcfpnhelabGreatDoor
namespace Go.Proofs.YtihgojcfpnhelabGreatDoor
open Go.RowKit Go.Shelf Go.Sort
def PtrRow (w : World) (a : Option Addr) (gs : List (Nat × Fd)) : Prop := ∀ j (hj : j < gs.length), ∃ g, a = some ⟨g, 0, none⟩ ∧ w.cell? ⟨g, j, none⟩ = some (.pointer (some ⟨gs[j].1, 0, none⟩))
theorem sortedFs {S : Nat → Prop} (Bs c : Nat) (a : Option Addr) (fs : List (Nat × Fd)) (w : World) (hs : Sh w S a fs) (hBl : Bs < w.heap.size) (hBs : w.cell? ⟨Bs, 0, none⟩ = some (.slice a fs.length c)) (h12 : fs.length ≤ 12) :
  Calls Tryz.prog 60 #[.func (.func 84) #[] #[.pointer (some ⟨Bs, 0, none⟩)], .func (.func 62) #[] #[]] w fun r w' => ∃ a' c', r = .returned (.slice a' fs.length c') ∧ Hid (PtrRow w' a' (srtL fs)) ∧ Hid (Below w.heap.size w w') := by
 have hcol := collect Bs fs.length c a (fun j => (fs.getD j (0, ⟨[], .atom 0 [] 0, (0, 0)⟩)).1) w (by omega) hBl hBs (by
  by_cases h0 : fs.length = 0
  ·exact Or.inl h0
  ·obtain ⟨g, o, h1, h2, _⟩ := hs.ptr 0 (by omega)
   exact Or.inr ⟨g, o, h1, hs.still g h2⟩) (fun j hj h o e' => by
  obtain ⟨g, o', h1, h2, h3⟩ := hs.ptr j hj
  rw [e'] at h1
  cases h1
  rw [h3]
  simp [List.getD_eq_getElem?_getD, hj])
 have hmap : (List.range fs.length).map (fun j => Value.pointer (some ⟨(fs.getD j (0, ⟨[], .atom 0 [] 0, (0, 0)⟩)).1, 0, none⟩)) = fs.map fun f => Value.pointer (some ⟨f.1, 0, none⟩) := by
  apply List.ext_getElem
  ·simp
  ·intro i h1 h2
   simp at h1
   simp [List.getD_eq_getElem?_getD, h1]
 rw [hmap] at hcol
 have HCOL := tZ (hcol.mono (R' := fun r w1 => ∃ an ln cn, r = .returned (.slice an ln cn) ∧ Hid (Below w.heap.size w w1) ∧ Hid (Calls Tryz.prog 83 #[.slice an ln cn, .func (.func 62) #[] #[]] w1 fun e w' => e = .returned (.tuple #[]) ∧ ln = fs.length ∧ Hid (PtrRow w' an (srtL fs)) ∧ Hid (Below w.heap.size w w'))) (by
  rintro r w1 ⟨an, ln, cn, rfl, h1, h2⟩
  refine ⟨an, ln, cn, rfl, h2, ?_⟩
  refine (sortFs (S := S) fs w1 w.heap.size (.slice an ln cn) (fun f hf => ⟨(hs.next h2).fld f hf, (hs.fld f hf).lt⟩) h1 h2.size h12).mono ?_
  rintro e w' ⟨rfl, k1, a', c', k2, k3, k4⟩
  cases k2
  exact ⟨rfl, rfl, k4, h2.trans k1⟩))
 clear hcol hmap hs hBl hBs h12
 go_enter Tryz.func60, Tryz.ntmps60
 go_wp2_with (first | (go_at_call 82; refine HCOL.out.mono ?_; rintro e w1 ⟨an, ln, cn, rfl, B1, H1⟩; refine Hid.out ?_))
 refine tZ ?_
 go_wp2_with (first | (go_at_call 83; refine H1.out.mono ?_; rintro e w2 ⟨rfl, hln, B2, B3⟩; subst hln))
 go_ret
 exact ⟨an, cn, rfl, B2, B3⟩
end Go.Proofs.YtihgojcfpnhelabGreatDoor
namespace Go.Proofs.YtihgojcfpnhelabGreatDoor
open Go.RowKit Go.Shelf Go.Sort
def rowB (f : Fd) : By := f.nm ++ [32, 61, 32] ++ txt f.p ++ [10]
noncomputable def lstB (fs : List (Nat × Fd)) : By := (srtL fs).flatMap fun f => rowB f.2
theorem bu_new (w : World) : Bu w.heap.size [] (w.alloc (.cells #[.pointer none, .slice none 0 0] 129)) :=
 ⟨Lib.IsBuilderF.of (Lib.fresh_isBuilder 129 5 w), by simp⟩
theorem rowB_len (f : Fd) : (rowB f).length = f.nm.length + (txt f.p).length + 4 := by
 simp [rowB]
 omega
theorem rowB_bytes (f : Fd) : (⟨(rowB f).toArray⟩ : ByteArray) = { data := List.toArray f.nm } ++ { data := #[32, 61, 32] } ++ { data := List.toArray (txt f.p) } ++ { data := #[10] } := by
 apply ByteArray.ext
 simp [rowB, ByteArray.data_append]
theorem rows_len (gs : List (Nat × Fd)) (h : ∀ f, f ∈ gs → f.2.nm.length ≤ 100 ∧ (txt f.2.p).length ≤ 100) : (gs.flatMap fun f => rowB f.2).length ≤ gs.length * 204 := by
 induction gs with
 | nil => simp
 | cons g r ih =>
  have h1 := h g (by simp)
  have h2 := ih fun f hf => h f (by simp [hf])
  have h3 := rowB_len g.2
  simp only [List.flatMap_cons, List.length_append, List.length_cons]
  omega
end Go.Proofs.YtihgojcfpnhelabGreatDoor
