import Derived.RangeFuncNested
import Derived.RangeFuncBound
import Derived.Shelf.RegionOpen
import Derived.OwnWalkIn
import Derived.LoopNIn
import Derived.LoopIn
import Derived.Test.YtihgojcfpnhelabGreatDoorS2Be
set_option maxRecDepth 100000
set_option maxHeartbeats 4000000
set_option linter.unusedVariables false
set_option linter.unusedSimpArgs false
namespace Go.Proofs.YtihgojcfpnhelabGreatDoor
open Go.RowKit
section
open Go.RowKit Go.Shelf
attribute [local go_sem] Oper.semAt_some
def dnL (n : Nat) : (k : Nat) → k ≤ n → List { i : Nat // i < n }
 | 0, _ => []
 | k + 1, h => dnL n k (by omega) ++ [⟨n - (k + 1), by omega⟩]
theorem dnL_length (n : Nat) : ∀ k h, (dnL n k h).length = k
 | 0, _ => rfl
 | k + 1, h => by simp [dnL, dnL_length n k]
theorem dnL_eq (n k k' : Nat) (h : k ≤ n) (h' : k' ≤ n) (e : k = k') : dnL n k h = dnL n k' h' := by subst e; rfl
theorem dnL_zero (n k : Nat) (h : k ≤ n) (e : k = 0) : dnL n k h = [] := by subst e; rfl
theorem dnL_step (n j : Nat) (h : j < n) : dnL n (n - j) (by omega) = dnL n (n - (j + 1)) (by omega) ++ [⟨j, h⟩] := by
 rw [dnL_eq n (n - j) (n - (j + 1) + 1) (by omega) (by omega) (by omega)]
 simp only [dnL]
 congr 2
 exact Subtype.ext (by simp only; omega)
def KpB (T : Nat → Prop) (W W' : World) : Prop := W.heap.size ≤ W'.heap.size ∧ ∀ q, T q → W'.heap[q]? = W.heap[q]?
theorem backward1 (m : Nat) (hm : 1 ≤ m) (l Bs b off n c : Nat) (vs : Nat → Value) (T : Nat → Prop) (hn : n ≤ maxLen) (hT1 : T Bs) (hT2 : T b) (J Jx : List { i : Nat // i < n } → World → Prop)
  (hY : ∀ pre (x : { i : Nat // i < n }) W, J pre W → pre.length < n → YieldAt Fence.wide (m - 1) Tryz.prog l #[.int .i64 (x.1 : Int), vs x.1] W fun e W' =>
   (e = .returned (.bool true) ∧ J (pre ++ [x]) W' ∧ KpB T W W') ∨ (e = .returned (.bool false) ∧ Jx (pre ++ [x]) W'))
  (W : World) (hBs : W.cell? ⟨Bs, 0, none⟩ = some (.slice (some ⟨b, off, none⟩) n c)) (hc : ∀ j, j < n → W.cell? ⟨b, off + j, none⟩ = some (vs j)) (h0 : J [] W) :
  CallsIn Fence.wide m Tryz.prog 67 #[.func (.yield l) #[] #[], .pointer (some ⟨Bs, 0, none⟩)] W fun e W' => (∃ v, e = .returned v) ∧
   ((∃ ys, ys = dnL n n (Nat.le_refl _) ∧ J ys W') ∨ (∃ pre, True ∧ Jx pre W')) := by
 refine callsIn_of_wp Tryz.func67 rfl trivial ?_ rfl
 simp only [Tryz.ntmps67, List.size_toArray, List.length_cons, List.length_nil, Nat.reduceAdd, Nat.reduceSub, Array.replicate_succ, Array.replicate_zero, List.push_toArray, List.append_toArray, List.nil_append, List.cons_append]
 gi_wp2
 gi_loopw [3] (fun i wr => ∃ (j : Nat), j ≤ n ∧ i = .int .i64 ((j : Int) - 1) ∧ J (dnL n (n - j) (by omega)) wr ∧ KpB T W wr) (fun i _ => (intOf i + 1).toNat)
 case atStart =>
  refine ⟨n, Nat.le_refl _, by rw [show wrap64 ((n : Int) - 1) = (n : Int) - 1 by unfold maxLen at hn; unfold wrap64; omega], ?_, Nat.le_refl _, fun _ _ => rfl⟩
  have : dnL n (n - n) (by omega) = [] := by simp [dnL_zero]
  rw [this]
  exact h0
 case round =>
  obtain ⟨j, hj, rfl, hJs, hsz, hkp⟩ := hrel
  cases j with
  | succ j =>
   obtain ⟨fn, tmps, assign, body, hy, hR⟩ := hY _ ⟨j, by omega⟩ wr hJs (by rw [dnL_length]; omega)
   dsimp only at hy
   have hcx : wr.cell? ⟨b, off + j, none⟩ = some (vs j) := (World.cell?_of_block (a := ⟨b, off + j, none⟩) (hkp b hT2)).trans (hc _ (by omega))
   have hbx : wr.cell? ⟨Bs, 0, none⟩ = some (.slice (some ⟨b, off, none⟩) n c) := (World.cell?_of_block (a := ⟨Bs, 0, none⟩) (hkp Bs hT1)).trans hBs
   have hi : (((j + 1 : Nat) : Int) - 1) = (j : Int) := by omega
   have hil : (j : Int) < (n : Int) := by omega
   have hin : j < n := by omega
   have hwj : wrap64 ((j : Int) - 1) = (j : Int) - 1 := by unfold maxLen at hn; unfold wrap64; omega
   rw [hi]
   gi_wp2
   refine hR.mono ?_
   rintro e W3 (⟨rfl, hJ3, hk3⟩ | ⟨rfl, hJx3⟩)
   ·gi_wp2
    go_roundw
    case rel =>
     refine ⟨j, by omega, by simp [hwj], ?_, Nat.le_trans hsz hk3.1, fun q hq => (hk3.2 q hq).trans (hkp q hq)⟩
     rw [dnL_step n j hin]
     exact hJ3
    case measure => simp [intOf, hwj]
   ·gi_wp2
    refine bodyPost_ret (results_none rfl _ _ _) rfl ?_
    exact ⟨⟨_, rfl⟩, .inr ⟨_, trivial, hJx3⟩⟩
  | zero =>
   gi_wp2
   go_end0
   exact ⟨⟨_, rfl⟩, .inl ⟨_, rfl, hJs⟩⟩
theorem backward0 (m : Nat) (l Bs c : Nat) (a : Option Addr) (J : List { i : Nat // i < 0 } → World → Prop) (W : World) (hBs : W.cell? ⟨Bs, 0, none⟩ = some (.slice a 0 c)) (h0 : J [] W) :
  CallsIn Fence.wide m Tryz.prog 67 #[.func (.yield l) #[] #[], .pointer (some ⟨Bs, 0, none⟩)] W fun e W' => (∃ v, e = .returned v) ∧ J [] W' := by
 refine callsIn_of_wp Tryz.func67 rfl trivial ?_ rfl
 simp only [Tryz.ntmps67, List.size_toArray, List.length_cons, List.length_nil, Nat.reduceAdd, Nat.reduceSub, Array.replicate_succ, Array.replicate_zero, List.push_toArray, List.append_toArray, List.nil_append, List.cons_append]
 gi_wp2
 gi_loopw [3] (fun i wr => i = .int .i64 (-1) ∧ J [] wr) (fun _ _ => 0)
 case atStart => exact ⟨rfl, h0⟩
 case round =>
  obtain ⟨rfl, hJs⟩ := hrel
  gi_wp2
  go_end0
  exact ⟨⟨_, rfl⟩, hJs⟩
theorem backward (m : Nat) (a : Option Addr) (n c : Nat) (w : World) :
  CallsIn Fence.wide m Tryz.prog 45 #[.slice a n c] w fun e w' => e = .returned (.func (.func 67) #[] #[.pointer (some ⟨w.heap.size, 0, none⟩)]) ∧ w' = w.alloc (.cells #[.slice a n c] 61) := by
 refine callsIn_of_wp Tryz.func45 rfl trivial ?_ rfl
 simp only [Tryz.ntmps45, List.size_toArray, List.length_cons, List.length_nil, Nat.reduceAdd, Nat.reduceSub, Array.replicate_succ, Array.replicate_zero, List.push_toArray, List.append_toArray, List.nil_append, List.cons_append]
 gi_wp2
 go_ret
 exact ⟨rfl, rfl⟩
theorem backward_stops (m : Nat) (hm : 1 ≤ m) (Bs n c : Nat) (a : Option Addr) (vs : Nat → Value) (T : Nat → Prop) (hn : n ≤ maxLen) (hT1 : T Bs) (w : World) (hT : ∀ q, T q → q < w.heap.size) (hBs : w.cell? ⟨Bs, 0, none⟩ = some (.slice a n c)) (ha : n = 0 ∨ ∃ h o, a = some ⟨h, o, none⟩ ∧ T h) (hc : ∀ j, j < n → ∀ h o, a = some ⟨h, o, none⟩ → w.cell? ⟨h, o + j, none⟩ = some (vs j)) :
  SeqStopsK Fence.wide m Tryz.prog 67 #[.pointer (some ⟨Bs, 0, none⟩)] (fun x : { i : Nat // i < n } => #[Value.int .i64 (x.1 : Int), vs x.1]) (KpB T) (fun ys => ys = dnL n n (Nat.le_refl _)) (fun _ => True) n w := fun l J Jx W hW _ _ hY h0 => by
 have hBs' := (hW.cell (p := ⟨Bs, 0, none⟩) (hT _ hT1)).trans hBs
 rcases ha with rfl | ⟨h, o, rfl, hh⟩
 ·exact (backward0 m l Bs c a J W hBs' h0).mono fun e W' ⟨he, hj⟩ => ⟨he, .inl ⟨_, rfl, hj⟩⟩
 ·exact backward1 m hm l Bs h o n c vs T hn hT1 hh J Jx hY W hBs' (fun j hj => (hW.cell (p := ⟨h, o + j, none⟩) (hT _ hh)).trans (hc j hj h o rfl)) h0
end
section
open Go.RowKit Go.Shelf
attribute [local go_sem] Oper.semAt_some
variable {S S1 O : Nat → Prop} {e : Nat} {D : Nat → Prop} {σ : Sta} {v1 v2 v3 v4 v5 : Value} {te : TypeId} {w W W1 W2 : World} {v v' : Value} {k : Nat} {ws : List Wr} {N : Nat → Nat} {cs : Nat → Array Value} {us : Nat → List Wr}
theorem Built.turn {B : Nat} {W' : World} {row : Option Nat} (h : Built S O e D σ v1 v2 v3 v4 v5 te w W S1 v k ws N cs us) (hg : W.grownBy W' row) (hr : ∀ r, row = some r → B ≤ r ∧ ∃ o : Obj, W.heap[r]? = some o ∧ o.isCells = false) (hB : ∀ q, S q → q < B) (hw : w.heap.size ≤ B) : Built S O e D σ v1 v2 v3 v4 v5 te w W' S1 v k ws N cs us := by
 have cel : ∀ (q : Nat) (c : Array Value) (t : TypeId) (z : Nat × Nat), W.heap[q]? = some (Obj.cells c t z) → W'.heap[q]? = W.heap[q]? := fun q c t z hq => hg.block q (Array.getElem?_eq_some_iff.1 hq).1 fun e' => by
  obtain ⟨_, o, h1, h2⟩ := hr q e'.symm
  rw [hq] at h1
  cases h1
  simp [Obj.isCells] at h2
 have low : ∀ q, q < B → q < W.heap.size → W'.heap[q]? = W.heap[q]? := fun q hq hl => hg.block q hl fun e' => by
  have := (hr q e'.symm).1; omega
 have blkS : ∀ q, S1 q → W'.heap[q]? = W.heap[q]? := fun q hq => by
  rcases h.s1 q hq with h1 | ⟨_, c, t, z, h2⟩
  ·exact low q (hB q h1) (h.ph.still q hq)
  ·exact cel q c t z h2
 refine ⟨h.s0, fun q hq => (h.s1 q hq).imp id ?_, h.ph.same ?_ hg.size, ?_, h.ob, h.oo, fun j hj => (h.bk j hj).next blkS, h.inv, ?_⟩
 ·rintro ⟨h1, c, t, z, h2⟩
  exact ⟨h1, c, t, z, (cel q c t z h2).trans h2⟩
 ·rintro q (hq | rfl | hq)
  ·exact blkS q hq
  ·obtain ⟨a, c, _, _, _, r4⟩ := h.ph.row
   exact cel _ _ _ _ r4
  ·obtain ⟨a, l, c, r, _⟩ := (h.ph.fld q hq).open
   exact cel _ _ _ _ r
 ·refine own_ke h.own (P := fun q => some q = row) ⟨hg.os, hg.tape, hg.output, hg.size, fun q hq hn => hg.block q hq hn⟩ fun q hq e' => ?_
  rcases h.own.2 with ⟨h3, _⟩ | ⟨g, cap, cur, h3, _, h4, _⟩
  ·rw [h3] at hq; simp [Value.ownBlock] at hq
  ·rw [h3] at hq
   simp [Value.ownBlock] at hq
   subst hq
   obtain ⟨_, o, h5, h6⟩ := hr g e'.symm
   rw [h4] at h5
   cases h5
   simp [Obj.isCells] at h6
 ·refine ⟨hg.os.trans h.ks.os, hg.tape.trans h.ks.tape, hg.output.trans h.ks.output, Nat.le_trans h.ks.size hg.size, fun q hq hn => ?_⟩
  rw [low q (by omega) (Nat.lt_of_lt_of_le hq h.ks.size)]
  exact h.ks.block q hq hn
theorem Built.atSet (h : Built S O e D σ v1 v2 v3 v4 v5 te w W S1 v k ws N cs us) {q j : Nat} {u : Value} (h1 : ¬ S1 q) (h2 : v.ownBlock ≠ some q) (h3 : w.heap.size ≤ q) (hne : q ≠ e) (h4 : ¬ D q) : Built S O e D σ v1 v2 v3 v4 v5 te w (W.setCell ⟨q, j, none⟩ u) S1 v k ws N cs us := by
 have blk : ∀ k, k ≠ q → (W.setCell ⟨q, j, none⟩ u).heap[k]? = W.heap[k]? := fun k hk => Below.heap_setCell _ _ _ _ hk
 have blkS : ∀ k, S1 k → (W.setCell ⟨q, j, none⟩ u).heap[k]? = W.heap[k]? := fun k hk => blk k fun e' => h1 (e' ▸ hk)
 have hk : Ks (fun k => k = q) W (W.setCell ⟨q, j, none⟩ u) := (Ks.refl (fun k => k = q) W).set q j u rfl
 refine ⟨h.s0, fun k hk => (h.s1 k hk).imp id ?_, h.ph.same ?_ (by simp), own_ke h.own hk fun k hk' e' => h2 (by rw [hk', e']), h.ob, h.oo, fun i hi => (h.bk i hi).next blkS, h.inv, ⟨h.ks.os, h.ks.tape, h.ks.output, by simpa using h.ks.size, fun k hk hn => (blk k (by omega)).trans (h.ks.block k hk hn)⟩⟩
 ·rintro ⟨k1, c, t, z, k2⟩
  exact ⟨k1, c, t, z, (blkS k hk).trans k2⟩
 ·rintro k (hk | rfl | hk)
  ·exact blkS k hk
  ·exact blk _ (Ne.symm hne)
  ·exact blk _ fun e' => h4 (e' ▸ hk)
theorem BkPostO.turn {us : List Wr} {r : Ending} {row : Option Nat} (h : BkPostO S O e D σ us v1 v2 v3 v4 v5 te w r W1) (hg : W1.grownBy W2 row) (hr : ∀ r, row = some r → w.heap.size ≤ r ∧ ∃ o : Obj, W1.heap[r]? = some o ∧ o.isCells = false) (hS : ∀ q, S q → q < w.heap.size) : BkPostO S O e D σ us v1 v2 v3 v4 v5 te w r W2 := by
 obtain ⟨N', cs', S', h1, h2, h3, h4, h5, h6⟩ := h
 have cel : ∀ (q : Nat) (c : Array Value) (t : TypeId) (z : Nat × Nat), W1.heap[q]? = some (Obj.cells c t z) → W2.heap[q]? = W1.heap[q]? := fun q c t z hq => hg.block q (Array.getElem?_eq_some_iff.1 hq).1 fun e' => by
  obtain ⟨_, o, h1, h2⟩ := hr q e'.symm
  rw [hq] at h1
  cases h1
  simp [Obj.isCells] at h2
 have low : ∀ q, q < w.heap.size → W2.heap[q]? = W1.heap[q]? := fun q hq => hg.block q (Nat.lt_of_lt_of_le hq h6.size) fun e' => by
  have := (hr q e'.symm).1; omega
 have blkS : ∀ q, S' q → W2.heap[q]? = W1.heap[q]? := fun q hq => by
  rcases h3 q hq with h7 | ⟨_, c, t, z, h8⟩
  ·exact low q (hS q h7)
  ·exact cel q c t z h8
 refine ⟨N', cs', S', h1, h2, fun q hq => (h3 q hq).imp id ?_, h4.same ?_ hg.size, h5.next blkS, ⟨hg.os.trans h6.os, hg.tape.trans h6.tape, hg.output.trans h6.output, Nat.le_trans h6.size hg.size, fun q hq hn => (low q hq).trans (h6.block q hq hn)⟩⟩
 ·rintro ⟨k1, c, t, z, k2⟩
  exact ⟨k1, c, t, z, (cel q c t z k2).trans k2⟩
 ·rintro q (hq | rfl | hq)
  ·exact blkS q hq
  ·obtain ⟨a, c, _, _, _, r4⟩ := h4.row
   exact cel _ _ _ _ r4
  ·obtain ⟨a, l, c, r, _⟩ := (h4.fld q hq).open
   exact cel _ _ _ _ r
theorem dnL_map (n : Nat) : ∀ k h, (dnL n k h).map Subtype.val = ((List.range n).reverse).take k
 | 0, _ => rfl
 | k + 1, h => by
  have hk : k < (List.range n).reverse.length := by simp; omega
  rw [dnL, List.map_append, dnL_map n k, ← List.take_append_getElem hk]
  congr 1
  simp [List.getElem_reverse]
  omega
theorem dnL_flat (n : Nat) (us : Nat → List Wr) : (dnL n n (Nat.le_refl _)).flatMap (fun x => us x.1) = (List.range n).reverse.flatMap us := by
 have := dnL_map n n (Nat.le_refl _)
 rw [List.take_of_length_le (by simp)] at this
 rw [← this, List.flatMap_map]
theorem stepIn_append {F : Fence} {n : Nat} {P : Program} (w : World) {ops : Array Oper} {o : Oper} {a : Act} {K : Act → World → Prop} {Q : Exit → Act → World → Prop} {E : Prop} (hgd : o.guard = none) (s x : Operand) (t : TypeId)
  (hop : o.op = .call { callee := .builtin .append, args := #[s, x], argTypes := #[t, t] })
  (base : Nat) (e : TypeId) (i : TypeInfo) (z : Value) (size bytes : Nat) (ht : P.underlying t = some (.slice e)) (hi : P.info? e = some i) (hz : i.zero = some z)
  (hsize : i.size = size) (hby : i.bytes = bytes) (hzs : z.cells.size = size) (hsz : 0 < size)
  (v : Value) (k : Nat) (xs : List Value) (hs : a.eval s = v) (hown : w.ownsRow base e size v k xs)
  (ad : Addr) (m c : Nat) (news : List Value) (hx : a.eval x = .slice (some ad) m c) (hl : news.length = m * size) (hnews : ∀ j u, news[j]? = some u → w.cell? (ad.add j) = some u) (h1 : ∀ u ∈ news, u.oneCell' = true)
  (hm : 0 < m) (h63 : k + m ≤ maxLen) (hbytes : (k + m) * bytes ≤ 140737488355328) (hbase : base ≤ w.heap.size) (H : Nat) (hH : w.heap.size = H)
  (h : ∀ g cap w', w'.ownsRow base e size (.slice (some ⟨g, 0, none⟩) (k + m) cap) (k + m) (xs ++ news) → w.grownBy w' v.ownBlock → (v.ownBlock = some g ∨ g = H) → g < w'.heap.size → K (a.put o.dst (.slice (some ⟨g, 0, none⟩) (k + m) cap)) w') :
  if Region.wanted o (yielded ops a.tmps) = true then Oper.wpIn F n P o a w K Q else E := by
 have hw : Region.wanted o (yielded ops a.tmps) = true := by simp [Region.wanted, hgd]
 rw [if_pos hw]
 obtain ⟨g, cap, w', hrun, r1, r2, r3, r4⟩ := run_append_lies (P := P) w t o.type base e i z size bytes ht hi hz hsize hby hzs hsz v k xs hown ad m c news hl hnews h1 hm h63 hbytes hbase H hH
 unfold Oper.wpIn
 refine ⟨?_, ?_⟩
 ·simp [Oper.about, hop, resolve, Target.leads, Sem.run_pure]
 ·rw [Oper.semAt_plain F _ _ (by rw [hop]; intro c hc'; cases hc')]
  simp [execOp, hop, resolve, invoke, builtin, hs, hx, hrun, Result.andThen]
  exact h g cap w' r1 r2 r3 r4
def AllI (S : Nat → Prop) (e : Nat) (D : Nat → Prop) (σ : Sta) (v1 v2 v3 v4 v5 : Value) (te : TypeId) (us : Nat → List Wr) (n : Nat) (bs : Value) (w : World) (pre : List { i : Nat // i < n }) (W : World) : Prop :=
 ∃ (S1 : Nat → Prop) (v : Value) (N' : Nat → Nat) (cs' : Nat → Array Value) (us' : Nat → List Wr), Built S (fun q => w.heap.size ≤ q) e D σ v1 v2 v3 v4 v5 te w W S1 v pre.length (pre.flatMap fun x => us x.1) N' cs' us' ∧ Boxed W w.heap.size 61 v ∧ ¬ S1 w.heap.size ∧ Boxed W (w.heap.size + 1) 61 bs
theorem allI_own {S : Nat → Prop} {n B : Nat} {bs : Value} (hB : ∀ q, S q → q < B) (hw : w.heap.size ≤ B) : OwnFrom B (AllI S e D σ v1 v2 v3 v4 v5 te us n bs w) := by
 rintro pre W W' row ⟨S1, v, N', cs', us', h1, h2, h3, h6⟩ hg hr
 refine ⟨S1, v, N', cs', us', h1.turn hg hr hB hw, h2.kept hg fun e' => ?_, h3, h6.kept hg fun e' => ?_⟩
 rotate_left
 ·obtain ⟨_, o, h4, h5⟩ := hr _ e'.symm
  rw [show W.heap[w.heap.size + 1]? = _ from h6] at h4
  cases h4
  simp [Obj.isCells] at h5
 obtain ⟨_, o, h4, h5⟩ := hr _ e'.symm
 rw [show W.heap[w.heap.size]? = _ from h2] at h4
 cases h4
 simp [Obj.isCells] at h5
theorem bkAll (h : PhS w S e D σ v1 v2 v3 v4 v5 te) (g : Nat) (a : Option Addr) (n c : Nat) (hgS : S g) (hgr : w.heap[g]? = some (.cells #[.slice a n c] 61 (0, 0))) (ha : n = 0 ∨ ∃ h o, a = some ⟨h, o, none⟩ ∧ S h) (hn : n ≤ maxLen) (hn8 : n * 8 ≤ 140737488355328)
  (hc : ∀ i, i < n → ∀ h o, a = some ⟨h, o, none⟩ → w.cell? ⟨h, o + i, none⟩ = some (.func (.func (N i)) #[] (cs i))) (hent : ∀ i, i < n → ∀ args w, (callFunc (N i) args).run Tryz.prog w = .ok (.enter (N i) args) w)
  (hcall : ∀ i, i < n → ∀ W S1 σ1, (∀ q, S q → S1 q ∧ W.heap[q]? = w.heap[q]?) → PhS W S1 e D σ1 v1 v2 v3 v4 v5 te → Calls Tryz.prog (N i) (cs i) W (BkPost S1 e D σ1 (us i) v1 v2 v3 v4 v5 te W)) :
  Calls Tryz.prog 44 #[.pointer (some ⟨g, 0, none⟩)] w (BkPost S e D σ ((List.range n).reverse.flatMap us) v1 v2 v3 v4 v5 te w) := by
 have m0 : w.cell? ⟨g, 0, none⟩ = some (.slice a n c) := (cell_of_row w g 0 _ _ _ hgr).trans rfl
 have hgl := h.still g hgS
 have HP := tZ h
 have HC := tZ hc
 have HE := tZ hent
 have HCL := tZ hcall
 have HA := tZ ha
 clear hgr hc hent hcall h ha
 refine (callsIn_wide (n := 3)).1 ?_
 refine callsIn_of_wp_marks Tryz.func44 rfl trivial ?_ rfl
 simp only [Tryz.ntmps44, List.size_toArray, List.length_cons, List.length_nil, Nat.reduceAdd, Nat.reduceSub, Array.replicate_succ, Array.replicate_zero, List.push_toArray, List.append_toArray, List.nil_append, List.cons_append]
 gi_wp2_with (first | (gi_at_call 45; refine (backward _ a n c _).mono ?_; rintro e w' ⟨rfl, rfl⟩) | (refine ⟨trivial, ?_⟩; gi_at_call 45; refine (backward _ a n c _).mono ?_; rintro e w' ⟨rfl, rfl⟩))
 have hb2 : Below w.heap.size w ((w.alloc (.cells #[.slice none 0 0] 61)).alloc (.cells #[.slice a n c] 61)) := below2 w _ _
 have bO := Boxed.new w 61 (.slice none 0 0)
 have bN := Boxed.new (w.alloc (.cells #[.slice none 0 0] 61)) 61 (.slice a n c)
 rw [World.size_alloc] at bN
 have hSl : ∀ q, S q → q < w.heap.size := HP.out.still
 refine wpIn_rangeFunc_ownG rfl (by omega) (gf := 67) (lb := #[.pointer (some ⟨w.heap.size + 1, 0, none⟩)]) rfl trivial (enters_of Tryz.func67 (by kernel_rfl) rfl)
  (backward_stops _ (by omega) (w.heap.size + 1) n c a (fun i => .func (.func (N i)) #[] (cs i)) (fun q => S q ∨ q = w.heap.size + 1) hn (Or.inr rfl) _ (fun q hq => by rcases hq with hq | hq; have := hSl q hq; simp; omega; simp; omega) bN.cell (HA.out.imp id fun ⟨h, o, h1, h2⟩ => ⟨h, o, h1, Or.inl h2⟩) (fun i hi h o e' => by
   rcases HA.out with h0 | ⟨h', o', h1, h2⟩
   ·omega
   ·rw [e'] at h1
    cases h1
    exact (hb2.cell (p := ⟨h, o + i, none⟩) (hSl h h2)).trans (HC.out i hi h o e')))
  (fun h1 h2 => ⟨Nat.le_trans h1.1 h2.1, fun q hq => (h2.2 q hq).trans (h1.2 q hq)⟩)
  (fun W l o o' hl ho _ _ => ⟨by simp, fun q hq => World.putObj_heap_other (fun e' => by simp at hl; rcases hq with hq | hq; have := hSl q hq; omega; omega)⟩)
  (Below.refl _ _) (fun _ => rfl) (AllI S e D σ v1 v2 v3 v4 v5 te us n (.slice a n c) w) (fun _ _ _ => False)
  (allI_own (fun q hq => by have := hSl q hq; simp; omega) (by simp; omega)) (fun _ _ _ _ _ hs _ _ => hs)
  ⟨S, .slice none 0 0, _, _, _, (Built.start HP.out).next hb2, bO.alloc _, fun h1 => by have := hSl _ h1; omega, bN⟩
  (fun x => { tmps := #[.pointer (some ⟨g, 0, none⟩), .nilFunc, .pointer (some ⟨w.heap.size, 0, none⟩), undef, .func (.func (N x.1)) #[] (cs x.1), .slice a n c, .func (.func 67) #[] #[.pointer (some ⟨w.heap.size + 1, 0, none⟩)], .int .i64 (x.1 : Int), .func (.func (N x.1)) #[] (cs x.1), undef, undef, undef, undef, undef, undef, undef], defers := [] }) ?assign ?body ?done ?stop
 case assign =>
  intro l x W K hK
  gi_wp2
  exact hK
 case body =>
  rintro l pre x W ⟨S1, v, N', cs', us', hBu, hbox, hnS, hbs⟩ hlt
  obtain ⟨i1, gi, gz0, gz1, gz2⟩ := info_parts infoBack
  obtain ⟨an, ln, cn, rfl⟩ := own_slice hBu.own
  have hcb := hbox.cell
  have hmx : Tryz.prog.follows .mixedOrders = true := by kernel_rfl
  have heg := HE.out x.1 x.2
  have hwW := hBu.ks.size
  have hwB : w.heap.size < W.heap.size := hbox.lt
  have hpl : pre.length < n := hlt
  have HBU := tZ hBu
  have HBX := tZ hbox
  have hno : (Value.slice an ln cn).ownBlock ≠ some w.heap.size := fun h1 => hbox.not_row (by decide) hBu.own h1.symm
  have HCA := tZ (fun W' (hW : Below W.heap.size W W') => (HCL.out x.1 x.2 W' S1 _ (fun q hq => ⟨HBU.out.s0 q hq, (hW.block q (HBU.out.ph.still q (HBU.out.s0 q hq))).trans (HBU.out.ks.block q (hSl q hq) (HP.out.notP q hq))⟩) (HBU.out.ph.next hW)).mono (R' := fun r w2 => ∃ N1 cs1, r = .returned (.func (.func N1) #[] cs1) ∧ Hid (∃ S2, (∀ q, S1 q → S2 q) ∧ (∀ q, S2 q → S1 q ∨ (W.heap.size ≤ q ∧ ∃ c t z, w2.heap[q]? = some (.cells c t z))) ∧ PhS w2 S2 e D (runW (us x.1) (runW (pre.flatMap fun x => us x.1) σ)) v1 v2 v3 v4 v5 te ∧ BkAt e D w2 S2 N1 cs1 (invW (us x.1) (runW (pre.flatMap fun x => us x.1) σ)) ∧ Ks (fun q => q = e ∨ D q) W w2) ∧ Hid (w2.ownsRow w.heap.size 84 1 (.slice an ln cn) pre.length ((List.range pre.length).map fun j => fnV (N' j) (cs' j))) ∧ W.heap.size ≤ w2.heap.size ∧ Hid (Boxed w2 w.heap.size 61 (.slice an ln cn))) (by
   rintro r w2 ⟨N1, cs1, S2, rfl, q0, q1, q2, q3, q4⟩
   have hk2 : Ks (fun q => q = e ∨ D q) W w2 := (Ks.of hW).trans q4
   refine ⟨N1, cs1, rfl, ⟨S2, q0, fun q hq => (q1 q hq).imp id fun h => ⟨Nat.le_trans hW.size h.1, h.2⟩, q2, q3, hk2⟩, own_ke HBU.out.own hk2 fun q hq h1 => ?_, hk2.size, hk2.cells HBX.out fun h1 => ?_⟩
   ·obtain ⟨_, h2, h3⟩ := HBU.out.ob q hq
    rcases h1 with h1 | h1
    ·exact h2 h1
    ·exact h3 h1
   ·have hel := HP.out.lt
    rcases h1 with h1 | h1
    ·omega
    ·have := (HP.out.fld _ h1).lt; omega))
  have HEND := tZ (show ∀ (N1 : Nat) (cs1 : Array Value) (w2 : World) (g' cap' : Nat) (w3 : World), (∃ S2, (∀ q, S1 q → S2 q) ∧ (∀ q, S2 q → S1 q ∨ (W.heap.size ≤ q ∧ ∃ c t z, w2.heap[q]? = some (.cells c t z))) ∧ PhS w2 S2 e D (runW (us x.1) (runW (pre.flatMap fun x => us x.1) σ)) v1 v2 v3 v4 v5 te ∧ BkAt e D w2 S2 N1 cs1 (invW (us x.1) (runW (pre.flatMap fun x => us x.1) σ)) ∧ Ks (fun q => q = e ∨ D q) W w2) → W.heap.size ≤ w2.heap.size →
    w3.ownsRow w.heap.size 84 1 (.slice (some ⟨g', 0, none⟩) (pre.length + 1) cap') (pre.length + 1) (((List.range pre.length).map fun j => fnV (N' j) (cs' j)) ++ [.func (.func N1) #[] cs1]) → (w2.alloc (.cells #[.func (.func N1) #[] cs1] 84)).grownBy w3 (Value.slice an ln cn).ownBlock → ((Value.slice an ln cn).ownBlock = some g' ∨ g' = w2.heap.size + 1) → Boxed w3 w.heap.size 61 (.slice an ln cn) →
    KeepsFrom ((w.alloc (.cells #[.slice none 0 0] 61)).alloc (.cells #[.slice a n c] 61)).heap.size W (w3.setCell ⟨w.heap.size, 0, none⟩ (.slice (some ⟨g', 0, none⟩) (pre.length + 1) cap')) ∧ KpB (fun q => S q ∨ q = w.heap.size + 1) W (w3.setCell ⟨w.heap.size, 0, none⟩ (.slice (some ⟨g', 0, none⟩) (pre.length + 1) cap')) ∧ AllI S e D σ v1 v2 v3 v4 v5 te us n (.slice a n c) w (pre ++ [x]) (w3.setCell ⟨w.heap.size, 0, none⟩ (.slice (some ⟨g', 0, none⟩) (pre.length + 1) cap')) from by
   rintro N1 cs1 w2 g' cap' w3 ⟨S2, q0, q1, q2, q3, q4⟩ hs2 hown hgr hat hbx
   have hel := HP.out.lt
   have hg3 := hgr.size
   simp at hg3
   have hst := HBU.out.step (hO := fun q hq => Nat.le_trans HBU.out.ks.size hq) q0 q1 q2 q3 q4 hgr hown (by
    rcases hat with h1 | h1
    ·exact Or.inl (by rw [h1]; rfl)
    ·exact Or.inr ⟨g', rfl, by rw [h1]; exact Nat.le_succ _⟩)
   have hnS2 : ¬ S2 w.heap.size := fun h1 => by
    rcases q1 _ h1 with h2 | h2
    ·exact hnS h2
    ·omega
   have hgne : g' ≠ w.heap.size := fun h1 => by
    rcases hat with h2 | h2
    ·exact hno (by rw [h2, h1])
    ·omega
   have hset : ∀ q, q ≠ w.heap.size → (w3.setCell ⟨w.heap.size, 0, none⟩ (.slice (some ⟨g', 0, none⟩) (pre.length + 1) cap')).heap[q]? = w3.heap[q]? := fun q hq => Below.heap_setCell _ _ _ _ hq
   have hold : ∀ q, q < W.heap.size → q ≠ w.heap.size → ¬ (q = e ∨ D q) → (Value.slice an ln cn).ownBlock ≠ some q → (w3.setCell ⟨w.heap.size, 0, none⟩ (.slice (some ⟨g', 0, none⟩) (pre.length + 1) cap')).heap[q]? = W.heap[q]? := fun q hq h1 h2 h3 => by
    rw [hset q h1, hgr.block q (by simp; omega) (fun h => h3 h.symm), Below.heap_alloc _ _ _ (by omega)]
    exact q4.block q hq h2
   have hrange : (pre ++ [x]).flatMap (fun x => us x.1) = (pre.flatMap fun x => us x.1) ++ us x.1 := by simp
   have hfin := hst.atSet (q := w.heap.size) (j := 0) (u := .slice (some ⟨g', 0, none⟩) (pre.length + 1) cap') hnS2 (by simpa [Value.ownBlock] using hgne) (Nat.le_refl _) (by omega) fun h1 => by have := (HP.out.fld _ h1).lt; omega
   rw [← hrange] at hfin
   have hlen : (pre ++ [x]).length = pre.length + 1 := by simp
   have hno2 : (Value.slice an ln cn).ownBlock ≠ some (w.heap.size + 1) := fun h1 => hbs.not_row (by decide) HBU.out.own h1.symm
   have hbsl := hbs.lt
   have hbs2 : (w3.setCell ⟨w.heap.size, 0, none⟩ (.slice (some ⟨g', 0, none⟩) (pre.length + 1) cap')).heap[w.heap.size + 1]? = W.heap[w.heap.size + 1]? := hold _ hbsl (by omega) (fun h1 => by
     rcases h1 with h1 | h1
     ·omega
     ·have := (HP.out.fld _ h1).lt; omega) hno2
   refine ⟨⟨by simp; omega, fun q o hB hq ho => ?_⟩, ⟨by simp; omega, fun q hq => ?_⟩, S2, _, _, _, _, by rw [hlen]; exact hfin, ?_, hnS2, hbs2.trans hbs⟩
   ·simp at hB
    refine (hold q (Array.getElem?_eq_some_iff.1 hq).1 (by omega) (fun h1 => ?_) fun h1 => ?_).trans hq
    ·rcases h1 with h1 | h1
     ·omega
     ·have := (HP.out.fld q h1).lt; omega
    ·rcases HBU.out.own.2 with ⟨h3, _⟩ | ⟨gg, cap, cur, h3, _, h4, _⟩
     ·rw [h3] at h1; simp [Value.ownBlock] at h1
     ·rw [h3] at h1
      simp [Value.ownBlock] at h1
      subst h1
      rw [h4] at hq
      cases hq
      simp [Obj.isCells] at ho
   ·rcases hq with hq | rfl
    ·have hqw := hSl q hq
     refine hold q (by omega) (by omega) (HP.out.notP q hq) fun h1 => ?_
     exact (HBU.out.ob q h1).1 (HBU.out.s0 q hq)
    ·exact hbs2
   ·have := hbx.set (.slice (some ⟨g', 0, none⟩) (pre.length + 1) cap')
    simpa using this)
  clear hBu hbox hlt hbs
  gi_wp2
  refine wpIn_region_any hmx ?_
  change wpAnyIn _ _ _ _ _ _ _ _ _ (World.drew _)
  refine wpAnyIn_ready (rs := [0, 1]) (by kernel_rfl) (by simp) ?_
  refine AllReadyIn.cons rfl (fun K hK => ?_) (AllReadyIn.cons rfl (fun K hK => ?_) AllReadyIn.nil)
  ·go_simp
   refine hK _ _ ?_
   clear hK K
   refine wpAnyIn_ready (rs := [1]) (by kernel_rfl) (by simp) (AllReadyIn.cons rfl (fun K hK => ?_) AllReadyIn.nil)
   go_simp
   refine hK _ _ ?_
   clear hK K
   refine wpAnyIn_ready (rs := [2]) (by kernel_rfl) (by simp) (AllReadyIn.cons rfl (fun K hK => ?_) AllReadyIn.nil)
   go_simp
   refine ⟨trivial, (CallsIn.inRound l (callsIn_wide.2 (HCA.out _ (Below.refl _ _).drew))).mono ?_⟩; rintro e2 w2 ⟨N1, cs1, rfl, B2, BO, hs2, BX⟩; refine hK _ _ ?_; clear hK K
   have hcb2 := BX.out.cell
   refine wpAnyIn_ready (rs := [3]) (by kernel_rfl) (by simp) (AllReadyIn.cons rfl (fun K hK => ?_) AllReadyIn.nil)
   go_simp
   refine hK _ _ ?_
   clear hK K
   refine wpAnyIn_ready (rs := [4]) (by kernel_rfl) (by simp) (AllReadyIn.cons rfl (fun K hK => ?_) AllReadyIn.nil)
   refine stepIn_append _ (by rfl) (.tmp 9) (.tmp 12) 61 (by rfl) w.heap.size 84 i1 .nilFunc 1 8 Tryz.underlying61 gi gz0 gz1 gz2 rfl (by decide) (.slice an ln cn) pre.length _ (by rfl) (BO.out.alloc _) ⟨w2.heap.size, 0, none⟩ 1 1 [.func (.func N1) #[] cs1] (by rfl) rfl (fun q u hq => cells_new w2 [.func (.func N1) #[] cs1] 84 q u hq) (fun u hu => by simp at hu; subst hu; rfl) (by omega) (by omega) (by omega) (by simp; omega) (w2.heap.size + 1) (by simp) ?_
   intro g' cap' w3 hown' hgrow hat hltg
   refine hK _ _ ?_
   clear hK K
   have hbx3 : Boxed w3 w.heap.size 61 (.slice an ln cn) := (hgrow.block _ (by simp; omega) (fun h1 => hno h1.symm)).trans ((Below.heap_alloc w2 _ _ (by omega)).trans BX.out)
   have hcb3 := hbx3.cell
   have hfb3 := hbx3.frozen
   have HOW := tZ hown'
   have HGR := tZ hgrow
   have HAT := tZ hat
   have HB3 := tZ hbx3
   clear hown' hgrow hat hbx3
   refine wpAnyIn_ready (rs := [5]) (by kernel_rfl) (by simp) (AllReadyIn.cons rfl (fun K hK => ?_) AllReadyIn.nil)
   go_simp
   refine hK _ _ ?_
   clear hK K
   refine wpAnyIn_done (by kernel_rfl) ?_ _
   gi_wp2
   exact HEND.out N1 cs1 w2 g' cap' w3 B2.out hs2 HOW.out HGR.out HAT.out HB3.out
  ·go_simp
   refine hK _ _ ?_
   clear hK K
   refine wpAnyIn_ready (rs := [0, 2]) (by kernel_rfl) (by simp) (AllReadyIn.cons rfl (fun K hK => ?_) (AllReadyIn.cons rfl (fun K hK => ?_) AllReadyIn.nil))
   ·go_simp
    refine hK _ _ ?_
    clear hK K
    refine wpAnyIn_ready (rs := [2]) (by kernel_rfl) (by simp) (AllReadyIn.cons rfl (fun K hK => ?_) AllReadyIn.nil)
    go_simp
    refine ⟨trivial, (CallsIn.inRound l (callsIn_wide.2 (HCA.out _ (Below.refl _ _).drew))).mono ?_⟩; rintro e2 w2 ⟨N1, cs1, rfl, B2, BO, hs2, BX⟩; refine hK _ _ ?_; clear hK K
    have hcb2 := BX.out.cell
    refine wpAnyIn_ready (rs := [3]) (by kernel_rfl) (by simp) (AllReadyIn.cons rfl (fun K hK => ?_) AllReadyIn.nil)
    go_simp
    refine hK _ _ ?_
    clear hK K
    refine wpAnyIn_ready (rs := [4]) (by kernel_rfl) (by simp) (AllReadyIn.cons rfl (fun K hK => ?_) AllReadyIn.nil)
    refine stepIn_append _ (by rfl) (.tmp 9) (.tmp 12) 61 (by rfl) w.heap.size 84 i1 .nilFunc 1 8 Tryz.underlying61 gi gz0 gz1 gz2 rfl (by decide) (.slice an ln cn) pre.length _ (by rfl) (BO.out.alloc _) ⟨w2.heap.size, 0, none⟩ 1 1 [.func (.func N1) #[] cs1] (by rfl) rfl (fun q u hq => cells_new w2 [.func (.func N1) #[] cs1] 84 q u hq) (fun u hu => by simp at hu; subst hu; rfl) (by omega) (by omega) (by omega) (by simp; omega) (w2.heap.size + 1) (by simp) ?_
    intro g' cap' w3 hown' hgrow hat hltg
    refine hK _ _ ?_
    clear hK K
    have hbx3 : Boxed w3 w.heap.size 61 (.slice an ln cn) := (hgrow.block _ (by simp; omega) (fun h1 => hno h1.symm)).trans ((Below.heap_alloc w2 _ _ (by omega)).trans BX.out)
    have hcb3 := hbx3.cell
    have hfb3 := hbx3.frozen
    have HOW := tZ hown'
    have HGR := tZ hgrow
    have HAT := tZ hat
    have HB3 := tZ hbx3
    clear hown' hgrow hat hbx3
    refine wpAnyIn_ready (rs := [5]) (by kernel_rfl) (by simp) (AllReadyIn.cons rfl (fun K hK => ?_) AllReadyIn.nil)
    go_simp
    refine hK _ _ ?_
    clear hK K
    refine wpAnyIn_done (by kernel_rfl) ?_ _
    gi_wp2
    exact HEND.out N1 cs1 w2 g' cap' w3 B2.out hs2 HOW.out HGR.out HAT.out HB3.out
   ·go_simp
    refine ⟨trivial, (CallsIn.inRound l (callsIn_wide.2 (HCA.out _ (Below.refl _ _).drew))).mono ?_⟩; rintro e2 w2 ⟨N1, cs1, rfl, B2, BO, hs2, BX⟩; refine hK _ _ ?_; clear hK K
    have hcb2 := BX.out.cell
    refine wpAnyIn_ready (rs := [0, 3]) (by kernel_rfl) (by simp) (AllReadyIn.cons rfl (fun K hK => ?_) (AllReadyIn.cons rfl (fun K hK => ?_) AllReadyIn.nil))
    ·go_simp
     refine hK _ _ ?_
     clear hK K
     refine wpAnyIn_ready (rs := [3]) (by kernel_rfl) (by simp) (AllReadyIn.cons rfl (fun K hK => ?_) AllReadyIn.nil)
     go_simp
     refine hK _ _ ?_
     clear hK K
     refine wpAnyIn_ready (rs := [4]) (by kernel_rfl) (by simp) (AllReadyIn.cons rfl (fun K hK => ?_) AllReadyIn.nil)
     refine stepIn_append _ (by rfl) (.tmp 9) (.tmp 12) 61 (by rfl) w.heap.size 84 i1 .nilFunc 1 8 Tryz.underlying61 gi gz0 gz1 gz2 rfl (by decide) (.slice an ln cn) pre.length _ (by rfl) (BO.out.alloc _) ⟨w2.heap.size, 0, none⟩ 1 1 [.func (.func N1) #[] cs1] (by rfl) rfl (fun q u hq => cells_new w2 [.func (.func N1) #[] cs1] 84 q u hq) (fun u hu => by simp at hu; subst hu; rfl) (by omega) (by omega) (by omega) (by simp; omega) (w2.heap.size + 1) (by simp) ?_
     intro g' cap' w3 hown' hgrow hat hltg
     refine hK _ _ ?_
     clear hK K
     have hbx3 : Boxed w3 w.heap.size 61 (.slice an ln cn) := (hgrow.block _ (by simp; omega) (fun h1 => hno h1.symm)).trans ((Below.heap_alloc w2 _ _ (by omega)).trans BX.out)
     have hcb3 := hbx3.cell
     have hfb3 := hbx3.frozen
     have HOW := tZ hown'
     have HGR := tZ hgrow
     have HAT := tZ hat
     have HB3 := tZ hbx3
     clear hown' hgrow hat hbx3
     refine wpAnyIn_ready (rs := [5]) (by kernel_rfl) (by simp) (AllReadyIn.cons rfl (fun K hK => ?_) AllReadyIn.nil)
     go_simp
     refine hK _ _ ?_
     clear hK K
     refine wpAnyIn_done (by kernel_rfl) ?_ _
     gi_wp2
     exact HEND.out N1 cs1 w2 g' cap' w3 B2.out hs2 HOW.out HGR.out HAT.out HB3.out
    ·go_simp
     refine hK _ _ ?_
     clear hK K
     have hlt2 : w.heap.size < w2.heap.size := by omega
     refine wpAnyIn_ready (rs := [0]) (by kernel_rfl) (by simp) (AllReadyIn.cons rfl (fun K hK => ?_) AllReadyIn.nil)
     go_simp
     refine hK _ _ ?_
     clear hK K
     refine wpAnyIn_ready (rs := [4]) (by kernel_rfl) (by simp) (AllReadyIn.cons rfl (fun K hK => ?_) AllReadyIn.nil)
     refine stepIn_append _ (by rfl) (.tmp 9) (.tmp 12) 61 (by rfl) w.heap.size 84 i1 .nilFunc 1 8 Tryz.underlying61 gi gz0 gz1 gz2 rfl (by decide) (.slice an ln cn) pre.length _ (by rfl) (BO.out.alloc _) ⟨w2.heap.size, 0, none⟩ 1 1 [.func (.func N1) #[] cs1] (by rfl) rfl (fun q u hq => cells_new w2 [.func (.func N1) #[] cs1] 84 q u hq) (fun u hu => by simp at hu; subst hu; rfl) (by omega) (by omega) (by omega) (by simp; omega) (w2.heap.size + 1) (by simp) ?_
     intro g' cap' w3 hown' hgrow hat hltg
     refine hK _ _ ?_
     clear hK K
     have hbx3 : Boxed w3 w.heap.size 61 (.slice an ln cn) := (hgrow.block _ (by simp; omega) (fun h1 => hno h1.symm)).trans ((Below.heap_alloc w2 _ _ (by omega)).trans BX.out)
     have hcb3 := hbx3.cell
     have hfb3 := hbx3.frozen
     have HOW := tZ hown'
     have HGR := tZ hgrow
     have HAT := tZ hat
     have HB3 := tZ hbx3
     clear hown' hgrow hat hbx3
     refine wpAnyIn_ready (rs := [5]) (by kernel_rfl) (by simp) (AllReadyIn.cons rfl (fun K hK => ?_) AllReadyIn.nil)
     go_simp
     refine hK _ _ ?_
     clear hK K
     refine wpAnyIn_done (by kernel_rfl) ?_ _
     gi_wp2
     exact HEND.out N1 cs1 w2 g' cap' w3 B2.out hs2 HOW.out HGR.out HAT.out HB3.out
 case done =>
  rintro D' ys W hD rfl ⟨S1, v, N', cs', us', hBu, hbox, hnS, hbs⟩ hK
  have hcell := hbox.cell
  obtain ⟨an, ln, cn, rfl⟩ := own_slice hBu.own
  have HAL := tZ (hBu.all (hk8 := by rw [dnL_length]; exact hn8) (hO := fun q hq => Nat.le_trans hBu.ks.size hq))
  have HBU := tZ hBu
  have HK := tZ hK
  clear hBu hbox hbs hK
  gi_wp2_with (first | (refine ⟨trivial, ?_⟩; gi_at_call 31; refine (callsIn_wide.2 HAL.out).mono ?_; rintro r w1 ⟨⟨N1, cs1, S2, rfl, hrest⟩, hb1⟩; have HR := tZ hrest; have HB1 := tZ hb1; clear hrest hb1) | (gi_at_call 31; refine (callsIn_wide.2 HAL.out).mono ?_; rintro r w1 ⟨⟨N1, cs1, S2, rfl, hrest⟩, hb1⟩; have HR := tZ hrest; have HB1 := tZ hb1; clear hrest hb1))
  have hK1 := (HB1.out.block D' (Array.getElem?_eq_some_iff.1 HK.out).1).trans HK.out
  refine ⟨by simp, .inl ⟨_, _, rfl, run_takeDeferred hK1, ?_⟩⟩
  have hfin : BkPost S e D σ ((dnL n n (Nat.le_refl _)).flatMap fun x => us x.1) v1 v2 v3 v4 v5 te w (.returned (.func (.func N1) #[] cs1)) w1 := ⟨N1, cs1, S2, rfl, HR.out⟩
  rw [dnL_flat] at hfin
  have hfin2 : BkPost S e D σ ((List.range n).reverse.flatMap us) v1 v2 v3 v4 v5 te w (.returned (.func (.func N1) #[] cs1)) (w1.putObj D' (.deferred none)) := BkPostO.turn hfin (grownBy_putObj' _ D' (.deferred none)) (fun r e' => by cases e'; exact ⟨by simp at hD; omega, _, hK1, rfl⟩) hSl
  refine ⟨.func (.func N1) #[] cs1, ?_, hfin2⟩
  simp [results, Tryz.f44, go_sem]
 case stop =>
  rintro D' c pre W _ _ h _
  exact h.elim
end
section
variable {S S1 O : Nat → Prop} {e : Nat} {D : Nat → Prop} {σ : Sta} {v1 v2 v3 v4 v5 : Value} {te : TypeId} {w W W1 W2 : World} {v v' : Value} {k : Nat} {ws : List Wr} {N : Nat → Nat} {cs : Nat → Array Value} {us : Nat → List Wr}
def workS : Sta → List Nat → List Wr
 | _, [] => []
 | σ, b :: r => .vl b (valP (rho σ.fs) (σ.mem b).p) :: workS (wr1 σ (.vl b (valP (rho σ.fs) (σ.mem b).p))) r
theorem workS_snoc (l : List Nat) (b : Nat) : ∀ σ : Sta, workS σ (l ++ [b]) = workS σ l ++ [.vl b (valP (rho (runW (workS σ l) σ).fs) ((runW (workS σ l) σ).mem b).p)] := by
 induction l with
 | nil => intro σ; rfl
 | cons c r ih => intro σ; simp only [List.cons_append, workS, runW, ih]
theorem wr1_ord (σ : Sta) (b : Nat) (v : Vl) : (wr1 σ (.vl b v)).ord = σ.ord := rfl
theorem workS_ord (l : List Nat) : ∀ σ : Sta, (runW (workS σ l) σ).ord = σ.ord := by
 induction l with
 | nil => intro σ; rfl
 | cons c r ih => intro σ; simp only [workS, runW, ih, wr1_ord]
theorem wr1_vl_fs (σ : Sta) (b : Nat) (v : Vl) : (wr1 σ (.vl b v)).fs = setV σ.fs b v := by
 unfold Sta.fs setV
 rw [List.map_map]
 refine List.map_congr_left fun q _ => ?_
 simp only [Function.comp]
 by_cases h : q = b
 ·subst h
  simp [wr1, put_mem]
 ·simp [wr1, put_mem_ne _ _ _ _ h, h]
theorem ruleOf_fs (σ : Sta) (b : Nat) (hb : b ∈ σ.ord) : ruleOf σ.fs b = (σ.mem b).p := by
 unfold ruleOf Sta.fs
 rw [List.find?_map]
 have : ((fun f : Nat × Fd => f.1 == b) ∘ fun b => (b, σ.mem b)) = fun q => q == b := rfl
 rw [this]
 cases h : σ.ord.find? (fun q => q == b) with
 | none =>
  rw [List.find?_eq_none] at h
  exact absurd (beq_self_eq_true b) (h b hb)
 | some q =>
  have := List.find?_some h
  simp at this
  subst this
  rfl
theorem workS_fs (l : List Nat) : ∀ σ : Sta, (∀ b, b ∈ l → b ∈ σ.ord) → (runW (workS σ l) σ).fs = workP σ.fs l := by
 induction l with
 | nil => intro σ _; rfl
 | cons c r ih =>
  intro σ h
  simp only [workS, runW, workP]
  rw [ih (wr1 σ (.vl c (valP (rho σ.fs) (σ.mem c).p))) fun b hb => h b (by simp [hb]), wr1_vl_fs, ruleOf_fs σ c (h c (by simp))]
theorem Built.own2 (h : Built S O e D σ v1 v2 v3 v4 v5 te w W S1 v k ws N cs us) (hk : Ks (fun q => q = e ∨ D q) W W1) : W1.ownsRow w.heap.size 84 1 v k ((List.range k).map fun j => fnV (N j) (cs j)) :=
 own_ke h.own hk fun q hq h1 => by
  obtain ⟨_, h2, h3⟩ := h.ob q hq
  rcases h1 with h1 | h1
  ·exact h2 h1
  ·exact h3 h1
theorem workOutS (ck : Nat) (ak : Option Addr) (ks : List Nat) (h : PhS w S e D σ v1 v2 v3 v4 v5 te) (hl : σ.ord.length ≤ 500) (hkl : ks.length ≤ 500)
  (hk : ∀ j (h : j < ks.length), D (ks[j]) ∧ ∃ g o, ak = some ⟨g, o, none⟩ ∧ g < w.heap.size ∧ g ≠ e ∧ ¬ D g ∧ w.cell? ⟨g, o + j, none⟩ = some (.pointer (some ⟨ks[j], 0, none⟩))) :
  Calls Tryz.prog 79 #[.pointer (some ⟨e, 0, none⟩), .slice ak ks.length ck] w (BkPost S e D σ (workS σ ks) v1 v2 v3 v4 v5 te w) := by
 have HS := tZ h
 have HK := tZ hk
 obtain ⟨i1, gi, gz0, gz1, gz2⟩ := info_parts infoBack
 clear h hk
 go_enter Tryz.func79, Tryz.ntmps79
 go_wp2_with fail
 go_loopg [5, 7, 10] ks.length (fun gk s5 _ s10 wr => ∃ (j : Nat) (S1 : Nat → Prop) (N : Nat → Nat) (cs : Nat → Array Value) (us : Nat → List Wr), j ≤ ks.length ∧ ks.length ≤ j + gk ∧ s10 = .int .i64 (j : Int) ∧ Hid (Built S (fun q => w.heap.size ≤ q) e D σ v1 v2 v3 v4 v5 te w wr S1 s5 j (workS σ (ks.take j)) N cs us))
 case atStart => exact ⟨0, _, _, _, _, Nat.zero_le _, by omega, rfl, Built.start HS.out⟩
 case round =>
  obtain ⟨j, S1, N, cs, us, hj, hgk, rfl, HI⟩ := hrel
  have hsz := HI.out.ks.size
  by_cases hlt : j < ks.length
  ·have hltz : (j : Int) < (ks.length : Int) := by omega
   obtain ⟨hD, g, o, rfl, hg, hge, hgD, hp⟩ := HK.out j hlt
   have hp' := (World.cell?_of_block (a := ⟨g, o + j, none⟩) (HI.out.ks.block g hg (by rintro (h1 | h1); exact hge h1; exact hgD h1))).trans hp
   have HSTEP := tZ (workS_snoc (ks.take j) ks[j] σ)
   rw [show ks.take j ++ [ks[j]] = ks.take (j + 1) by rw [List.take_append_getElem hlt]] at HSTEP
   have hord : (runW (workS σ (ks.take j)) σ).ord = σ.ord := workS_ord _ _
   have HOL := tZ (show (runW (workS σ (ks.take j)) σ).fs.length ≤ 500 by unfold Sta.fs; rw [List.length_map, hord]; exact hl)
   clear hord
   generalize ks[j] = b at *
   generalize hσj : runW (workS σ (ks.take j)) σ = σj at *
   have hpj : PhS wr S1 e D σj v1 v2 v3 v4 v5 te := by rw [← hσj]; exact HI.out.ph
   have HPJ := tZ hpj
   have hF := hpj.fld b hD
   have hFl := hF.lt
   obtain ⟨_, hsh, _, _, a2, l2, c2, hb2, hP2⟩ := hF
   obtain ⟨⟨k0, k1, k2, k3, k4, k5, k6⟩, hfz, _⟩ := row7 hb2
   obtain ⟨a, c, hSh, _, _, hrowE⟩ := hpj.sh
   have hel := hpj.lt
   have hce : wr.cell? ⟨e, 0, none⟩ = some (.slice a σj.fs.length c) := (row6 hrowE).1.1
   have HC := tZ (ruleWorth (.pointer (some ⟨e, 0, none⟩)) (rho σj.fs) (σj.mem b).p a2 l2 c2 wr.drew (hP2.next fun _ _ => rfl) hpj.still hsh (fun x W hW => worth172 x e c a σj.fs W ((hSh.next (Below.refl _ _).drew).next hW) ((hW.cell (p := ⟨e, 0, none⟩) hel).trans hce) (by have := hW.size; simp at this; omega) (by have := HOL.out; omega)))
   obtain ⟨an, ln, cn, rfl⟩ := own_slice HI.out.own
   generalize hvv : valP (rho σj.fs) (σj.mem b).p = vv at *
   have HC2 := tZ (show Calls Tryz.prog 100 #[.agg #[.int .i64 ((σj.mem b).p.k : Int), .string ⟨(σj.mem b).p.nm.toArray⟩, .int .i64 ((σj.mem b).p.n : Int), .slice a2 l2 c2], .func (.func 101) #[.pointer (some ⟨e, 0, none⟩)] #[]] wr.drew (VPost vv wr.drew) from HC.out)
   have HPW := tZ (fun W (hW : Below wr.drew.heap.size wr.drew W) => (putVlX ((HPJ.out.next (Below.refl _ _).drew).next hW) hD vv ((hW.block b hFl).trans hb2) (hP2.next fun q hq => hW.block q (HPJ.out.still q hq))).mono (R' := fun r w2 => ∃ N1 cs1, r = .returned (.func (.func N1) #[] cs1) ∧ Hid (∃ S2, (∀ q, S1 q → S2 q) ∧ (∀ q, S2 q → S1 q ∨ (wr.heap.size ≤ q ∧ ∃ c t z, w2.heap[q]? = some (.cells c t z))) ∧ PhS w2 S2 e D (wr1 σj (.vl b vv)) v1 v2 v3 v4 v5 te ∧ BkAt e D w2 S2 N1 cs1 [iw1 σj (.vl b vv)] ∧ Ks (fun q => q = e ∨ D q) wr w2) ∧ Hid (w2.ownsRow w.heap.size 84 1 (.slice an ln cn) j ((List.range j).map fun j => fnV (N j) (cs j))) ∧ wr.heap.size ≤ w2.heap.size ∧ Hid (w2.heap[b]? = some (.cells #[.string ⟨(σj.mem b).nm.toArray⟩, .int .i64 ((σj.mem b).p.k : Int), .string ⟨(σj.mem b).p.nm.toArray⟩, .int .i64 ((σj.mem b).p.n : Int), .slice a2 l2 c2, .int .i64 vv.1, .int .i64 vv.2] 119 (0, 0)))) (by
    rintro r w2 ⟨⟨N1, cs1, S2, rfl, q0, q1, q2, q3, q4⟩, hrow⟩
    have hk2 : Ks (fun q => q = e ∨ D q) wr w2 := (Ks.of ((Below.refl _ _).drew.trans hW)).trans q4
    exact ⟨N1, cs1, rfl, ⟨S2, q0, fun q hq => (q1 q hq).imp id fun h => ⟨Nat.le_trans hW.size h.1, h.2⟩, q2, q3, hk2⟩, HI.out.own2 hk2, hk2.size, hrow⟩))
   have HRW := tZ (fun W (hW : Below wr.drew.heap.size wr.drew W) => row7 ((hW.block b hFl).trans hb2))
   clear HC hfz hb2 hSh hrowE hpj
   have hobB : ∀ q, (Value.slice an ln cn).ownBlock = some q → q ≠ b := fun q hq e' => (HI.out.ob q hq).2.2 (e' ▸ hD)
   have HOB := tZ hobB
   clear hobB
   go_wp2_with fail
   go_region_held3 (fun w' => w'.cell? ⟨b, 1, none⟩ = some (.int .i64 ((σj.mem b).p.k : Int)) ∧ w'.cell? ⟨b, 2, none⟩ = some (.string ⟨(σj.mem b).p.nm.toArray⟩) ∧ w'.cell? ⟨b, 3, none⟩ = some (.int .i64 ((σj.mem b).p.n : Int)) ∧ w'.cell? ⟨b, 4, none⟩ = some (.slice a2 l2 c2)) (first | go_keep | (go_split_ands; exact ⟨n1, n2, n3, n4⟩)) (first | (go_at_call 100; refine HC2.out.mono ?_; rintro e w1 ⟨rfl, hb1⟩; obtain ⟨⟨n0, n1, n2, n3, n4, n5, n6⟩, _, _⟩ := HRW.out _ hb1; have B1 := tZ hb1; clear hb1) | (go_at_call 99; refine (HPW.out _ B1.out).mono ?_; rintro e w2 ⟨N1, cs1, rfl, B2, BO, hs2, B3⟩; obtain ⟨⟨n0, n1, n2, n3, n4, n5, n6⟩, _, _⟩ := row7 B3.out) | (refine step_append_lies _ (by rfl) (.tmp 14) (.tmp 26) 61 (by rfl) w.heap.size 84 i1 .nilFunc 1 8 Tryz.underlying61 gi gz0 gz1 gz2 rfl (by decide) (.slice an ln cn) j _ (by rfl) (BO.out.alloc _) ⟨w2.heap.size, 0, none⟩ 1 1 [.func (.func N1) #[] cs1] (by rfl) rfl (fun q u hq => cells_new w2 [.func (.func N1) #[] cs1] 84 q u hq) (fun u hu => by simp at hu; subst hu; rfl) (by omega) (by unfold maxLen; omega) (by omega) (by simp; omega) (w2.heap.size + 1) (by simp) ?_; intro g' cap' w3 hown' hgrow hat hltg; obtain ⟨⟨n0, n1, n2, n3, n4, n5, n6⟩, _, _⟩ := row7 ((hgrow.block b (by simp; omega) (fun e => HOB.out b e.symm rfl)).trans ((Below.heap_alloc w2 _ _ (by omega)).trans B3.out)); have B4 := tZ hown'; have B5 := tZ hgrow; have B6 := tZ hat; clear hown' hgrow hat))
   all_goals go_wp2
   all_goals go_roundg (ks.length - (j + 1))
   all_goals try (case measure => omega)
   all_goals (
    obtain ⟨S2, q0, q1, q2, q3, q4⟩ := B2.out
    have hst := HI.out.step (hO := fun q hq => Nat.le_trans HI.out.ks.size hq) (us1 := [.vl b vv]) q0 q1 (by rw [hσj]; exact q2) (by rw [hσj]; exact q3) q4 B5.out B4.out (by
     rcases B6.out with h1 | h1
     ·exact Or.inl (by rw [h1]; rfl)
     ·exact Or.inr ⟨g', rfl, by rw [h1]; exact Nat.le_succ _⟩)
    rw [← HSTEP.out] at hst
    exact ⟨j + 1, S2, _, _, _, by omega, by omega, by go_num, hst⟩)
  ·have hltz : ¬ (j : Int) < (ks.length : Int) := by omega
   obtain rfl : j = ks.length := by omega
   have HA := tZ (HI.out.all (hk8 := by omega) (hO := fun q hq => Nat.le_trans HI.out.ks.size hq))
   rw [List.take_length] at HA
   obtain ⟨an, ln, cn, rfl⟩ := own_slice HI.out.own
   go_wp2_with (first | (go_at_call 31; refine HA.out.mono ?_; rintro r w1 ⟨⟨N', cs', S', rfl, hrest⟩, _⟩; have HR := tZ hrest; clear hrest))
   go_ret
   exact ⟨N', cs', S', rfl, HR.out⟩
end
section
variable {S S1 O : Nat → Prop} {e : Nat} {D : Nat → Prop} {σ σ0 : Sta} {v1 v2 v3 v4 v5 : Value} {te : TypeId} {w W W1 W2 : World} {ws0 : List Wr} {b : Nat}
theorem ord_fs (σ : Sta) (gs : List (Nat × Fd)) (h : ∀ x, x ∈ gs → x ∈ σ.fs) : (⟨gs.map Prod.fst, σ.mem⟩ : Sta).fs = gs := by
 unfold Sta.fs
 rw [List.map_map]
 conv => rhs; rw [← List.map_id gs]
 refine List.map_congr_left fun x hx => ?_
 obtain ⟨q, _, rfl⟩ := List.mem_map.1 (h x hx)
 rfl
theorem PhS.withOrd {a2 : Option Addr} {c2 : Nat} {gs : List (Nat × Fd)} (h : PhS w S e D σ v1 v2 v3 v4 v5 te) (hb : Below w.heap.size w W) (ho : OrdAt S w W a2 c2 gs) (hne : gs ≠ []) (hsub : ∀ x, x ∈ gs → x ∈ σ.fs) :
  ∃ S3 : Nat → Prop, (∀ q, S q → S3 q) ∧ (∀ q, S3 q → S q ∨ (w.heap.size ≤ q ∧ ∃ c t z, W.heap[q]? = some (.cells c t z))) ∧ PhS W S3 e D σ v1 v2 v3 v4 v5 te ∧ RowAt W S3 a2 (gs.map Prod.fst) ∧ (gs.map Prod.fst).length ≤ c2 ∧ (a2 = none → c2 = 0) ∧ ∀ b, b ∈ gs.map Prod.fst → D b := by
 obtain ⟨S2, s1, s2, hsg, hcap⟩ := ho
 have h0 := hsg.ptr 0 (List.length_pos_iff.2 hne)
 obtain ⟨g, o, rfl, hg, hc0⟩ := h0
 have hel := h.lt
 refine ⟨fun q => S q ∨ q = g, fun q hq => Or.inl hq, ?_, (h.next hb).wide (fun q hq => Or.inl hq) ?_, fun j hj => ?_, by simpa using hcap, fun h => (by cases h), fun q hq => ?_⟩
 ·rintro q (hq | rfl)
  ·exact Or.inl hq
  ·rcases s2 q hg with h1 | h1
   ·exact Or.inl h1
   ·refine Or.inr ⟨h1, ?_⟩
    unfold World.cell? at hc0
    cases hh : W.heap[q]? with
    | none => rw [hh] at hc0; simp at hc0
    | some ob =>
     rw [hh] at hc0
     cases ob <;> simp at hc0
     exact ⟨_, _, _, rfl⟩
 ·rintro q (hq | rfl)
  ·exact Or.inl hq
  ·rcases s2 q hg with h1 | h1
   ·exact Or.inl h1
   ·refine Or.inr ⟨hsg.still q hg, by omega, fun hD => ?_⟩
    have := (h.fld q hD).lt; omega
 ·have hj' : j < gs.length := by simpa using hj
  obtain ⟨g', o', e', _, h3⟩ := hsg.ptr j hj'
  cases e'
  exact ⟨g, o, rfl, Or.inr rfl, by simpa using h3⟩
 ·obtain ⟨x, hx, rfl⟩ := List.mem_map.1 hq
  obtain ⟨q, hq', rfl⟩ := List.mem_map.1 (hsub x hx)
  exact h.sub q hq'
def StOk (S : Nat → Prop) (e : Nat) (D : Nat → Prop) (σ0 : Sta) (ws0 : List Wr) (v1 v2 v3 v4 v5 : Value) (te : TypeId) (hs gs : List (Nat × Fd)) (w : World) (r : Ending) (w' : World) : Prop :=
 ∃ (an : Option Addr) (cn N' : Nat) (cs' : Array Value) (S' : Nat → Prop) (ws : List Wr), r = .returned (.tuple #[.slice an hs.length cn, .func (.func N') #[] cs', .int .i64 0]) ∧ w'.ownsRow w.heap.size 9 1 (.slice an hs.length cn) hs.length (strs (nmsF hs)) ∧ (∀ q, (Value.slice an hs.length cn).ownBlock = some q → ¬ S' q) ∧
  (∀ q, S q → S' q) ∧ (∀ q, S' q → S q ∨ (w.heap.size ≤ q ∧ ∃ c t z, w'.heap[q]? = some (.cells c t z))) ∧ PhS w' S' e D (runW (ws0 ++ ws) σ0) v1 v2 v3 v4 v5 te ∧ BkAt e D w' S' N' cs' (invW (ws0 ++ ws) σ0) ∧ Ks (fun q => q = e ∨ D q) w w' ∧ (runW (ws0 ++ ws) σ0).fs = workP gs (hs.map fun x => x.1)
theorem settleOkS (at_ N0 : Nat) (cs0 : Array Value) (gs : List (Nat × Fd)) (h : PhS w S e D σ v1 v2 v3 v4 v5 te) (hσ : runW ws0 σ0 = σ) (hbk : BkAt e D w S N0 cs0 (invW ws0 σ0)) (hl : σ.ord.length ≤ 100) (hat : σ.ord[at_]? = some b) (hnd : σ.ord.Nodup) (hmd : mendF σ.fs at_ (b, σ.mem b) = .ok gs) (hfm : (b, σ.mem b) ∈ gs) :
  Calls Tryz.prog 73 #[.pointer (some ⟨e, 0, none⟩), .pointer (some ⟨b, 0, none⟩), .func (.func N0) #[] cs0] w (StOk S e D σ0 ws0 v1 v2 v3 v4 v5 te ((b, σ.mem b) :: hangP [(σ.mem b).nm] gs) gs w) := by
 obtain ⟨hatl, hatb⟩ := List.getElem?_eq_some_iff.1 hat
 have hfl : σ.fs.length = σ.ord.length := by simp [Sta.fs]
 have hatF : at_ < σ.fs.length := by omega
 have hfsat : σ.fs[at_] = (b, σ.mem b) := by simp [Sta.fs, hatb]
 have hu : ∀ i (h : i < σ.fs.length), i < at_ → (σ.fs[i]).1 ≠ b := fun i hi hlt => by
  have := List.pairwise_iff_getElem.1 hnd i at_ (by omega) hatl hlt
  simpa [Sta.fs, ← hatb] using this
 have hgsub := (mendF_facts σ.fs gs at_ (b, σ.mem b) hatF hfsat hmd).2
 have hgl : gs.length ≤ 100 := by rw [(mendF_facts σ.fs gs at_ (b, σ.mem b) hatF hfsat hmd).1, hfl]; exact hl
 have hgne : gs ≠ [] := fun h0 => by rw [h0] at hfm; simp at hfm
 have hel : e < w.heap.size := h.lt
 have hDb : D b := h.sub b (hatb ▸ List.getElem_mem hatl)
 obtain ⟨a, c, hsh, hcc, hac, hrow⟩ := h.sh
 obtain ⟨⟨e0, e1, e2, e3, e4, e5⟩, ⟨z0, z1, z2, z3, z4, z5⟩, _⟩ := row6 hrow
 have HM := tZ ((mendedAny a c at_ σ.fs (b, σ.mem b) w hsh (by omega) hatF hfsat hcc hu).mono (R' := fun r w1 => ∃ a2 c2, r = .returned (.tuple #[.slice a2 gs.length c2, .slice none 0 0]) ∧ Hid (OrdAt S w w1 a2 c2 gs) ∧ Below w.heap.size w w1) (by
  rintro r w1 ⟨hb, h⟩
  rw [hmd] at h
  obtain ⟨a2, c2, h1, h2⟩ := h
  exact ⟨a2, c2, h1, h2, hb⟩))
 obtain ⟨i1, gi, gz0, gz1, gz2⟩ := info_parts infoPtr
 have HPH := tZ h
 have HBK := tZ hbk
 have HFM := tZ hfm
 have HGS := tZ hgsub
 clear hsh hrow h hbk hu hmd hat hatb hatl hatF hfsat hnd hfm hgsub hfl hcc hac
 go_enter Tryz.func73, Tryz.ntmps73
 go_wp2_with (first | (go_at_call 93; refine HM.out.mono ?_; rintro r w1 ⟨a2, c2, rfl, hord, hb1⟩; refine Hid.out ?_))
 obtain ⟨S3, s0, s1, hp1, hr1, hc1, hn1, hD1⟩ := HPH.out.withOrd hb1 hord.out hgne HGS.out
 rw [List.length_map] at hc1
 have HP1 := tZ (show Calls Tryz.prog 75 #[.pointer (some ⟨e, 0, none⟩), .slice a2 gs.length c2] w1 (BkPost S3 e D σ [.ord (gs.map Prod.fst)] v1 v2 v3 v4 v5 te w1) from by
  have := putOrd hp1 (gs.map Prod.fst) a2 c2 hD1 hr1 (by simpa using hc1) hn1
  rwa [List.length_map] at this)
 have HB1 := tZ hb1
 have HS0 := tZ s0
 have HS1 := tZ s1
 have HPP := tZ hp1
 clear hb1 hord HM hp1 hr1 hn1 hD1 s0 s1
 refine tZ ?_
 go_wp2_with (first | (go_at_call 75; refine HP1.out.mono ?_; rintro r w2 ⟨N1, cs1, S4, rfl, hrest⟩; refine Hid.out ?_))
 obtain ⟨t0, t1, hp2, hbk2, hk2⟩ := hrest
 have hσ2 : runW (ws0 ++ [.ord (gs.map Prod.fst)]) σ0 = ⟨gs.map Prod.fst, σ.mem⟩ := by rw [runW_app, hσ]; rfl
 have hfs2 : (⟨gs.map Prod.fst, σ.mem⟩ : Sta).fs = gs := ord_fs σ gs HGS.out
 have hk02 : Ks (fun q => q = e ∨ D q) w w2 := (Ks.of HB1.out).trans hk2
 have HA1 := tZ (show Calls Tryz.prog 31 #[.slice (some ⟨w2.heap.size, 0, none⟩) 2 2] (w2.alloc (.cells #[.func (.func N0) #[] cs0, .func (.func N1) #[] cs1] 84)) (BkPost S e D σ0 (ws0 ++ [.ord (gs.map Prod.fst)]) v1 v2 v3 v4 v5 te w) from by
  have hbu := built2 (S := S) (O := fun q => w.heap.size ≤ q) (w := w) (W := w2) (N1 := N0) (cs1 := cs0) (fun q hq => Nat.le_trans hk02.size hq) (ws1 := ws0) (ws2 := [.ord (gs.map Prod.fst)]) (σ := σ0) (by rw [hσ2]; exact hp2) (fun q hq => t0 q (HS0.out q hq)) (fun q hq => ?_) (((HBK.out.next (HPH.out.still |> fun hs q hq => (hk02.block q (hs q hq) (HPH.out.notP q hq)))).wide (fun q hq => t0 q (HS0.out q hq)) fun _ h => h)) (by rw [hσ]; exact hbk2) hk02
  ·exact (hbu.all (by omega) (fun q hq => by have := hk02.size; simp at hq; show w.heap.size ≤ q; omega)).mono fun _ _ h => h.1
  ·rcases t1 q hq with h1 | ⟨h1, c, t, z, h2⟩
   ·rcases HS1.out q h1 with h3 | ⟨h3, c, t, z, h4⟩
    ·exact Or.inl h3
    ·exact Or.inr ⟨h3, c, t, z, hk2.cells h4 (HPP.out.notP q h1)⟩
   ·exact Or.inr ⟨Nat.le_trans HB1.out.size h1, c, t, z, h2⟩)
 obtain ⟨a3, c3, _, _, _, hrow2⟩ := hp2.sh
 obtain ⟨⟨h0, h1, h2, h3, h4, h5⟩, ⟨y0, y1, y2, y3, y4, y5⟩, hel2⟩ := row6 hrow2
 have hFb2 := hp2.fld b hDb
 obtain ⟨_, _, _, _, fa, fl, fc, hFr, _⟩ := hFb2
 obtain ⟨⟨j0, _⟩, _, hFl2⟩ := row7 hFr
 have HFR := tZ hFr
 have HRW2 := tZ hrow2
 have HK02 := tZ hk02
 clear hFr hrow2 hp2 hbk2 hk2 t0 t1 HP1 e0 e1 e2 e3 e4 e5 z0 z1 z2 z3 z4 z5 hk02
 refine tZ ?_
 go_wp2_with (first | (go_at_call 31; refine HA1.out.mono ?_; rintro r w3 ⟨N3, cs3, S5, rfl, hrest⟩; refine Hid.out ?_))
 obtain ⟨u0, u1, hp3, hbk3, hk3⟩ := hrest
 have hp3' : PhS w3 S5 e D ⟨gs.map Prod.fst, σ.mem⟩ v1 v2 v3 v4 v5 te := by rw [hσ2] at hp3; exact hp3
 obtain ⟨a3, c3, hSh3, hcc3, hac3, hrow3⟩ := hp3'.sh
 rw [hfs2] at hSh3 hrow3
 obtain ⟨⟨h0, h1, h2, h3, h4, h5⟩, ⟨y0, y1, y2, y3, y4, y5⟩, hel3⟩ := row6 hrow3
 obtain ⟨fa, fl, fc, hFr3, _⟩ := (hp3'.fld b hDb).open
 obtain ⟨⟨j0, _⟩, _, hFl3⟩ := row7 hFr3
 have HH := tZ (fun W (hb : Below w3.heap.size w3 W) => hanging137 (σ.mem b).nm e c3 a3 gs W (hSh3.next hb) ((hb.cell (p := ⟨e, 0, none⟩) hel3).trans h0) (Nat.lt_of_lt_of_le hel3 hb.size) (by omega))
 have HP3 := tZ hp3'
 have HSH3 := tZ hSh3
 have HU0 := tZ u0
 have HU1 := tZ u1
 have HBK3 := tZ hbk3
 have HK3 := tZ hk3
 clear hp3 hp3' hbk3 hk3 u0 u1 hrow3 hFr3 hSh3 HA1
 refine tZ ?_
 have HL := tZ (show (w3.alloc (.cells #[.pointer (some ⟨b, 0, none⟩)] 116)).ownsRow w3.heap.size 116 1 (.slice (some ⟨w3.heap.size, 0, none⟩) 1 1) 1 (ptrs [(b, σ.mem b)]) from World.ownsRow_lit (base := w3.heap.size) (e := 116) (size := 1) w3 #[.pointer (some ⟨b, 0, none⟩)] 1 (Nat.le_refl _) (by unfold maxLen; omega) rfl)
 have hkl := hangP_len [(σ.mem b).nm] gs
 go_wp2_with (first | (go_at_call 78; refine (HH.out _ (bZ _)).mono ?_; rintro r w4 ⟨vh, rfl, hownh, hb4⟩; refine Hid.out ?_))
 have HB4 := tZ (show Below w3.heap.size w3 w4 from (bZ _).trans (hb4.mono (by simp)))
 have HL4 := tZ (own_below HL.out hb4)
 have HOH := tZ hownh
 have hs4 := HB4.out.size
 have hnil := hownh.2
 clear hb4 HL HH hownh
 refine tZ ?_
 have HFIN := tZ (show ∀ (v5' : Value) (w5 : World), w5.ownsRow w3.heap.size 116 1 v5' (1 + (hangP [(σ.mem b).nm] gs).length) (ptrs [(b, σ.mem b)] ++ ptrs (hangP [(σ.mem b).nm] gs)) → Below w3.heap.size w3 w5 →
   (∀ W (hW : Below w5.heap.size w5 W), Calls Tryz.prog 66 #[v5'] W fun r w' => ∃ an cn, r = .returned (.slice an ((b, σ.mem b) :: hangP [(σ.mem b).nm] gs).length cn) ∧ w'.ownsRow W.heap.size 9 1 (.slice an ((b, σ.mem b) :: hangP [(σ.mem b).nm] gs).length cn) ((b, σ.mem b) :: hangP [(σ.mem b).nm] gs).length (strs (nmsF ((b, σ.mem b) :: hangP [(σ.mem b).nm] gs))) ∧ Below W.heap.size W w') ∧
   (∀ (an : Option Addr) (cn : Nat) W (hW : Below w5.heap.size w5 W), W.ownsRow w5.heap.size 9 1 (.slice an ((b, σ.mem b) :: hangP [(σ.mem b).nm] gs).length cn) ((b, σ.mem b) :: hangP [(σ.mem b).nm] gs).length (strs (nmsF ((b, σ.mem b) :: hangP [(σ.mem b).nm] gs))) → Calls Tryz.prog 79 #[.pointer (some ⟨e, 0, none⟩), v5'] W fun r w7 => ∃ N7 cs7, r = .returned (.func (.func N7) #[] cs7) ∧ Hid (Calls Tryz.prog 31 #[.slice (some ⟨w7.heap.size, 0, none⟩) 2 2] (w7.alloc (.cells #[.func (.func N3) #[] cs3, .func (.func N7) #[] cs7] 84)) fun r w8 => ∃ N8 cs8, r = .returned (.func (.func N8) #[] cs8) ∧ StOk S e D σ0 ws0 v1 v2 v3 v4 v5 te ((b, σ.mem b) :: hangP [(σ.mem b).nm] gs) gs w (.returned (.tuple #[.slice an ((b, σ.mem b) :: hangP [(σ.mem b).nm] gs).length cn, .func (.func N8) #[] cs8, .int .i64 0])) w8)) from fun v5' w5 hown5 hb5 => by
  have hlen : 1 + (hangP [(σ.mem b).nm] gs).length = ((b, σ.mem b) :: hangP [(σ.mem b).nm] gs).length := by simp; omega
  have hp5 : ptrs [(b, σ.mem b)] ++ ptrs (hangP [(σ.mem b).nm] gs) = ptrs ((b, σ.mem b) :: hangP [(σ.mem b).nm] gs) := by simp [ptrs]
  rw [hlen, hp5] at hown5
  obtain ⟨g5, cap5, rfl, hg5, hg5l⟩ := hown5.form (by simp)
  have hsub : ∀ x, x ∈ (b, σ.mem b) :: hangP [(σ.mem b).nm] gs → x ∈ gs := fun x hx => by
   rcases List.mem_cons.1 hx with rfl | h
   ·exact HFM.out
   ·exact hangP_sub _ _ x h
  have hfl3 : ∀ x, x ∈ gs → x.1 < w3.heap.size := fun x hx => (HSH3.out.fld x hx).lt
  have hks : ((b, σ.mem b) :: hangP [(σ.mem b).nm] gs).length ≤ 500 := by simp; omega
  generalize hhs : (b, σ.mem b) :: hangP [(σ.mem b).nm] gs = hs at *
  refine ⟨fun W hW => (names107 _ _ _ W (((HSH3.out.next hb5).ofOwn hsub hown5 hfl3).next hW) (by omega)).mono (by
   rintro r w' ⟨v, rfl, h1, h2⟩
   obtain ⟨an, cn, rfl⟩ := own_len h1
   exact ⟨an, cn, rfl, h1, h2⟩), fun an cn W hW hnm => ?_⟩
  have hb3W : Below w3.heap.size w3 W := hb5.trans (hW.mono hb5.size)
  have hDk : ∀ x, x ∈ hs → D x.1 := fun x hx => by
   obtain ⟨q, hq', e'⟩ := List.mem_map.1 (HGS.out x (hsub x hx))
   rw [← e']
   exact HPH.out.sub q hq'
  have hwo := workOutS (w := W) (S := S5) (e := e) (D := D) (σ := ⟨gs.map Prod.fst, σ.mem⟩) (v1 := v1) (v2 := v2) (v3 := v3) (v4 := v4) (v5 := v5) (te := te) cap5 (some ⟨g5, 0, none⟩) (hs.map fun x => x.1) (HP3.out.next hb3W) (by simp; omega) (by simp; omega) (fun j hj => by
   have hj' : j < hs.length := by simpa using hj
   refine ⟨by simpa using hDk _ (List.getElem_mem hj'), g5, 0, rfl, Nat.lt_of_lt_of_le hg5l hW.size, by omega, fun hD => ?_, ?_⟩
   ·have := (HP3.out.fld g5 hD).lt; omega
   ·rw [hW.cell (p := ⟨g5, 0 + j, none⟩) hg5l, Nat.zero_add, hown5.cellAt j (by omega)]
    unfold ptrs
    rw [List.getElem?_map, List.getElem?_eq_getElem hj']
    simp)
  rw [List.length_map] at hwo
  refine hwo.mono ?_
  rintro r w7 ⟨N7, cs7, S7, rfl, m0, m1, hp7, hbk7, hk7⟩
  refine ⟨N7, cs7, rfl, ?_⟩
  have hk07 : Ks (fun q => q = e ∨ D q) w w7 := (HK3.out.trans (Ks.of hb3W)).trans hk7
  have hnmW : ∀ q, (Value.slice an hs.length cn).ownBlock = some q → w5.heap.size ≤ q ∧ q < W.heap.size := fun q hq => hnm.lt q hq
  have hs35 := hb5.size
  have hs5W := hW.size
  have hsW7 := hk7.size
  have hw3 := HK3.out.size
  have hnm7 : w7.ownsRow w5.heap.size 9 1 (.slice an hs.length cn) hs.length (strs (nmsF hs)) := own_ke hnm hk7 fun q hq h1 => by
   have := (hnmW q hq).1
   rcases h1 with h1 | h1
   ·omega
   ·have := (HP3.out.fld q h1).lt; omega
  have hσ7 : runW (ws0 ++ [.ord (gs.map Prod.fst)] ++ workS ⟨gs.map Prod.fst, σ.mem⟩ (hs.map fun x => x.1)) σ0 = runW (workS ⟨gs.map Prod.fst, σ.mem⟩ (hs.map fun x => x.1)) ⟨gs.map Prod.fst, σ.mem⟩ := by rw [runW_app, hσ2]
  have hbu := built2 (S := S) (O := fun q => w.heap.size ≤ q ∧ (Value.slice an hs.length cn).ownBlock ≠ some q) (w := w) (W := w7) (N1 := N3) (cs1 := cs3) (N2 := N7) (cs2 := cs7) (fun q hq => ⟨by omega, fun h1 => by have := (hnmW q h1).2; omega⟩) (ws1 := ws0 ++ [.ord (gs.map Prod.fst)]) (ws2 := workS ⟨gs.map Prod.fst, σ.mem⟩ (hs.map fun x => x.1)) (σ := σ0) (S1 := S7) (by rw [hσ7]; exact hp7) (fun q hq => m0 q (HU0.out q hq)) (fun q hq => ?_) ((HBK3.out.next (fun q hq => (hk7.block q (Nat.lt_of_lt_of_le (HP3.out.still q hq) hb3W.size) (HP3.out.notP q hq)).trans (hb3W.block q (HP3.out.still q hq)))).wide m0 fun _ h => h) (by rw [hσ2]; exact hbk7) hk07
  ·refine (hbu.all (by omega) (fun q hq => ⟨by simp at hq; omega, fun h1 => by have := (hnmW q h1).2; simp at hq; omega⟩)).mono ?_
   rintro r w8 ⟨⟨N8, cs8, S8, rfl, p0, p1, hp8, hbk8, hk8⟩, hb8⟩
   refine ⟨N8, cs8, rfl, an, cn, N8, cs8, S8, [.ord (gs.map Prod.fst)] ++ workS ⟨gs.map Prod.fst, σ.mem⟩ (hs.map fun x => x.1), rfl, ?_, fun q hq hS8 => ?_, p0, fun q hq => (p1 q hq).imp id fun h => ⟨h.1.1, h.2⟩, by rw [← List.append_assoc]; exact hp8, by rw [← List.append_assoc]; exact hbk8, hk8, ?_⟩
   ·exact own_base (own_below (own_below hnm7 (bZ _)) hb8) (by omega)
   ·rcases p1 q hS8 with h1 | h1
    ·have := HPH.out.still q h1
     have := (hnmW q hq).1
     omega
    ·exact h1.1.2 hq
   ·rw [← List.append_assoc, hσ7, workS_fs, hfs2]
    intro q hq
    obtain ⟨x, hx, rfl⟩ := List.mem_map.1 hq
    exact List.mem_map_of_mem (hsub x hx)
  ·rcases m1 q hq with h1 | ⟨h1, c, t, z, h2⟩
   ·rcases HU1.out q h1 with h3 | ⟨h3, c, t, z, h4⟩
    ·exact Or.inl h3
    ·refine Or.inr ⟨⟨h3, fun h5 => ?_⟩, c, t, z, hk7.cells ((hb3W.block q (HP3.out.still q h1)).trans h4) (HP3.out.notP q h1)⟩
     have := HP3.out.still q h1
     have := (hnmW q h5).1
     omega
   ·refine Or.inr ⟨⟨by omega, fun h5 => ?_⟩, c, t, z, h2⟩
    have := (hnmW q h5).2
    omega)
 rcases hnil with ⟨rfl, hk0⟩ | ⟨gh, caph, curh, rfl, hgh, hgh2, _⟩
 ·go_wp2_with (first | (at_builtin; refine wpList_append_own_none rfl (.tmp 38) (.tmp 44) 58 rfl w3.heap.size 116 i1 1 Tryz.underlying58 gi (.slice (some ⟨w3.heap.size, 0, none⟩) 1 1) 1 (ptrs [(b, σ.mem b)]) rfl HL4.out rfl ?_; refine Hid.out ?_))
  obtain ⟨hn5, hw5⟩ := HFIN.out (.slice (some ⟨w3.heap.size, 0, none⟩) 1 1) w4 (by
   rw [hk0, Nat.add_zero, List.eq_nil_of_length_eq_zero hk0, show ptrs ([] : List (Nat × Fd)) = [] from rfl, List.append_nil]
   exact HL4.out) HB4.out
  have HN := tZ hn5
  have HWO := tZ hw5
  clear hn5 hw5 HFIN HL4 HOH hk0
  refine tZ ?_
  go_wp2_with (first | (go_at_call 66; refine (HN.out _ (Below.refl _ _)).mono ?_; rintro r w6 ⟨an, cn, rfl, hownn, hb6⟩; have HON := tZ hownn; have HB6 := tZ hb6; clear hownn hb6) | (go_at_call 79; refine (HWO.out an cn _ HB6.out HON.out).mono ?_; rintro r w7 ⟨N7, cs7, rfl, HAL⟩) | (go_at_call 31; refine HAL.out.mono ?_; rintro r w8 ⟨N8, cs8, rfl, hst⟩; have HST := tZ hst; clear hst))
  go_ret3
  exact HST.out
 ·go_wp2_with (first | (at_builtin; refine wpList_append_own _ rfl (.tmp 38) (.tmp 44) 58 rfl w3.heap.size 116 i1 (.pointer none) 1 8 Tryz.underlying58 gi gz0 gz1 gz2 rfl (by decide) (.slice (some ⟨w3.heap.size, 0, none⟩) 1 1) 1 (ptrs [(b, σ.mem b)]) rfl HL4.out ⟨gh, 0, none⟩ (hangP [(σ.mem b).nm] gs).length caph (ptrs (hangP [(σ.mem b).nm] gs)) rfl (by simp [ptrs]) (fun q u hq => HOH.out.cells rfl q u hq) (fun u hu => by simp [ptrs] at hu; obtain ⟨a, b, _, rfl⟩ := hu; rfl) (by unfold maxLen; omega) (by omega) hs4 ?_; intro v5' w5 hown5 hgrow5 _; refine Hid.out ?_))
  have HB5 := tZ (HB4.out.grown hgrow5 hs4 (fun q hq => (HL4.out.lt q hq).1))
  obtain ⟨hn5, hw5⟩ := HFIN.out v5' w5 hown5 HB5.out
  have HN := tZ hn5
  have HWO := tZ hw5
  clear hn5 hw5 hown5 hgrow5 HFIN HL4 HOH
  refine tZ ?_
  go_wp2_with (first | (go_at_call 66; refine (HN.out _ (Below.refl _ _)).mono ?_; rintro r w6 ⟨an, cn, rfl, hownn, hb6⟩; have HON := tZ hownn; have HB6 := tZ hb6; clear hownn hb6) | (go_at_call 79; refine (HWO.out an cn _ HB6.out HON.out).mono ?_; rintro r w7 ⟨N7, cs7, rfl, HAL⟩) | (go_at_call 31; refine HAL.out.mono ?_; rintro r w8 ⟨N8, cs8, rfl, hst⟩; have HST := tZ hst; clear hst))
  go_ret3
  exact HST.out
end
section
variable {S S1 O : Nat → Prop} {e : Nat} {D : Nat → Prop} {σ σ0 : Sta} {v1 v2 v3 v4 v5 : Value} {te : TypeId} {w W W1 W2 : World} {ws0 us : List Wr} {b N : Nat} {cs : Array Value}
theorem bk_call (h : BkAt e D w S N cs us) : ∀ (W : World) (S1 : Nat → Prop) (σ : Sta), (∀ q, S q → S1 q ∧ W.heap[q]? = w.heap[q]?) → PhS W S1 e D σ v1 v2 v3 v4 v5 te → Calls Tryz.prog N cs W (BkPost S1 e D σ us v1 v2 v3 v4 v5 te W) := by
 induction h with
 | ord g1 g2 a c l h1 h2 h3 h4 h5 h6 h7 h8 =>
  intro W S1 σ hS hp
  exact bkOrd hp g1 g2 l a c ((hS _ h1).2.trans h3) ((hS _ h2).2.trans h4) h8 ((h5.next fun q hq => (hS q hq).2).wide fun q hq => (hS q hq).1) h6 h7
 | nm g1 g2 b x h1 h2 h3 h4 h5 =>
  intro W S1 σ hS hp
  exact bkNm hp g1 g2 x ((hS _ h1).2.trans h3) ((hS _ h2).2.trans h4) h5
 | rl g1 g2 b p a l c h1 h2 h3 h4 h5 h6 h7 h8 h9 =>
  intro W S1 σ hS hp
  exact bkRl hp g1 g2 p a l c ((hS _ h1).2.trans h3) ((hS _ h2).2.trans h4) h9 ((h5.next fun q hq => (hS q hq).2).wide fun q hq => (hS q hq).1) h6 h7 h8
 | vl g1 g2 b v h1 h2 h3 h4 h5 =>
  intro W S1 σ hS hp
  exact bkVl hp g1 g2 v ((hS _ h1).2.trans h3) ((hS _ h2).2.trans h4) h5
 | all g a n c N cs us h1 h2 h3 h4 h5 h6 h7 ih =>
  intro W S1 σ hS hp
  refine bkAll hp g a n c (hS _ h1).1 ((hS _ h1).2.trans h2) (h4.imp id fun ⟨h, o, e1, e2⟩ => ⟨h, o, e1, (hS h e2).1⟩) (by unfold maxLen; omega) h5 (fun i hi h o e' => ?_) (fun i hi => (h7 i hi).enters) fun i hi W' S2 σ1 hS2 hp2 => ih i hi W' S2 σ1 (fun q hq => ⟨(hS2 q (hS q hq).1).1, (hS2 q (hS q hq).1).2.trans (hS q hq).2⟩) hp2
  rcases h4 with h4 | ⟨g', o', h4, h4'⟩
  ·omega
  ·rw [e'] at h4
   cases h4
   exact (World.cell?_of_block (a := ⟨h, o + i, none⟩) (hS h h4').2).trans (h6 i hi h o e')
def StCirc (S : Nat → Prop) (e : Nat) (D : Nat → Prop) (σ0 : Sta) (v1 v2 v3 v4 v5 : Value) (te : TypeId) (ch : List (Nat × Fd)) (w : World) (r : Ending) (w' : World) : Prop :=
 ∃ (an : Option Addr) (cn : Nat) (S' : Nat → Prop), r = .returned (.tuple #[.slice an ch.length cn, .nilFunc, .int .i64 8]) ∧ w'.ownsRow w.heap.size 9 1 (.slice an ch.length cn) ch.length (strs (nmsF ch)) ∧ (∀ q, (Value.slice an ch.length cn).ownBlock = some q → ¬ S' q) ∧
  (∀ q, S q → S' q) ∧ (∀ q, S' q → S q ∨ (w.heap.size ≤ q ∧ ∃ c t z, w'.heap[q]? = some (.cells c t z))) ∧ PhS w' S' e D σ0 v1 v2 v3 v4 v5 te ∧ Ks (fun q => q = e ∨ D q) w w'
theorem settleCircS (at_ N0 : Nat) (cs0 : Array Value) (ch : List (Nat × Fd)) (h : PhS w S e D σ v1 v2 v3 v4 v5 te) (hσ : runW ws0 σ0 = σ) (hbk : BkAt e D w S N0 cs0 (invW ws0 σ0)) (hl : σ.ord.length ≤ 100) (hat : σ.ord[at_]? = some b) (hnd : σ.ord.Nodup) (hmd : mendF σ.fs at_ (b, σ.mem b) = .circ ch) (hch : ch.length ≤ 100) :
  Calls Tryz.prog 73 #[.pointer (some ⟨e, 0, none⟩), .pointer (some ⟨b, 0, none⟩), .func (.func N0) #[] cs0] w (StCirc S e D σ0 v1 v2 v3 v4 v5 te ch w) := by
 obtain ⟨hatl, hatb⟩ := List.getElem?_eq_some_iff.1 hat
 have hfl : σ.fs.length = σ.ord.length := by simp [Sta.fs]
 have hatF : at_ < σ.fs.length := by omega
 have hfsat : σ.fs[at_] = (b, σ.mem b) := by simp [Sta.fs, hatb]
 have hu : ∀ i (h : i < σ.fs.length), i < at_ → (σ.fs[i]).1 ≠ b := fun i hi hlt => by
  have := List.pairwise_iff_getElem.1 hnd i at_ (by omega) hatl hlt
  simpa [Sta.fs, ← hatb] using this
 have hel : e < w.heap.size := h.lt
 obtain ⟨a, c, hsh, hcc, hac, hrow⟩ := h.sh
 obtain ⟨⟨e0, e1, e2, e3, e4, e5⟩, ⟨z0, z1, z2, z3, z4, z5⟩, _⟩ := row6 hrow
 obtain ⟨hcsub, hcne⟩ := mendF_circ σ.fs ch at_ (b, σ.mem b) hatF hfsat hmd
 have hfl' : ∀ x, x ∈ σ.fs → x.1 < w.heap.size := fun x hx => (hsh.fld x hx).lt
 have HM := tZ ((mendedAny a c at_ σ.fs (b, σ.mem b) w hsh (by omega) hatF hfsat hcc hu).mono (R' := fun r w1 => ∃ g2 c2, r = .returned (.tuple #[.slice none 0 0, .slice (some ⟨g2, 0, none⟩) ch.length c2]) ∧ Hid (w1.ownsRow w.heap.size 116 1 (.slice (some ⟨g2, 0, none⟩) ch.length c2) ch.length (ptrs ch)) ∧ Below w.heap.size w w1) (by
  rintro r w1 ⟨hb, h⟩
  rw [hmd] at h
  obtain ⟨v, h1, h2⟩ := h
  obtain ⟨g2, c2, rfl, _, _⟩ := h2.form (by have := List.length_pos_iff.2 hcne; omega)
  exact ⟨g2, c2, h1, h2, hb⟩))
 have heg := hbk.enters
 have HS := tZ hsh
 have HPH := tZ h
 have HBK := tZ hbk
 clear hsh hrow h hbk hu hmd hat hatb hatl hatF hfsat hnd hfl hcc hac
 go_enter Tryz.func73, Tryz.ntmps73
 go_wp2_with (first | (go_at_call 93; refine HM.out.mono ?_; rintro r w1 ⟨g2, c2, rfl, hown, hb1⟩; refine Hid.out ?_))
 have HB1 := tZ hb1
 have HN := tZ (names107 _ c2 _ w1 ((HS.out.next hb1).ofOwn hcsub hown.out hfl') (by omega))
 clear hb1 HM
 refine tZ ?_
 go_wp2_with (first | (go_at_call 66; refine HN.out.mono ?_; rintro r w2 ⟨vn, rfl, hownn, hb2⟩; refine Hid.out ?_))
 have hB2 : Below w.heap.size w w2 := HB1.out.trans (hb2.mono HB1.out.size)
 have HB2 := tZ hB2
 have HC := tZ (bk_call HBK.out w2 S σ (fun q hq => ⟨hq, hB2.block q (HPH.out.still q hq)⟩) (HPH.out.next hB2))
 have HON := tZ (own_base hownn HB1.out.size)
 obtain ⟨an, cn, rfl⟩ := own_len hownn
 clear hb2 hownn HN hB2
 refine tZ ?_
 go_wp2_with (first | (go_at_fn N0; refine HC.out.mono ?_; rintro r w3 ⟨fv, cs', S', rfl, hq⟩; refine Hid.out ?_))
 have HQ := tZ hq
 clear hq HC
 refine tZ ?_
 go_wp2
 refine bodyPost_ret (v := .tuple #[.slice an ch.length cn, .nilFunc, .int .i64 8]) (by simp [results, Tryz.results73, go_sem]) (by simp [go_sem]) ?_
 obtain ⟨p0, p1, hp, _, hk⟩ := HQ.out
 have hob := fun q hq => HON.out.lt q hq
 have hsz := HB2.out.size
 refine ⟨an, cn, S', rfl, own_ke HON.out hk ?_, fun q hq h1 => ?_, p0, fun q hq => (p1 q hq).imp id fun h => ⟨Nat.le_trans hsz h.1, h.2⟩, ?_, (Ks.of HB2.out).trans hk⟩
 ·intro q hq h1
  have := (hob q hq).1
  rcases h1 with h1 | h1
  ·omega
  ·have := (HPH.out.fld q h1).lt; omega
 ·rcases p1 q h1 with h2 | h2
  ·have := HPH.out.still q h2
   have := (hob q hq).1
   omega
  ·have := (hob q hq).2
   have := h2.1
   omega
 ·rw [← hσ, run_inv] at hp
  exact hp
end
section
def reB (φ : Nat → Nat) (g : Nat × Fd) : Nat × Fd := (φ g.1, g.2)
def BhR.re (φ : Nat → Nat) : BhR → BhR
 | .ok st mv => .ok (st.map (reB φ)) (mv.map (reB φ))
 | .circ ch => .circ (ch.map (reB φ))
def MdR.re (φ : Nat → Nat) : MdR → MdR
 | .ok gs => .ok (gs.map (reB φ))
 | .circ ch => .circ (ch.map (reB φ))
theorem lkQ_re (φ : Nat → Nat) (g : Nat × Fd) (ch : List (Nat × Fd)) : lkQ (reB φ g) (ch.map (reB φ)) = lkQ g ch := by
 cases ch <;> rfl
theorem linkQ_re (φ : Nat → Nat) (g f : Nat × Fd) (ls : List (List (Nat × Fd))) (h : φ g.1 = φ f.1 → g.1 = f.1) : linkQ (reB φ g) (reB φ f) (ls.map (List.map (reB φ))) = (linkQ g f ls).map (List.map (reB φ)) := by
 unfold linkQ
 by_cases e : g.1 = f.1
 ·have : (reB φ g).1 = (reB φ f).1 := congrArg φ e
  rw [if_pos e, if_pos this]
  rfl
 ·have : ¬ (reB φ g).1 = (reB φ f).1 := fun h' => e (h h')
  rw [if_neg e, if_neg this, List.find?_map]
  have : (lkQ (reB φ g) ∘ List.map (reB φ)) = lkQ g := by
   funext ch
   exact lkQ_re φ g ch
  rw [this]
  cases ls.find? (lkQ g) <;> rfl
theorem behP_re (φ : Nat → Nat) (f : Nat × Fd) : ∀ (gs st mv : List (Nat × Fd)) (ls : List (List (Nat × Fd))), (∀ g, g ∈ gs → φ g.1 = φ f.1 → g.1 = f.1) → behP (reB φ f) (gs.map (reB φ)) (st.map (reB φ)) (mv.map (reB φ)) (ls.map (List.map (reB φ))) = (behP f gs st mv ls).re φ
 | [], st, mv, ls, _ => rfl
 | g :: r, st, mv, ls, h => by
  have hr : ∀ x, x ∈ r → φ x.1 = φ f.1 → x.1 = f.1 := fun x hx => h x (by simp [hx])
  simp only [List.map_cons, behP]
  rw [linkQ_re φ g f ls (h g (by simp))]
  cases linkQ g f ls with
  | none =>
   have := behP_re φ f r (st ++ [g]) mv ls hr
   simpa using this
  | some ch =>
   simp only [Option.map_some]
   by_cases hm : mentP g.2.nm f.2.p = true
   ·have : mentP (reB φ g).2.nm (reB φ f).2.p = true := hm
    rw [if_pos hm, if_pos this]
    rfl
   ·have : ¬ mentP (reB φ g).2.nm (reB φ f).2.p = true := hm
    rw [if_neg hm, if_neg this]
    have := behP_re φ f r st (mv ++ [g]) (ls ++ [ch]) hr
    simpa using this
theorem catP_re (φ : Nat → Nat) (ls : List (List (Nat × Fd))) : catP (ls.map (List.map (reB φ))) = (catP ls).map (reB φ) := by
 induction ls with
 | nil => rfl
 | cons a r ih => simp only [List.map_cons, catP, ih, List.map_append]
theorem fstM_re (φ : Nat → Nat) (x : By) : ∀ fs, fstM x (fs.map (reB φ)) = fstM x fs
 | [] => rfl
 | g :: r => by
  simp only [List.map_cons, fstM, fstM_re φ x r]
  rfl
theorem lstM_re (φ : Nat → Nat) (p : Pt) : ∀ fs, lstM p (fs.map (reB φ)) = lstM p fs
 | [] => rfl
 | g :: r => by
  simp only [List.map_cons, lstM, lstM_re φ p r]
  rfl
theorem aheadP_re (φ : Nat → Nat) (fs : List (Nat × Fd)) (at_ j : Nat) : aheadP (fs.map (reB φ)) at_ j = (aheadP fs at_ j).map (reB φ) := by
 unfold aheadP
 rw [← catP_re]
 simp [List.map_take, List.map_drop]
theorem aheadF_re (φ : Nat → Nat) (fs : List (Nat × Fd)) (at_ : Nat) (f : Nat × Fd) : aheadF (fs.map (reB φ)) at_ (reB φ f) = ((aheadF fs at_ f).1.map (reB φ), (aheadF fs at_ f).2) := by
 unfold aheadF
 have : fstM (reB φ f).2.nm ((fs.map (reB φ)).take at_) = fstM f.2.nm (fs.take at_) := by
  rw [← List.map_take]
  exact fstM_re φ _ _
 rw [this]
 cases fstM f.2.nm (fs.take at_) with
 | none => rfl
 | some j => simp only [aheadP_re]
theorem catP_mem {ls : List (List (Nat × Fd))} {x : Nat × Fd} (h : x ∈ catP ls) : ∃ l, l ∈ ls ∧ x ∈ l := by
 induction ls with
 | nil => simp [catP] at h
 | cons a r ih =>
  rcases List.mem_append.1 h with h | h
  ·exact ⟨a, by simp, h⟩
  ·obtain ⟨l, h1, h2⟩ := ih h
   exact ⟨l, by simp [h1], h2⟩
theorem aheadF_mem (fs : List (Nat × Fd)) (at_ : Nat) (f : Nat × Fd) : ∀ x, x ∈ (aheadF fs at_ f).1 → x ∈ fs := by
 unfold aheadF
 cases fstM f.2.nm (fs.take at_) with
 | none => exact fun x hx => hx
 | some j =>
  intro x hx
  obtain ⟨l, h1, h2⟩ := catP_mem hx
  simp at h1
  rcases h1 with rfl | rfl | rfl | rfl
  ·exact List.mem_of_mem_take h2
  ·exact List.mem_of_mem_drop (List.mem_of_mem_take h2)
  ·exact List.mem_of_mem_drop (List.mem_of_mem_take h2)
  ·exact List.mem_of_mem_drop h2
theorem mendF_re (φ : Nat → Nat) (fs : List (Nat × Fd)) (at_ : Nat) (f : Nat × Fd) (h : ∀ g, g ∈ fs → φ g.1 = φ f.1 → g.1 = f.1) : mendF (fs.map (reB φ)) at_ (reB φ f) = (mendF fs at_ f).re φ := by
 unfold mendF
 rw [aheadF_re]
 have hm := aheadF_mem fs at_ f
 generalize (aheadF fs at_ f).1 = f1 at *
 generalize (aheadF fs at_ f).2 = a1 at *
 unfold behindF
 have hL : lstM (reB φ f).2.p (f1.map (reB φ)) = lstM f.2.p f1 := lstM_re φ _ _
 rw [hL]
 cases lstM f.2.p f1 with
 | none => rfl
 | some l =>
  simp only
  by_cases hl : l < a1
  ·rw [if_pos hl, if_pos hl]
   rfl
  ·rw [if_neg hl, if_neg hl]
   have hb := behP_re φ f ((f1.drop a1).take (l + 1 - a1)) [] [] [] fun g hg => h g (hm g (List.mem_of_mem_drop (List.mem_of_mem_take hg)))
   simp only [List.map_nil, List.map_take, List.map_drop] at hb
   rw [hb]
   cases behP f ((f1.drop a1).take (l + 1 - a1)) [] [] [] with
   | ok st mv =>
    simp only [BhR.re, MdR.re]
    rw [← catP_re]
    simp [List.map_take, List.map_drop]
   | circ ch => rfl
theorem findF_re (φ : Nat → Nat) (gs : List (Nat × Fd)) (x : By) : findF (gs.map (reB φ)) x = (findF gs x).map (reB φ) := by
 unfold findF
 rw [List.find?_map]
 rfl
theorem rho_re (φ : Nat → Nat) (gs : List (Nat × Fd)) : rho (gs.map (reB φ)) = rho gs := by
 funext x
 unfold rho
 rw [findF_re]
 cases findF gs x <;> rfl
theorem setV_re (φ : Nat → Nat) (gs : List (Nat × Fd)) (b : Nat) (v : Vl) (h : ∀ g, g ∈ gs → φ g.1 = φ b → g.1 = b) : setV (gs.map (reB φ)) (φ b) v = (setV gs b v).map (reB φ) := by
 unfold setV
 rw [List.map_map, List.map_map]
 refine List.map_congr_left fun g hg => ?_
 simp only [Function.comp]
 by_cases e : g.1 = b
 ·have : (reB φ g).1 = φ b := congrArg φ e
  rw [if_pos e, if_pos this]
  rfl
 ·have : ¬ (reB φ g).1 = φ b := fun h' => e (h g hg h')
  rw [if_neg e, if_neg this]
theorem ruleOf_re (φ : Nat → Nat) (gs : List (Nat × Fd)) (b : Nat) (h : ∀ g, g ∈ gs → φ g.1 = φ b → g.1 = b) : ruleOf (gs.map (reB φ)) (φ b) = ruleOf gs b := by
 unfold ruleOf
 rw [List.find?_map]
 have : gs.find? ((fun f : Nat × Fd => f.1 == φ b) ∘ reB φ) = gs.find? (fun f => f.1 == b) := by
  refine find_congr gs _ _ fun g hg => ?_
  show (φ g.1 == φ b) = (g.1 == b)
  by_cases e : g.1 = b
  ·rw [e]; simp
  ·have : ¬ φ g.1 = φ b := fun h' => e (h g hg h')
   rw [beq_eq_false_iff_ne.2 e, beq_eq_false_iff_ne.2 this]
 rw [this]
 cases gs.find? (fun f => f.1 == b) <;> rfl
 where
 find_congr (l : List (Nat × Fd)) (p q : Nat × Fd → Bool) (h : ∀ g, g ∈ l → p g = q g) : l.find? p = l.find? q := by
  induction l with
  | nil => rfl
  | cons a r ih =>
   rw [List.find?_cons, List.find?_cons, h a (by simp)]
   rw [ih fun g hg => h g (by simp [hg])]
theorem workP_re (φ : Nat → Nat) : ∀ (ks : List Nat) (gs : List (Nat × Fd)), (∀ k, k ∈ ks → ∀ g, g ∈ gs → φ g.1 = φ k → g.1 = k) → workP (gs.map (reB φ)) (ks.map φ) = (workP gs ks).map (reB φ)
 | [], gs, _ => rfl
 | k :: r, gs, h => by
  simp only [List.map_cons, workP]
  rw [ruleOf_re φ gs k (h k (by simp)), rho_re, setV_re φ gs k _ (h k (by simp))]
  refine workP_re φ r _ fun k' hk' g hg => ?_
  have : g.1 ∈ (setV gs k (valP (rho gs) (ruleOf gs k))).map (fun f => f.1) := List.mem_map_of_mem hg
  rw [map_setV] at this
  obtain ⟨g', hg', e⟩ := List.mem_map.1 this
  rw [← e]
  exact h k' (by simp [hk']) g' hg'
theorem hangP_re (φ : Nat → Nat) : ∀ (gs : List (Nat × Fd)) (on : List By), hangP on (gs.map (reB φ)) = (hangP on gs).map (reB φ)
 | [], _ => rfl
 | g :: r, on => by
  simp only [List.map_cons, hangP]
  by_cases h : anyM on g.2.p = true
  ·have h' : anyM on (reB φ g).2.p = true := h
   rw [if_pos h, if_pos h', List.map_cons]
   congr 1
   exact hangP_re φ r (on ++ [g.2.nm])
  ·have h' : ¬ anyM on (reB φ g).2.p = true := h
   rw [if_neg h, if_neg h']
   exact hangP_re φ r on
def enumF (fs : List Fd) : List (Nat × Fd) := fs.zipIdx.map fun x => (x.2, x.1)
inductive AR where
 | ok (fs : List Fd) (nm : List By)
 | err (c : Nat) (nm : List By)
def settleA (fs : List Fd) (i : Nat) (f : Fd) : AR := match mendF (enumF fs) i (i, f) with
 | .ok gs => .ok ((workP gs (((i, f) :: hangP [f.nm] gs).map fun x => x.1)).map Prod.snd) (nmsF ((i, f) :: hangP [f.nm] gs))
 | .circ ch => .err 8 (nmsF ch)
def setA (fs : List Fd) (x : By) (p : Pt) : AR := match fs.findIdx? (fun f => f.nm == x) with
 | some i => match fs[i]? with
  | some f => settleA (fs.set i ⟨f.nm, p, f.v⟩) i ⟨f.nm, p, f.v⟩
  | none => .err 5 []
 | none => if fs.length = 10 then .err 7 [] else settleA (fs ++ [⟨x, p, (0, 0)⟩]) fs.length ⟨x, p, (0, 0)⟩
def delA (fs : List Fd) (x : By) : AR := match fs.findIdx? (fun f => f.nm == x) with
 | none => .err 5 []
 | some i => .ok ((workP (enumF (fs.eraseIdx i)) ((hangP [x] (enumF (fs.eraseIdx i))).map fun x => x.1)).map Prod.snd) (nmsF (hangP [x] (enumF (fs.eraseIdx i))))
def renF (x y : By) (f : Fd) : Fd := ⟨if f.nm = x then y else f.nm, renP x y f.p, f.v⟩
def renA (fs : List Fd) (x y : By) : AR := match fs.findIdx? (fun f => f.nm == x) with
 | none => .err 5 []
 | some i => if (fs.find? fun f => f.nm == y).isSome then .err 6 [] else if fs.any (fun f => mentP x f.p && decide (100 < (txt (renP x y f.p)).length)) then .err 7 [] else match fs[i]? with
  | some f => settleA (fs.map (renF x y)) i (renF x y f)
  | none => .err 5 []
theorem enumF_length (fs : List Fd) : (enumF fs).length = fs.length := by simp [enumF]
theorem enumF_snd (fs : List Fd) : (enumF fs).map Prod.snd = fs := by
 unfold enumF
 rw [List.map_map]
 exact List.zipIdx_map_fst 0 fs
theorem enumF_at (fs : List Fd) (i : Nat) (h : i < fs.length) : (enumF fs)[i]? = some (i, fs[i]) := by
 simp [enumF, h]
theorem idx_at : ∀ (l : List Nat) (_ : l.Nodup) (i : Nat) (h : i < l.length), l.idxOf l[i] = i
 | [], _, i, h => by simp at h
 | a :: r, hn, 0, h => by simp
 | a :: r, hn, i + 1, h => by
  rw [List.nodup_cons] at hn
  have hi : i < r.length := by simpa using h
  have hne : a ≠ r[i] := fun e => hn.1 (e ▸ List.getElem_mem hi)
  simp only [List.getElem_cons_succ]
  rw [List.idxOf_cons, beq_eq_false_iff_ne.2 hne, idx_at r hn.2 i hi]
  rfl
theorem re_enum (gs : List (Nat × Fd)) (hn : (gs.map Prod.fst).Nodup) : gs.map (reB fun b => (gs.map Prod.fst).idxOf b) = enumF (gs.map Prod.snd) := by
 apply List.ext_getElem
 ·simp [enumF]
 ·intro i h1 h2
  have hi : i < gs.length := by simpa using h1
  have hg : (gs.map Prod.fst).idxOf (gs[i]).1 = i := by
   have := idx_at _ hn i (by simpa using hi)
   simpa using this
  simp [reB, enumF, hg]
theorem idx_inj (gs : List (Nat × Fd)) (a b : Nat) (ha : a ∈ gs.map Prod.fst) (hb : b ∈ gs.map Prod.fst) (h : (gs.map Prod.fst).idxOf a = (gs.map Prod.fst).idxOf b) : a = b := by
 have h1 := List.getElem_idxOf (List.idxOf_lt_length_of_mem ha)
 have h2 := List.getElem_idxOf (List.idxOf_lt_length_of_mem hb)
 rw [← h1, ← h2]
 simp only [h]
theorem settleA_of (fs : List (Nat × Fd)) (hn : (fs.map Prod.fst).Nodup) (i : Nat) (f : Nat × Fd) (hi : fs[i]? = some f) : settleA (fs.map Prod.snd) i f.2 = match mendF fs i f with
  | .ok gs => .ok ((workP gs ((f :: hangP [f.2.nm] gs).map fun x => x.1)).map Prod.snd) (nmsF (f :: hangP [f.2.nm] gs))
  | .circ ch => .err 8 (nmsF ch) := by
 obtain ⟨hil, hif⟩ := List.getElem?_eq_some_iff.1 hi
 have hfm : f.1 ∈ fs.map Prod.fst := List.mem_map_of_mem (hif ▸ List.getElem_mem hil)
 have hfi : (fs.map Prod.fst).idxOf f.1 = i := by
  have := idx_at _ hn i (by simpa using hil)
  simpa [hif] using this
 have e1 : ((i, f.2) : Nat × Fd) = reB (fun b => (fs.map Prod.fst).idxOf b) f := by simp [reB, hfi]
 have hinj : ∀ g, g ∈ fs → (fs.map Prod.fst).idxOf g.1 = (fs.map Prod.fst).idxOf f.1 → g.1 = f.1 := fun g hg h => idx_inj fs _ _ (List.mem_map_of_mem hg) hfm h
 unfold settleA
 rw [e1, ← re_enum fs hn, mendF_re _ fs i f hinj]
 cases hm : mendF fs i f with
 | circ ch =>
  simp only [MdR.re]
  congr 1
  simp [nmsF, reB, Function.comp_def]
 | ok gs =>
  simp only [MdR.re]
  have hsub := (mendF_facts' fs gs i f hil hif hm)
  have e2 : (reB (fun b => (fs.map Prod.fst).idxOf b) f :: hangP [(reB (fun b => (fs.map Prod.fst).idxOf b) f).2.nm] (gs.map (reB fun b => (fs.map Prod.fst).idxOf b))) = (f :: hangP [f.2.nm] gs).map (reB fun b => (fs.map Prod.fst).idxOf b) := by
   rw [List.map_cons]
   congr 1
   exact hangP_re _ gs [f.2.nm]
  have e2' : (reB (fun b => (fs.map Prod.fst).idxOf b) f :: hangP [f.2.nm] (gs.map (reB fun b => (fs.map Prod.fst).idxOf b))) = (f :: hangP [f.2.nm] gs).map (reB fun b => (fs.map Prod.fst).idxOf b) := e2
  have e3 : ((f :: hangP [f.2.nm] gs).map (reB fun b => (fs.map Prod.fst).idxOf b)).map (fun x => x.1) = ((f :: hangP [f.2.nm] gs).map fun x => x.1).map (fun b => (fs.map Prod.fst).idxOf b) := by
   rw [List.map_map, List.map_map]
   rfl
  rw [e2', e3, workP_re]
  ·congr 1
   ·simp [reB, Function.comp_def]
   ·simp [nmsF, reB, Function.comp_def]
  ·intro k hk g hg h
   have hks : k ∈ fs.map Prod.fst := by
    obtain ⟨x, hx, rfl⟩ := List.mem_map.1 hk
    rcases List.mem_cons.1 hx with rfl | hx
    ·exact hfm
    ·exact List.mem_map_of_mem (hsub x (hangP_sub _ _ x hx))
   exact idx_inj fs _ _ (List.mem_map_of_mem (hsub g hg)) hks h
 where
 mendF_facts' (fs gs : List (Nat × Fd)) (at_ : Nat) (f : Nat × Fd) (hat : at_ < fs.length) (hf : fs[at_] = f) (h : mendF fs at_ f = .ok gs) : ∀ x, x ∈ gs → x ∈ fs := by
  have h0 := aheadF_mem fs at_ f
  unfold mendF behindF at h
  generalize (aheadF fs at_ f).1 = f1 at *
  generalize (aheadF fs at_ f).2 = a1 at *
  cases hL : lstM f.2.p f1 with
  | none =>
   rw [hL] at h
   cases h
   exact h0
  | some l =>
   rw [hL] at h
   simp only at h
   split at h
   ·cases h
    exact h0
   ·cases hB : behP f ((f1.drop a1).take (l + 1 - a1)) [] [] [] with
    | circ ch => rw [hB] at h; cases h
    | ok st mv =>
     rw [hB] at h
     cases h
     intro x hx
     refine h0 x (catP4_mem (fun y hy => ?_) x hx)
     have := behP_mem _ _ _ _ _ _ _ hB y hy
     simp at this
     exact List.mem_of_mem_drop (List.mem_of_mem_take this)
end
section
variable {S S1 O : Nat → Prop} {e : Nat} {D : Nat → Prop} {σ σ0 : Sta} {v1 v2 v3 v4 v5 : Value} {te : TypeId} {w w' W W1 W2 : World} {ws0 us : List Wr} {b N : Nat} {cs : Array Value}
theorem nodup_len : ∀ (l m : List Nat), l.Nodup → (∀ x, x ∈ l → x ∈ m) → l.length ≤ m.length
 | [], _, _, _ => Nat.zero_le _
 | x :: r, m, hn, hs => by
  rw [List.nodup_cons] at hn
  have hx : x ∈ m := hs x (by simp)
  have := nodup_len r (m.erase x) hn.2 fun y hy => by
   have hne : y ≠ x := fun e' => hn.1 (e' ▸ hy)
   exact (List.mem_erase_of_ne hne).2 (hs y (by simp [hy]))
  rw [List.length_erase_of_mem hx] at this
  have hp := List.length_pos_of_mem hx
  simp only [List.length_cons]
  omega
theorem findIdx_none {fs : List (Nat × Fd)} {x : By} (h : findF fs x = none) : (fs.map Prod.snd).findIdx? (fun f => f.nm == x) = none := by
 rw [List.findIdx?_eq_none_iff]
 intro f hf
 obtain ⟨g, hg, rfl⟩ := List.mem_map.1 hf
 have := List.find?_eq_none.1 h g hg
 simpa using this
theorem findIdx_some {fs : List (Nat × Fd)} {x : By} {f : Nat × Fd} (h : findF fs x = some f) : ∃ i, (fs.map Prod.snd).findIdx? (fun f => f.nm == x) = some i ∧ fs[i]? = some f := by
 induction fs with
 | nil => simp [findF] at h
 | cons g r ih =>
  unfold findF at h
  by_cases hg : g.2.nm = x
  ·rw [List.find?_cons_of_pos (by simpa using hg)] at h
   cases h
   exact ⟨0, by simp [List.findIdx?_cons, hg], rfl⟩
  ·rw [List.find?_cons_of_neg (by simpa using hg)] at h
   obtain ⟨i, h1, h2⟩ := ih h
   refine ⟨i + 1, ?_, by simpa using h2⟩
   rw [List.map_cons, List.findIdx?_cons]
   simp [hg, h1]
theorem fs_fst (σ : Sta) : σ.fs.map Prod.fst = σ.ord := by simp [Sta.fs, Function.comp_def]
theorem fs_at {i : Nat} {f : Nat × Fd} (h : σ.fs[i]? = some f) : σ.ord[i]? = some f.1 ∧ f = (f.1, σ.mem f.1) := by
 unfold Sta.fs at h
 rw [List.getElem?_map] at h
 obtain ⟨q, h1, h2⟩ := Option.map_eq_some_iff.1 h
 subst h2
 exact ⟨h1, rfl⟩
theorem put_fs (i : Nat) (hnd : σ.ord.Nodup) (hi : σ.ord[i]? = some b) (f : Fd) : (σ.put b f).fs.map Prod.snd = (σ.fs.map Prod.snd).set i f := by
 obtain ⟨hil, hib⟩ := List.getElem?_eq_some_iff.1 hi
 apply List.ext_getElem
 ·simp [Sta.fs, Sta.put]
 ·intro j h1 h2
  have hj : j < σ.ord.length := by simpa [Sta.fs, Sta.put] using h1
  have e1 : ((σ.put b f).fs.map Prod.snd)[j] = (σ.put b f).mem σ.ord[j] := by simp [Sta.fs, Sta.put]
  rw [e1, List.getElem_set]
  by_cases e' : i = j
  ·subst e'
   rw [if_pos rfl, hib, put_mem]
  ·rw [if_neg e', put_mem_ne]
   ·simp [Sta.fs]
   ·rw [← hib]
    intro h
    have := idx_at _ hnd i hil
    rw [← h, idx_at _ hnd j hj] at this
    exact e' this.symm
theorem split_at {l : List (Nat × Fd)} {i : Nat} {f : Nat × Fd} (h : l[i]? = some f) : l = l.take i ++ f :: l.drop (i + 1) ∧ (l.take i).length = i := by
 obtain ⟨hi, rfl⟩ := List.getElem?_eq_some_iff.1 h
 refine ⟨?_, by simp; omega⟩
 rw [List.getElem_cons_drop, List.take_append_drop]
theorem mend_mem {fs gs : List (Nat × Fd)} {i : Nat} {f : Nat × Fd} (h : fs[i]? = some f) (hm : mendF fs i f = .ok gs) : f ∈ gs := by
 obtain ⟨h1, h2⟩ := split_at h
 rw [h1] at hm
 have hm' : mendF (fs.take i ++ f :: fs.drop (i + 1)) (fs.take i).length f = .ok gs := by rw [h2]; exact hm
 exact (mend_perm _ _ gs f hm').mem_iff.2 (by simp)
theorem mend_circ_len {fs ch : List (Nat × Fd)} {i : Nat} {f : Nat × Fd} (hn : (fs.map Prod.fst).Nodup) (h : fs[i]? = some f) (hm : mendF fs i f = .circ ch) : ch.length ≤ fs.length := by
 obtain ⟨h1, h2⟩ := split_at h
 obtain ⟨hi, hf⟩ := List.getElem?_eq_some_iff.1 h
 have hsub := (mendF_circ fs ch i f hi hf hm).1
 have hm' : mendF (fs.take i ++ f :: fs.drop (i + 1)) (fs.take i).length f = .circ ch := by rw [h2, ← h1]; exact hm
 have hnd := (mend_cyc _ _ ch f (by rw [← h1]; exact hn) hm').2.1
 have := nodup_len _ (fs.map Prod.fst) hnd fun x hx => by
  obtain ⟨y, hy, rfl⟩ := List.mem_map.1 hx
  exact List.mem_map_of_mem (hsub y hy)
 simpa using this
structure EdCom (S : Nat → Prop) (e : Nat) (D S' D' : Nat → Prop) (nm : List By) (an : Option Addr) (cn : Nat) (w w' : World) : Prop where
 s0 : ∀ q, S q → S' q
 s1 : ∀ q, S' q → S q ∨ w.heap.size ≤ q
 d0 : ∀ q, D q → D' q
 d1 : ∀ q, D' q → D q ∨ w.heap.size ≤ q
 ks : Ks (fun q => q = e ∨ D q) w w'
 own : w'.ownsRow w.heap.size 9 1 (.slice an nm.length cn) nm.length (strs nm)
 ob : ∀ q, (Value.slice an nm.length cn).ownBlock = some q → ¬ S' q
def EdPost (S : Nat → Prop) (e : Nat) (D : Nat → Prop) (σ : Sta) (v1 v2 v3 v4 v5 : Value) (te : TypeId) (ar : AR) (w : World) (r : Ending) (w' : World) : Prop :=
 match ar with
 | .ok fs nm => ∃ (an : Option Addr) (cn : Nat) (S' D' : Nat → Prop) (N' : Nat) (cs' : Array Value) (σ1 : Sta) (ws : List Wr), EdCom S e D S' D' nm an cn w w' ∧ r = .returned (.tuple #[.slice an nm.length cn, .func (.func N') #[] cs', .int .i64 0]) ∧ (∀ q, D q → σ1.mem q = σ.mem q) ∧ σ1.ord = σ.ord ∧ PhS w' S' e D' (runW ws σ1) v1 v2 v3 v4 v5 te ∧ BkAt e D' w' S' N' cs' (invW ws σ1) ∧ (runW ws σ1).fs.map Prod.snd = fs
 | .err c nm => ∃ (an : Option Addr) (cn : Nat) (S' : Nat → Prop), EdCom S e D S' D nm an cn w w' ∧ r = .returned (.tuple #[.slice an nm.length cn, .nilFunc, .int .i64 (c : Int)]) ∧ PhS w' S' e D σ v1 v2 v3 v4 v5 te
theorem nmsF_len (hs : List (Nat × Fd)) : (nmsF hs).length = hs.length := by simp [nmsF]
theorem settleS (at_ N0 : Nat) (cs0 : Array Value) (h : PhS w S e D σ v1 v2 v3 v4 v5 te) (hσ : runW ws0 σ0 = σ) (hbk : BkAt e D w S N0 cs0 (invW ws0 σ0)) (hl : σ.ord.length ≤ 100) (hat : σ.ord[at_]? = some b) (hnd : σ.ord.Nodup) :
  Calls Tryz.prog 73 #[.pointer (some ⟨e, 0, none⟩), .pointer (some ⟨b, 0, none⟩), .func (.func N0) #[] cs0] w (EdPost S e D σ0 v1 v2 v3 v4 v5 te (settleA (σ.fs.map Prod.snd) at_ (σ.mem b)) w) := by
 have hfa : σ.fs[at_]? = some (b, σ.mem b) := by simp [Sta.fs, hat]
 have hnb : (σ.fs.map Prod.fst).Nodup := by rw [fs_fst]; exact hnd
 rw [settleA_of σ.fs hnb at_ (b, σ.mem b) hfa]
 have hfl : σ.fs.length = σ.ord.length := by simp [Sta.fs]
 cases hm : mendF σ.fs at_ (b, σ.mem b) with
 | ok gs =>
  refine (settleOkS at_ N0 cs0 gs h hσ hbk hl hat hnd hm (mend_mem hfa hm)).mono ?_
  rintro r w' ⟨an, cn, N', cs', S', ws, rfl, h1, h2, h3, h4, h5, h6, h7, h8⟩
  refine ⟨an, cn, S', D, N', cs', σ0, ws0 ++ ws, ⟨h3, fun q hq => (h4 q hq).imp id fun h => h.1, fun _ h => h, fun _ h => Or.inl h, h7, ?_, ?_⟩, ?_, fun _ _ => rfl, rfl, h5, h6, by rw [h8]⟩
  ·rw [nmsF_len]; exact h1
  ·rw [nmsF_len]; exact h2
  ·rw [nmsF_len]
 | circ ch =>
  refine (settleCircS at_ N0 cs0 ch h hσ hbk hl hat hnd hm (by have := mend_circ_len hnb hfa hm; omega)).mono ?_
  rintro r w' ⟨an, cn, S', rfl, h1, h2, h3, h4, h5, h6⟩
  refine ⟨an, cn, S', ⟨h3, fun q hq => (h4 q hq).imp id fun h => h.1, fun _ h => h, fun _ h => Or.inl h, h6, ?_, ?_⟩, ?_, h5⟩
  ·rw [nmsF_len]; exact h1
  ·rw [nmsF_len]; exact h2
  ·rw [nmsF_len]; rfl
end
section
variable {S S1 O : Nat → Prop} {e : Nat} {D D1 : Nat → Prop} {σ σ0 σ1 : Sta} {v1 v2 v3 v4 v5 : Value} {te : TypeId} {w w' W w1 w2 : World} {ws0 us : List Wr} {b N : Nat} {cs : Array Value} {ar : AR} {r : Ending}
theorem PhS.less (h : PhS w S e D1 σ1 v1 v2 v3 v4 v5 te) (hd : ∀ q, D q → D1 q) (hm : ∀ q, D q → σ1.mem q = σ.mem q) (ho : σ1.ord = σ.ord) (hs : ∀ b, b ∈ σ.ord → D b) : PhS w S e D σ v1 v2 v3 v4 v5 te := by
 obtain ⟨a, c, h1, h2, h3, h4⟩ := h.row
 rw [ho] at h1 h2 h4
 exact ⟨h.still, h.eS, fun hh => h.eD (hd e hh), fun q hq => by rw [← hm q hq]; exact h.fld q (hd q hq), hs, a, c, h1, h2, h3, h4⟩
theorem EdPost.lift (hs0 : ∀ q, S q → S1 q) (hs1 : ∀ q, S1 q → S q ∨ w.heap.size ≤ q) (hd0 : ∀ q, D q → D1 q) (hd1 : ∀ q, D1 q → D q ∨ w.heap.size ≤ q) (hk : Ks (fun q => q = e ∨ D q) w w1) (hm : ∀ q, D q → σ1.mem q = σ.mem q) (ho : σ1.ord = σ.ord) (hsub : ∀ b, b ∈ σ.ord → D b)
  (h : EdPost S1 e D1 σ1 v1 v2 v3 v4 v5 te ar w1 r w') : EdPost S e D σ v1 v2 v3 v4 v5 te ar w r w' := by
 have com : ∀ {S' D' : Nat → Prop} {nm : List By} {an : Option Addr} {cn : Nat}, EdCom S1 e D1 S' D' nm an cn w1 w' → EdCom S e D S' D' nm an cn w w' := fun {S' D' nm an cn} hc => by
  refine ⟨fun q hq => hc.s0 q (hs0 q hq), fun q hq => ?_, fun q hq => hc.d0 q (hd0 q hq), fun q hq => ?_, ⟨hc.ks.os.trans hk.os, hc.ks.tape.trans hk.tape, hc.ks.output.trans hk.output, Nat.le_trans hk.size hc.ks.size, fun k hkl hn => ?_⟩, own_base hc.own hk.size, hc.ob⟩
  ·rcases hc.s1 q hq with h1 | h1
   ·exact hs1 q h1
   ·exact Or.inr (Nat.le_trans hk.size h1)
  ·rcases hc.d1 q hq with h1 | h1
   ·exact hd1 q h1
   ·exact Or.inr (Nat.le_trans hk.size h1)
  ·refine (hc.ks.block k (Nat.lt_of_lt_of_le hkl hk.size) ?_).trans (hk.block k hkl hn)
   rintro (h1 | h1)
   ·exact hn (Or.inl h1)
   ·rcases hd1 k h1 with h2 | h2
    ·exact hn (Or.inr h2)
    ·omega
 cases ar with
 | ok fs nm =>
  obtain ⟨an, cn, S', D', N', cs', σ2, ws, h1, h2, h3, h4, h5, h6, h7⟩ := h
  exact ⟨an, cn, S', D', N', cs', σ2, ws, com h1, h2, fun q hq => (h3 q (hd0 q hq)).trans (hm q hq), h4.trans ho, h5, h6, h7⟩
 | err c nm =>
  obtain ⟨an, cn, S', h1, h2, h3⟩ := h
  refine ⟨an, cn, S', ?_, h2, h3.less hd0 hm ho hsub⟩
  have := com h1
  exact ⟨this.s0, this.s1, fun _ h => h, fun _ h => Or.inl h, this.ks, this.own, this.ob⟩
theorem EdPost.shape (h : EdPost S e D σ v1 v2 v3 v4 v5 te ar w r w') : ∃ (an : Option Addr) (ln cn : Nat) (bk : Value) (er : Int), r = .returned (.tuple #[.slice an ln cn, bk, .int .i64 er]) ∧ EdPost S e D σ v1 v2 v3 v4 v5 te ar w (.returned (.tuple #[.slice an ln cn, bk, .int .i64 er])) w' := by
 cases ar with
 | ok fs nm =>
  obtain ⟨an, cn, S', D', N', cs', σ2, ws, h1, rfl, h3⟩ := h
  exact ⟨an, _, cn, _, _, rfl, an, cn, S', D', N', cs', σ2, ws, h1, rfl, h3⟩
 | err c nm =>
  obtain ⟨an, cn, S', h1, rfl, h3⟩ := h
  exact ⟨an, _, cn, _, _, rfl, an, cn, S', h1, rfl, h3⟩
theorem setFull (e c : Nat) (a : Option Addr) (fs : List (Nat × Fd)) (x : By) (p : Pt) (al : Option Addr) (lr cr : Nat) (w : World) (hs : Sh w S a fs) (hc : w.cell? ⟨e, 0, none⟩ = some (.slice a fs.length c)) (hel : e < w.heap.size) (hl : fs.length = 10) (hnew : findF fs x = none) :
  Calls Tryz.prog 54 #[.pointer (some ⟨e, 0, none⟩), .string ⟨x.toArray⟩, .agg #[.int .i64 (p.k : Int), .string ⟨p.nm.toArray⟩, .int .i64 (p.n : Int), .slice al lr cr]] w fun r w' => r = .returned (.tuple #[.slice none 0 0, .nilFunc, .int .i64 7]) ∧ Below w.heap.size w w' := by
 have HF := tZ (show ∀ W, Below w.heap.size w W → Calls Tryz.prog 58 #[.pointer (some ⟨e, 0, none⟩), .string ⟨x.toArray⟩] W fun r w' => r = .returned (.pointer none) ∧ W = w' from fun W hb => by
  have := find101 x e c a fs W (hs.next hb) ((hb.cell (p := ⟨e, 0, none⟩) hel).trans hc) (by omega)
  rw [findB, hnew] at this
  exact this)
 rw [hl] at hc
 have hc' : w.cell? ⟨e, 0, none⟩ = some (.slice a 10 c) := hc
 clear hs hc
 go_enter Tryz.func54, Tryz.ntmps54
 go_wp2_with (first | (go_at_call 58; refine (HF.out _ (by first | exact Below.refl _ _ | exact (Below.refl _ _).alloc (Nat.le_refl _) _ | exact below2 _ _ _)).mono ?_; rintro r w1 ⟨rfl, rfl⟩))
 refine bodyPost_ret (v := .tuple #[.slice none 0 0, .nilFunc, .int .i64 7]) (by simp [results, Tryz.results54, go_sem]) (by simp [go_sem]) ?_
 exact ⟨rfl, by first | exact (Below.refl _ _).alloc (Nat.le_refl _) _ | exact below2 _ _ _ | exact Below.refl _ _⟩
theorem setS (h : PhS w S e D σ v1 v2 v3 v4 v5 te) (hnd : σ.ord.Nodup) (hl : σ.ord.length ≤ 10) (x : By) (p : Pt) (al : Option Addr) (lr cr : Nat) (hP : PIs w S p al lr cr) (hsh : Shape p) (hgd : Good p) (htx : (txt p).length ≤ 100) :
  Calls Tryz.prog 54 #[.pointer (some ⟨e, 0, none⟩), .string ⟨x.toArray⟩, .agg #[.int .i64 (p.k : Int), .string ⟨p.nm.toArray⟩, .int .i64 (p.n : Int), .slice al lr cr]] w (EdPost S e D σ v1 v2 v3 v4 v5 te (setA (σ.fs.map Prod.snd) x p) w) := by
 have hel := h.lt
 have hfl : σ.fs.length = σ.ord.length := by simp [Sta.fs]
 obtain ⟨a, c, hs, hcc, hac, hrow⟩ := h.sh
 unfold setA
 cases hf : findF σ.fs x with
 | some f =>
  obtain ⟨i, hi1, hi2⟩ := findIdx_some hf
  obtain ⟨ho1, ho2⟩ := fs_at hi2
  have hfm := (findF_mem hf).1
  have hDf : D f.1 := h.sub f.1 (List.mem_of_getElem? ho1)
  have e1 : (σ.fs.map Prod.snd)[i]? = some f.2 := by rw [List.getElem?_map, hi2]; rfl
  rw [hi1]
  simp only [e1]
  refine (setOld e c a σ.fs f x p al lr cr w (fun an ln cn bk er w' => EdPost S e D σ v1 v2 v3 v4 v5 te (settleA ((σ.fs.map Prod.snd).set i ⟨f.2.nm, p, f.2.v⟩) i ⟨f.2.nm, p, f.2.v⟩) w (.returned (.tuple #[.slice an ln cn, bk, .int .i64 er])) w') hs (row6 hrow).1.1 hel (by omega) hf (fun e' => h.eD (e' ▸ hDf)) ?_).mono (by
   rintro r w' ⟨an, ln, cn, bk, er, rfl, hq⟩
   exact hq)
  intro g1 g2 w1 hrow1 hk1 hcl
  obtain ⟨fa, fl, fc, hr0, hg1, hg2, _, hc1, hc2⟩ := hcl
  have hmem : f.2 = σ.mem f.1 := by rw [ho2]
  obtain ⟨q1, q2, q3, q4, fa', fl', fc', r1, r2⟩ := h.fld f.1 hDf
  rw [hmem] at hrow1 hr0 hc2
  have hfa : (fa, fl, fc) = (fa', fl', fc') := by
   rw [r1] at hr0
   simp at hr0
   obtain ⟨e1, e2, e3⟩ := hr0
   rw [e1, e2, e3]
  cases hfa
  have blk : ∀ q, S q → w1.heap[q]? = w.heap[q]? := fun q hq => hk1.block q (h.still q hq) (fun e' => q1 (e' ▸ hq))
  have hfb := (h.fld f.1 hDf).lt
  have hp1 : PhS w1 (S2 S g1 g2) e D (σ.put f.1 ⟨(σ.mem f.1).nm, p, (σ.mem f.1).v⟩) v1 v2 v3 v4 v5 te := h.fldPut hDf _ ⟨by
   rintro (h1 | h1 | h1)
   ·exact q1 h1
   ·omega
   ·omega, hsh, hgd, htx, al, lr, cr, hrow1, (hP.next blk).wide S2_old⟩ hk1 S2_old (S2_lt hg1 hg2 hc1 hc2)
  have hb1 : BkAt e D w1 (S2 S g1 g2) 94 #[.pointer (some ⟨g1, 0, none⟩), .pointer (some ⟨g2, 0, none⟩)] (invW [.rl f.1 p] σ) := .rl g1 g2 f.1 _ fa fl fc (Or.inr (Or.inl rfl)) (Or.inr (Or.inr rfl)) hc1 hc2 ((r2.next blk).wide S2_old) q2 q3 q4 hDf
  have hst := settleS (σ := σ.put f.1 ⟨(σ.mem f.1).nm, p, (σ.mem f.1).v⟩) (b := f.1) (σ0 := σ) (ws0 := [.rl f.1 p]) i _ _ hp1 rfl hb1 (by show σ.ord.length ≤ 100; omega) ho1 hnd
  rw [put_fs i hnd ho1, put_mem] at hst
  refine hst.mono fun r w' hr => ?_
  rw [hmem]
  exact (hr.lift S2_old (fun q hq => (S2_new hg1 hg2 hc1 hc2 q hq).imp id fun h => h.1) (fun _ h => h) (fun _ h => Or.inl h) (hk1.wide fun q hq => Or.inr (by rw [show q = f.1 from hq]; exact hDf)) (fun _ _ => rfl) rfl h.sub).shape
 | none =>
  rw [findIdx_none hf]
  simp only [List.length_map]
  by_cases hten : σ.fs.length = 10
  ·rw [if_pos hten]
   refine (setFull e c a σ.fs x p al lr cr w hs (row6 hrow).1.1 hel hten hf).mono ?_
   rintro r w' ⟨rfl, hb⟩
   exact ⟨none, 0, S, ⟨fun _ h => h, fun _ h => Or.inl h, fun _ h => h, fun _ h => Or.inl h, Ks.of hb, World.ownsRow_nil _ _ _ _, fun q hq => by simp [Value.ownBlock] at hq⟩, rfl, h.next hb⟩
  ·rw [if_neg hten]
   refine (setFresh e c a σ.fs x p al lr cr v1 v2 v3 v4 v5 te w (fun an ln cn bk er w' => EdPost S e D σ v1 v2 v3 v4 v5 te (settleA (σ.fs.map Prod.snd ++ [⟨x, p, (0, 0)⟩]) σ.fs.length ⟨x, p, (0, 0)⟩) w (.returned (.tuple #[.slice an ln cn, bk, .int .i64 er])) w') hs hrow (by omega) (fun f hf' e' => ?_) h.eS hac hP hsh hgd htx hf ?_).mono (by
    rintro r w' ⟨an, ln, cn, bk, er, rfl, hq⟩
    exact hq)
   ·obtain ⟨q, hq, rfl⟩ := List.mem_map.1 hf'
    exact h.eD (e' ▸ h.sub q hq)
   ·intro b g cap g1 g2 w3 hW
    have hbD : ∀ q, D q → q ≠ b := fun q hq e' => by have := (h.fld q hq).lt; have := hW.hb; omega
    have hk3 := hW.ks
    have blk : ∀ q, S q → w3.heap[q]? = w.heap[q]? := fun q hq => hk3.block q (h.still q hq) (fun e' => h.eS (e' ▸ hq))
    have hgc : ∃ cc t z, w3.heap[g]? = some (.cells cc t z) := by
     obtain ⟨g', o, e', _, h3⟩ := hW.sh.ptr 0 (by simp)
     cases e'
     unfold World.cell? at h3
     cases hh : w3.heap[g]? with
     | none => rw [hh] at h3; simp at h3
     | some ob =>
      rw [hh] at h3
      cases ob <;> simp at h3
      exact ⟨_, _, _, rfl⟩
    have hS3 : ∀ q, (S2 S g1 g2 q ∨ q = g) → S q ∨ (w.heap.size ≤ q ∧ ∃ c t z, w3.heap[q]? = some (.cells c t z)) := by
     rintro q (hq | rfl)
     ·exact S2_new hW.hg1 hW.hg2 hW.hc1 hW.hc2 q hq
     ·exact Or.inr ⟨hW.hg, hgc⟩
    have hlt : ∀ q, (S2 S g1 g2 q ∨ q = g) → q < w3.heap.size := fun q hq => by
     rcases hS3 q hq with h1 | ⟨_, _, _, _, h1⟩
     ·exact Nat.lt_of_lt_of_le (h.still q h1) hk3.size
     ·exact (Array.getElem?_eq_some_iff.1 h1).1
    have hbF := hW.sh.fld (b, ⟨x, p, (0, 0)⟩) (by simp)
    obtain ⟨fa, fl, fc, hbr, _⟩ := hbF.open
    have hne : ∀ q c t, w3.heap[q]? = some (.cells c t (0, 0)) → t ≠ 119 → q ≠ b := fun q c t hq ht e' => by
     rw [e', hbr] at hq
     simp at hq
     exact ht hq.2.symm
    have hSb : ¬ (S2 S g1 g2 b ∨ b = g) := by
     rintro ((h1 | h1 | h1) | h1)
     ·exact hbF.1 (Or.inl h1)
     ·exact hne g1 _ _ hW.hc1 (by decide) h1.symm
     ·exact hne g2 _ _ hW.hc2 (by decide) h1.symm
     ·exact hbF.1 (Or.inr h1)
    have hp3 : PhS w3 (fun q => S2 S g1 g2 q ∨ q = g) e (fun q => D q ∨ q = b) ⟨σ.ord ++ [b], (σ.put b ⟨x, p, (0, 0)⟩).mem⟩ v1 v2 v3 v4 v5 te := by
     refine ⟨hlt, fun hq => ?_, fun hq => ?_, fun q hq => ?_, fun q hq => ?_, some ⟨g, 0, none⟩, cap, fun j hj => ?_, by simpa [hfl] using hW.cp, fun h => (by cases h), ?_⟩
     ·rcases hS3 e hq with h1 | h1
      ·exact h.eS h1
      ·omega
     ·rcases hq with h1 | h1
      ·exact h.eD h1
      ·have := hW.hb; omega
     ·by_cases e' : q = b
      ·subst e'
       rw [show (⟨σ.ord ++ [q], (σ.put q ⟨x, p, (0, 0)⟩).mem⟩ : Sta).mem q = (σ.put q ⟨x, p, (0, 0)⟩).mem q from rfl, put_mem]
       refine hbF.more ?_ hSb
       rintro k (h1 | h1)
       ·exact Or.inl (Or.inl h1)
       ·exact Or.inr h1
      ·have hq' : D q := hq.resolve_right e'
       rw [show (⟨σ.ord ++ [b], (σ.put b ⟨x, p, (0, 0)⟩).mem⟩ : Sta).mem q = (σ.put b ⟨x, p, (0, 0)⟩).mem q from rfl, put_mem_ne _ _ _ _ e']
       refine ((h.fld q hq').stays (hk3.block q (h.fld q hq').lt fun e' => h.eD (e' ▸ hq')) blk).more (fun k hk => Or.inl (Or.inl hk)) fun h1 => ?_
       rcases hS3 q h1 with h2 | h2
       ·exact (h.fld q hq').1 h2
       ·have := (h.fld q hq').lt; omega
     ·rcases List.mem_append.1 hq with h1 | h1
      ·exact Or.inl (h.sub q h1)
      ·exact Or.inr (by simpa using h1)
     ·have hj' : j < (σ.fs ++ [(b, (⟨x, p, (0, 0)⟩ : Fd))]).length := by simpa [hfl] using hj
      obtain ⟨g', o, e', _, h3⟩ := hW.sh.ptr j hj'
      cases e'
      refine ⟨g, 0, rfl, Or.inr rfl, ?_⟩
      have e2 : ((σ.fs ++ [(b, (⟨x, p, (0, 0)⟩ : Fd))])[j]).1 = (σ.ord ++ [b])[j] := by
       have : ((σ.fs ++ [(b, (⟨x, p, (0, 0)⟩ : Fd))]).map Prod.fst) = σ.ord ++ [b] := by simp [fs_fst]
       rw [← List.getElem_map Prod.fst]
       simp only [this]
       exact (by simpa using hj')
      rw [e2] at h3
      exact h3
     ·have := hW.row
      rw [hfl] at this
      simpa using this
    have hb3 : BkAt e (fun q => D q ∨ q = b) w3 (fun q => S2 S g1 g2 q ∨ q = g) 95 #[.pointer (some ⟨g1, 0, none⟩), .pointer (some ⟨g2, 0, none⟩)] (invW [.ord (σ.ord ++ [b])] (σ.put b ⟨x, p, (0, 0)⟩)) := by
     obtain ⟨a0, c0, k1, k2, k3, k4⟩ := h.row
     have hc2 := hW.hc2
     rw [hfl] at hc2 hrow
     have hac0 : a = a0 ∧ c = c0 := by
      rw [k4] at hrow
      simp at hrow
      exact ⟨hrow.1.symm, hrow.2.symm⟩
     obtain ⟨rfl, rfl⟩ := hac0
     exact .ord g1 g2 a c σ.ord (Or.inl (Or.inr (Or.inl rfl))) (Or.inl (Or.inr (Or.inr rfl))) hW.hc1 hc2 ((k1.next blk).wide fun q hq => Or.inl (Or.inl hq)) k2 k3 fun q hq => Or.inl (h.sub q hq)
    have hbo : b ∉ σ.ord := fun hb => hbD b (h.sub b hb) rfl
    have hst := settleS (σ := ⟨σ.ord ++ [b], (σ.put b ⟨x, p, (0, 0)⟩).mem⟩) (b := b) (σ0 := σ.put b ⟨x, p, (0, 0)⟩) (ws0 := [.ord (σ.ord ++ [b])]) σ.ord.length _ _ hp3 rfl hb3 (by simp; omega) (by simp) (by
     rw [List.nodup_append]
     refine ⟨hnd, by simp, fun q hq r hr => ?_⟩
     simp at hr
     rw [hr]
     exact fun e' => hbo (e' ▸ hq))
    have e3 : (⟨σ.ord ++ [b], (σ.put b ⟨x, p, (0, 0)⟩).mem⟩ : Sta).fs.map Prod.snd = σ.fs.map Prod.snd ++ [⟨x, p, (0, 0)⟩] := by
     unfold Sta.fs
     simp only [List.map_append, List.map_map, List.map_cons, List.map_nil, put_mem]
     congr 1
     refine List.map_congr_left fun q hq => ?_
     simp only [Function.comp]
     exact put_mem_ne _ _ _ _ fun e' => hbo (e' ▸ hq)
    rw [e3, show (⟨σ.ord ++ [b], (σ.put b ⟨x, p, (0, 0)⟩).mem⟩ : Sta).mem b = ⟨x, p, (0, 0)⟩ from put_mem _ _ _, ← hfl] at hst
    refine hst.mono fun r w' hr => ?_
    refine (hr.lift (S := S) (D := D) (σ := σ) (w := w) (fun q hq => Or.inl (Or.inl hq)) (fun q hq => (hS3 q hq).imp id fun h => h.1) (fun q hq => Or.inl hq) (fun q hq => hq.imp id fun e' => by rw [e']; exact hW.hb) (hk3.wide fun q hq => Or.inl hq) (fun q hq => put_mem_ne _ _ _ _ (hbD q hq)) rfl h.sub).shape
end
end Go.Proofs.YtihgojcfpnhelabGreatDoor
