import Derived.Test.YtihgojcfpnhelaaGreatDoorJc
import Derived.Test.YtihgojcfpnhelaaGreatDoorJ
import Derived.Deep.QuietTactic
import Derived.BigQuiet
import Derived.Test.YtihgojcfpnhelaaGreatDoorJf
import Derived.Test.YtihgojcfpnhelaaGreatDoorJd
set_option linter.unusedVariables false
set_option linter.unusedSimpArgs false
namespace Go.Proofs.YtihgojcfpnhelaaGreatDoor
open Go.RowKit
attribute [local go_sem] idx_eq app_eq

theorem keep_num (n : Nat) (h : n < 100) (w : World) : Calls Tryz.prog 23 #[.int .i64 (n : Int)] w fun e w' => e = .returned (.string ⟨(numB n).toArray⟩) ∧ w = w' := by
  unfold numB
  go_enter Tryz.func23, Tryz.ntmps23
  go_wp2_with (first | (go_at_call 50; refine (Tryz.strconv_Itoa_small n h _).mono ?_; rintro e w' ⟨rfl, rfl⟩))
  go_ret
  exact ⟨rfl, rfl⟩

end Go.Proofs.YtihgojcfpnhelaaGreatDoor
namespace Go.Proofs.YtihgojcfpnhelaaGreatDoor
open Go.RowKit

/-- An editor with these fields and no group open. -/
def Sq (W0 : World) (T : Nat → Prop) (e : Nat) (fs : List Fd) (w : World) : Prop := ∃ a : Ab, a.fs = fs ∧ a.grp = none ∧ Sts W0 T [⟨e, 0, a⟩] w

variable {W0 w w' : World} {T : Nat → Prop} {e : Nat} {fs fs' : List Fd} {s x : By} {p : Pt} {nm : List By} {c : Nat}

theorem Sq.next (h : Sq W0 T e fs w) (hb : Below w.heap.size w w') : Sq W0 T e fs w' := by
  obtain ⟨a, h1, h2, h3⟩ := h
  exact ⟨a, h1, h2, h3.next hb⟩
theorem Sq.grow (h : Sq W0 T e fs w) (hb : Below w.heap.size w w') : Sq W0 (fun q => T q ∨ (w.heap.size ≤ q ∧ q < w'.heap.size)) e fs w' := by
  obtain ⟨a, h1, h2, h3⟩ := h
  exact ⟨a, h1, h2, h3.grow hb⟩

theorem Sq.does (h : Sq W0 T e fs w) (hE : Env W0) (hL : EnvL W0) (hl : IsLn s (.set x p)) (hs : (setA fs x p).code = 0) : Calls Tryz.prog 19 #[.pointer (some ⟨e, 0, none⟩), .string ⟨s.toArray⟩] w fun r w' => r = .returned (.bool true) ∧ Sq W0 T e (setA fs x p).fs w' := by
  obtain ⟨a, rfl, h2, h3⟩ := h
  cases hsa : setA a.fs x p with
  | err c nm => rw [hsa] at hs; exact absurd hs (setA_err hsa)
  | ok fs' nm =>
    refine (h3.doesA (i := 0) 0 hE hL (by simp) (by simp) hl (lnA_ok h2 hsa) (Or.inr rfl) rfl rfl).mono ?_
    rintro r w' ⟨rfl, _, h4⟩
    exact ⟨rfl, _, rfl, rfl, h4⟩

theorem Sq.told (h : Sq W0 T e fs w) (hE : Env W0) (hL : EnvL W0) : Calls Tryz.prog 30 #[.pointer (some ⟨e, 0, none⟩)] w fun r w' => r = .returned (.string ⟨(lsA fs).toArray⟩) ∧ KtZ T w w' ∧ Sq W0 T e fs w' := by
  obtain ⟨a, rfl, h2, h3⟩ := h
  refine (h3.toldA (i := 0) hE hL (by simp) (by simp) h2).mono ?_
  rintro r w' ⟨rfl, h4, h5⟩
  exact ⟨rfl, ⟨h4.size, h4.block⟩, a, rfl, h2, h5⟩

theorem Sq.is {z : Int} (h : Sq W0 T e fs w) (hE : Env W0) (hL : EnvL W0) (hn : NmOk x) (ho : NmO x) (hv : (valA fs x).2 = (1, z)) : Calls Tryz.prog 26 #[.pointer (some ⟨e, 0, none⟩), .string ⟨x.toArray⟩, .int .i64 z] w fun r w' => r = .returned (.bool true) ∧ KtZ T w w' ∧ Sq W0 T e fs w' := by
  obtain ⟨a, rfl, h2, h3⟩ := h
  refine (h3.isA (i := 0) hE hL (by simp) (by simp) h2 hn ho hv).mono ?_
  rintro r w' ⟨rfl, h4, h5⟩
  exact ⟨rfl, ⟨h4.size, h4.block⟩, a, rfl, h2, h5⟩

theorem Sq.doOk (h : Sq W0 T e fs w) (hE : Env W0) (hL : EnvL W0) (hl : IsLn s (.set x p)) (hs : (setA fs x p).code = 0) : Calls Tryz.prog 20 #[.pointer (some ⟨e, 0, none⟩), .string ⟨s.toArray⟩] w fun r w' => ∃ bn L cn, r = .returned (.agg #[.int .i64 0, .int .i64 0, .string ⟨#[]⟩, .slice bn L cn, .int .i64 0, .int .i64 0]) ∧ Sq W0 T e (setA fs x p).fs w' := by
  obtain ⟨a, rfl, h2, h3⟩ := h
  cases hsa : setA a.fs x p with
  | err c nm => rw [hsa] at hs; exact absurd hs (setA_err hsa)
  | ok fs' nm =>
    refine (h3.doA (i := 0) 0 hE hL (by simp) (by simp) hl (lnA_ok h2 hsa) (Or.inr rfl)).mono ?_
    rintro r w' ⟨bn, cn, rfl, _, _, h4⟩
    exact ⟨bn, _, cn, rfl, _, rfl, rfl, h4.less fun q hq => Or.inl hq⟩

theorem Sq.doErr (h : Sq W0 T e fs w) (hE : Env W0) (hL : EnvL W0) (hl : IsLn s (.set x p)) (hs : (setA fs x p).code = 8) : Calls Tryz.prog 20 #[.pointer (some ⟨e, 0, none⟩), .string ⟨s.toArray⟩] w fun r w' => ∃ bn cn, r = .returned (.agg #[.int .i64 8, .int .i64 0, .string ⟨#[]⟩, .slice bn (setA fs x p).names.length cn, .int .i64 0, .int .i64 0]) ∧ w'.ownsRow w.heap.size 9 1 (.slice bn (setA fs x p).names.length cn) (setA fs x p).names.length (strs (setA fs x p).names) ∧ KtZ T w w' ∧ Sq W0 (fun q => T q ∨ (Value.slice bn (setA fs x p).names.length cn).ownBlock = some q) e fs w' := by
  obtain ⟨a, rfl, h2, h3⟩ := h
  cases hsa : setA a.fs x p with
  | ok fs' nm => rw [hsa] at hs; cases hs
  | err c nm =>
    rw [hsa] at hs
    obtain rfl : c = 8 := hs
    refine (h3.doA (i := 0) 0 hE hL (by simp) (by simp) hl (lnA_err h2 hsa) (Or.inr h2)).mono ?_
    rintro r w' ⟨bn, cn, rfl, h5, h6, h4⟩
    exact ⟨bn, cn, rfl, h5, ⟨h6.size, h6.block⟩, a, rfl, h2, h4⟩

theorem own_at {base n z : Nat} {v : Value} {xs : List Value} {W : World} (ho : w.ownsRow base 9 z v n xs) (hb : ∀ q, v.ownBlock = some q → W.heap[q]? = w.heap[q]?) : W.ownsRow base 9 z v n xs := by
  obtain ⟨h1, h2⟩ := ho
  refine ⟨h1, h2.imp id ?_⟩
  rintro ⟨g, cap, cur, h3, h4, h5, h6⟩
  exact ⟨g, cap, cur, h3, h4, (hb g (by rw [h3]; rfl)).trans h5, h6⟩

/-- The row of a statement Ring. -/
noncomputable def rgR (n fr dt j : Nat) : List Fd := if j = 0 then rgA n else if j < 20 then (rgG n (fr + (j - 1))).fs else (rgD n fr (fr + dt) (fr + (j - 20))).fs

theorem rgR1 {n fr dt gp : Nat} (h : gp < 10) : rgR n fr dt (1 + gp) = (rgG n (fr + gp)).fs := by
  unfold rgR
  rw [if_neg (by omega), if_pos (by omega), show 1 + gp - 1 = gp by omega]
theorem rgR2 {n fr dt gp : Nat} : rgR n fr dt (20 + gp) = (rgD n fr (fr + dt) (fr + gp)).fs := by
  unfold rgR
  rw [if_neg (by omega), if_neg (by omega), show 20 + gp - 20 = gp by omega]
theorem ringHolds (n a b c : Int) (h0 : -9223372036854775808 ≤ n ∧ n ≤ 9223372036854775807) (h1 : -9223372036854775808 ≤ a ∧ a ≤ 9223372036854775807) (h2 : -9223372036854775808 ≤ b ∧ b ≤ 9223372036854775807) (h3 : -9223372036854775808 ≤ c ∧ c ≤ 9223372036854775807) (hE : Env W0) (hL : EnvL W0) :
    Calls Tryz.prog 7 #[.int .i64 n, .int .i64 a, .int .i64 b, .int .i64 c] W0 fun r w' => r = .returned (.bool true) ∧ Below W0.heap.size W0 w' := by
  obtain ⟨k, hk⟩ : ∃ k, pickN n 7 = k := ⟨_, rfl⟩
  obtain ⟨fr, hfr⟩ : ∃ fr, pickN a (k + 2) = fr := ⟨_, rfl⟩
  obtain ⟨dt, hdt⟩ : ∃ dt, pickN b (k + 2 - fr) = dt := ⟨_, rfl⟩
  have hk7 : k < 7 := hk ▸ pickN_lt n 7 (by omega)
  have hfn : fr < k + 2 := hfr ▸ pickN_lt a (k + 2) (by omega)
  have hdn : dt < k + 2 - fr := hdt ▸ pickN_lt b (k + 2 - fr) (by omega)
  have c1 := chk1_all k hk7
  have c2 := chk2_all k hk7 (fr + dt) (by omega) fr (by omega)
  have c3 : ∀ gp, gp < dt → chk3 (k + 2) fr (fr + dt) (fr + gp) = true := fun gp hg => chk3_all k hk7 (fr + dt) (by omega) (fr + gp) (by omega) fr (by omega)
  simp only [chk1, Bool.and_eq_true, List.all_eq_true, List.mem_range, beq_iff_eq] at c1
  obtain ⟨c1a, c1b⟩ := c1
  simp only [chk2, cirB, Bool.and_eq_true, List.all_eq_true, List.mem_range, beq_iff_eq, Bool.or_eq_true, decide_eq_true_eq] at c2
  obtain ⟨c2a, ⟨⟨⟨c2b, c2c⟩, c2d⟩, c2e⟩, c2f⟩ := c2
  simp only [chk3, Bool.and_eq_true, beq_iff_eq, decide_eq_true_eq] at c3
  have c2c' : (rgC (k + 2) fr (fr + dt)).names.length = dt + 1 := by rw [c2c]; omega
  have hv : valA (rgA (k + 2)) (fN 0) = (0, 1, (k : Int) + 6) := by
    unfold valA
    cases hf : (rgA (k + 2)).find? (fun f => f.nm == fN 0) with
    | none => rw [hf] at c1b; cases c1b
    | some f =>
      rw [hf] at c1b
      have : f.v = (1, ((k + 2 : Nat) : Int) + 4) := by simpa using c1b
      show ((0 : Int), f.v.1, f.v.2) = _
      rw [this]
      show ((0 : Int), (1 : Int), ((k + 2 : Nat) : Int) + 4) = (0, 1, (k : Int) + 6)
      rw [show ((k + 2 : Nat) : Int) + 4 = (k : Int) + 6 by omega]
  refine (ring_walk n a b c W0 pickN pickN_lt k fr dt (dt + 1) ((rgC (k + 2) fr (fr + dt)).names.map numOf) (lsA (rgA (k + 2))) hk hfr hdt rfl (fun e w => Sq W0 (fun _ => False) e [] w) (fun e j w => Sq W0 (fun _ => False) e (rgF (k + 2) j) w) (fun e T j w => Sq W0 T e (rgR (k + 2) fr dt j) w)
    (HMS := toHid ?_) (HB := toHid ?_) (I := fun c => -9223372036854775808 ≤ c ∧ c ≤ 9223372036854775807) (HI0 := toHid h0) (HI1 := toHid h1) (HI2 := toHid h2) (HI3 := toHid h3) (HP := toHid ?_) (HQ := toHid ?_) (HN := toHid ?_) (HD1 := toHid ?_) (HD2 := toHid ?_) (HT := toHid ?_) (HI := toHid ?_) (HC := toHid ?_) (HD3 := toHid ?_) (HC2 := toHid ?_) (HC3 := toHid ?_) (HNX := toHid ?_) (HG := toHid ?_)).mono ?_
  · intro j hj
    have hjl : j < (rgC (k + 2) fr (fr + dt)).names.length := by rw [c2c']; omega
    refine ⟨?_, ?_⟩
    · refine c2d _ ?_
      rw [List.getD_eq_getElem?_getD, List.getElem?_eq_getElem (by simpa using hjl)]
      exact List.getElem_mem _
    · rcases c2f j hjl with h | h
      · rw [c2c'] at h; omega
      · exact h
  · refine ((Sts.empty W0).beginA 6 (by omega)).mono ?_
    rintro r w' ⟨e, rfl, _, h⟩
    exact ⟨e, rfl, _, rfl, rfl, h⟩
  · intro c z w m hc ⟨hz, hm0, hm1⟩
    subst hz
    exact pick_ok c m hc.1 hc.2 hm0 hm1 w
  · intro e w h
    exact h
  · intro z w m ⟨hz, hm⟩
    subst hz
    refine (keep_num m (by omega) w).mono ?_
    rintro r w' ⟨rfl, rfl⟩
    refine ⟨?_, rfl⟩
    have := (dg_facts m hm).2.2.2
    unfold numB
    rw [this]
    rfl
  · intro e w j hj hq
    have hp : rgP (k + 2) j = .bin 12 (nmP (j + 1)) (dgP 1) := by unfold rgP; rw [if_pos (by omega)]
    have h5 := c1a j (by omega)
    have := hq.does hE hL (isLn_add j (j + 1) (by omega) (by omega)) (by rw [← hp]; exact h5)
    rw [← hp] at this
    exact this
  · intro e w hq
    have hp : rgP (k + 2) (k + 1) = dgP 5 := by unfold rgP; rw [if_neg (by omega)]
    have h5 := c1a (k + 1) (by omega)
    have := hq.does hE hL (isLn_dg (k + 1) 5 (by omega) (by omega)) (by rw [← hp]; exact h5)
    rw [← hp] at this
    exact this
  · intro e w T hq
    exact hq.told hE hL
  · intro e w T z hz hq
    subst hz
    exact hq.is hE hL (fN_ok 0 (by omega)) (fN_o 0) (by show (valA (rgA (k + 2)) (fN 0)).2 = _; rw [hv])
  · intro e w T hq
    have hd := hq.doErr hE hL (isLn_mul (fr + dt) fr (by omega) (by omega)) c2a
    change Calls Tryz.prog 20 _ w fun r w' => ∃ bn cn, r = .returned (.agg #[.int .i64 8, .int .i64 0, .string ⟨#[]⟩, .slice bn (rgC (k + 2) fr (fr + dt)).names.length cn, .int .i64 0, .int .i64 0]) ∧ w'.ownsRow w.heap.size 9 1 (.slice bn (rgC (k + 2) fr (fr + dt)).names.length cn) (rgC (k + 2) fr (fr + dt)).names.length (strs (rgC (k + 2) fr (fr + dt)).names) ∧ KtZ T w w' ∧ Sq W0 (fun q => T q ∨ (Value.slice bn (rgC (k + 2) fr (fr + dt)).names.length cn).ownBlock = some q) e (rgA (k + 2)) w' at hd
    refine hd.mono ?_
    rintro r w' ⟨bn, cn, rfl, hown, _, hs⟩
    obtain ⟨g, cap, hbn, hg, hgl⟩ := hown.form (by rw [c2c']; omega)
    simp at hbn
    obtain ⟨rfl, rfl⟩ := hbn
    have hhas := fun (W : World) (hW : W.heap[g]? = w'.heap[g]?) (x : By) => has_ok (rgC (k + 2) fr (fr + dt)).names x (some ⟨g, 0, none⟩) cn w.heap.size W (own_at hown fun q hq => by simp [Value.ownBlock] at hq; rw [← hq]; exact hW) (by rw [c2c']; omega)
    have hcell := fun j (hj : j < dt + 1) => hown.cellAt j (by rw [c2c', Nat.mul_one]; exact hj)
    rw [c2c'] at hhas
    rw [c2c'] at hs
    refine ⟨g, cn, by rw [c2c'], hgl, fun j hj => ?_, fun W hW x hx0 hx1 => ?_, ?_⟩
    · have hjl : j < (rgC (k + 2) fr (fr + dt)).names.length := by omega
      have e1 : (rgC (k + 2) fr (fr + dt)).names[j]? = some (fN (((rgC (k + 2) fr (fr + dt)).names.map numOf).getD j 0)) := by
        have h5 : (rgC (k + 2) fr (fr + dt)).names[j]? = (((rgC (k + 2) fr (fr + dt)).names.map numOf).map fN)[j]? := by rw [← c2b]
        rw [h5, List.getElem?_map, List.getD_eq_getElem?_getD, List.getElem?_eq_getElem (by simpa using hjl)]
        rfl
      rw [hcell j hj]
      unfold strs
      rw [List.getElem?_map, e1]
      rfl
    · refine (hhas W hW (fN x)).mono ?_
      rintro r w'' ⟨rfl, rfl⟩
      rcases c2e x (by omega) with h | h
      · omega
      · rw [h]; exact ⟨rfl, rfl⟩
    · obtain ⟨a', h6, h7, h8⟩ := hs
      exact ⟨a', h6, h7, h8.less fun q hq => hq.imp_right fun h => by simp [Value.ownBlock, h]⟩
  · intro e w T gp hg hq
    have := hq.does hE hL (isLn_dg (fr + gp) 7 (by omega) (by omega)) (c3 gp hg).1.1.1.1
    rw [rgR1 (by omega)]
    exact this
  · intro e w T gp hg hq
    rw [rgR1 (by omega)] at hq
    rw [rgR2]
    exact hq.doOk hE hL (isLn_mul (fr + dt) fr (by omega) (by omega)) (c3 gp hg).1.1.1.2
  · intro e w T gp hg hq
    rw [rgR2] at hq ⊢
    obtain ⟨⟨⟨_, d1⟩, d2⟩, d3⟩ := c3 gp hg
    have hd := hq.doErr hE hL (isLn_sub (fr + gp) (fr + gp + 1) (by omega) (by omega)) d1
    change Calls Tryz.prog 20 _ w fun r w' => ∃ bn cn, r = .returned (.agg #[.int .i64 8, .int .i64 0, .string ⟨#[]⟩, .slice bn (rgE (k + 2) fr (fr + dt) (fr + gp)).names.length cn, .int .i64 0, .int .i64 0]) ∧ w'.ownsRow w.heap.size 9 1 (.slice bn (rgE (k + 2) fr (fr + dt) (fr + gp)).names.length cn) (rgE (k + 2) fr (fr + dt) (fr + gp)).names.length (strs (rgE (k + 2) fr (fr + dt) (fr + gp)).names) ∧ KtZ T w w' ∧ Sq W0 (fun q => T q ∨ (Value.slice bn (rgE (k + 2) fr (fr + dt) (fr + gp)).names.length cn).ownBlock = some q) e (rgD (k + 2) fr (fr + dt) (fr + gp)).fs w' at hd
    refine hd.mono ?_
    rintro r w' ⟨bn, cn, rfl, hown, hk', a', h6, h7, h8⟩
    refine ⟨bn, _, cn, rfl, hk', ⟨a', h6, h7, h8.less fun q hq => Or.inl hq⟩, fun W hW => ?_⟩
    refine (has_ok (rgE (k + 2) fr (fr + dt) (fr + gp)).names (fN (fr + gp)) bn cn w.heap.size W (own_at hown fun q hq => hW.block q (hown.lt q hq).2) (by omega)).mono ?_
    rintro r w'' ⟨rfl, rfl⟩
    rw [d2]
    exact ⟨rfl, rfl⟩
  · intro e w w' T j h hb
    exact h.next hb
  · intro e w w' T j h hb
    exact h.grow hb
  · rintro r w' ⟨rfl, e, T, j, a, _, _, h⟩
    exact ⟨rfl, h.low⟩
end Go.Proofs.YtihgojcfpnhelaaGreatDoor
