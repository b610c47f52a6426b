import Derived.Test.YtihgojcfpnhelaaGreatDoorMb
set_option linter.unusedVariables false
set_option linter.unusedSimpArgs false
namespace Go.Proofs.YtihgojcfpnhelaaGreatDoor
open Go.RowKit

theorem entersM : ∀ args w, (callFunc 239 args).run Tryz.prog w = .ok (.enter 239 args) w := enters_of Tryz.func239 (by kernel_rfl) rfl

set_option maxRecDepth 100000 in
set_option maxHeartbeats 4000000 in
theorem indexParts (a : Option Addr) (n c : Nat) (lb : Value) (w : World) (q : Nat → Pt) (A : Nat → Option Addr) (L C : Nat → Nat) (f : Nat → Bool) (hn : n ≤ 3) (hK : KidsAt w a n q A L C)
    (hp : ∀ j, j < n → ∀ W, Below w.heap.size w W → Calls Tryz.prog 239 #[.agg #[.int .i64 ((q j).k : Int), .string ⟨((q j).nm).toArray⟩, .int .i64 ((q j).n : Int), .slice (A j) (L j) (C j)], lb] W fun e w' => e = .returned (.bool (f j)) ∧ Below w.heap.size w w') :
    Calls Tryz.prog 257 #[.slice a n c, .func (.func 239) #[] #[lb]] w fun e w' => ∃ z : Int, e = .returned (.int .i64 z) ∧ (0 ≤ z ↔ ∃ j, j < n ∧ f j = true) ∧ Below w.heap.size w w' := by
  have HK := toHid hK
  have HP := toHid hp
  have eg := entersM
  clear hK hp
  go_enter Tryz.func257, Tryz.ntmps257
  go_wp2_with fail
  go_loopg [5, 8] n (fun gk _ s8 wr => ∃ j : Nat, j ≤ n ∧ n ≤ j + gk ∧ s8 = .int .i64 (j : Int) ∧ Hid (Below w.heap.size w wr) ∧ Hid (∀ i, i < j → f i = false))
  case atStart => exact ⟨0, Nat.zero_le _, by omega, rfl, Below.refl _ _, fun i hi => by omega⟩
  case round =>
    obtain ⟨j, hj, hgk, rfl, HB, HF⟩ := hrel
    by_cases hlt : j < n
    · obtain ⟨g, rfl, hg, c0, c1, c2, c3⟩ := HK.out j hlt
      have d0 := (HB.out.cell (p := ⟨g, j * 4, none⟩) hg).trans c0
      have d1 := (HB.out.cell (p := ⟨g, j * 4 + 1, none⟩) hg).trans c1
      have d2 := (HB.out.cell (p := ⟨g, j * 4 + 2, none⟩) hg).trans c2
      have d3 := (HB.out.cell (p := ⟨g, j * 4 + 3, none⟩) hg).trans c3
      have HC := toHid (HP.out j hlt wr HB.out)
      have hltz : (j : Int) < (n : Int) := by omega
      clear c0 c1 c2 c3
      cases hf : f j with
      | true =>
        rw [hf] at HC
        go_wp2_with (first | (go_at_fn 239; refine HC.out.mono ?_; rintro e w1 ⟨rfl, hb1⟩) | (go_at_call 239; refine HC.out.mono ?_; rintro e w1 ⟨rfl, hb1⟩))
        go_ret
        exact ⟨_, rfl, ⟨fun _ => ⟨j, hlt, hf⟩, fun _ => by omega⟩, hb1⟩
      | false =>
        rw [hf] at HC
        go_wp2_with (first | (go_at_fn 239; refine HC.out.mono ?_; rintro e w1 ⟨rfl, hb1⟩) | (go_at_call 239; refine HC.out.mono ?_; rintro e w1 ⟨rfl, hb1⟩))
        go_roundg (n - (j + 1))
        case measure => omega
        case rel =>
          refine ⟨j + 1, by omega, by omega, by go_num, hb1, (show Hid _ from fun i hi => ?_)⟩
          by_cases e : i = j
          · subst e; exact hf
          · exact HF.out i (by omega)
    · have hltz : ¬ (j : Int) < (n : Int) := by omega
      go_wp2
      go_ret
      refine ⟨_, rfl, ⟨fun h => by omega, fun ⟨i, hi, h⟩ => ?_⟩, HB.out⟩
      rw [HF.out i (by omega)] at h
      cases h

set_option maxRecDepth 100000 in
set_option maxHeartbeats 4000000 in
theorem containsParts (a : Option Addr) (n c : Nat) (lb : Value) (w : World) (q : Nat → Pt) (A : Nat → Option Addr) (L C : Nat → Nat) (f : Nat → Bool) (b : Bool) (hn : n ≤ 3) (hK : KidsAt w a n q A L C) (hb : b = true ↔ ∃ j, j < n ∧ f j = true)
    (hp : ∀ j, j < n → ∀ W, Below w.heap.size w W → Calls Tryz.prog 239 #[.agg #[.int .i64 ((q j).k : Int), .string ⟨((q j).nm).toArray⟩, .int .i64 ((q j).n : Int), .slice (A j) (L j) (C j)], lb] W fun e w' => e = .returned (.bool (f j)) ∧ Below w.heap.size w w') :
    Calls Tryz.prog 238 #[.slice a n c, .func (.func 239) #[] #[lb]] w fun e w' => e = .returned (.bool b) ∧ Below w.heap.size w w' := by
  have H := toHid (indexParts a n c lb w q A L C f hn hK hp)
  have HB := toHid hb
  clear hK hp hb
  go_enter Tryz.func238, Tryz.ntmps238
  go_wp2_with (first | (go_at_call 257; refine H.out.mono ?_; rintro e w1 ⟨z, rfl, hz, hb1⟩; refine Hid.out ?_))
  have hbz : decide (0 ≤ z) = b := by
    have h1 := hz.trans HB.out.symm
    cases b with
    | true => exact decide_eq_true (h1.2 rfl)
    | false => exact decide_eq_false (fun h => by cases h1.1 h)
  have HZ := toHid hbz
  have HB1 := toHid hb1
  clear hz hb1 hbz
  refine toHid ?_
  go_wp2
  go_ret
  exact ⟨congrArg (fun b => Ending.returned (.bool b)) HZ.out, HB1.out⟩

set_option maxRecDepth 100000 in
set_option maxHeartbeats 2000000 in
theorem closM (x : By) (k n : Int) (y : By) (a : Option Addr) (l c B : Nat) (b : Bool) (w : World) (hB : B < w.heap.size) (hc : w.cell? ⟨B, 0, none⟩ = some (.string ⟨x.toArray⟩))
    (hM : ∀ W, Below w.heap.size w W → Calls Tryz.prog 218 #[.agg #[.int .i64 k, .string ⟨y.toArray⟩, .int .i64 n, .slice a l c], .string ⟨x.toArray⟩] W fun e w' => e = .returned (.bool b) ∧ Below W.heap.size W w') :
    Calls Tryz.prog 239 #[.agg #[.int .i64 k, .string ⟨y.toArray⟩, .int .i64 n, .slice a l c], .pointer (some ⟨B, 0, none⟩)] w fun e w' => e = .returned (.bool b) ∧ Below w.heap.size w w' := by
  have HM := toHid hM
  clear hM
  go_enter Tryz.func239, Tryz.ntmps239
  go_wp2_with (first | (go_at_call 218; refine (HM.out _ ((Below.refl _ _).alloc (Nat.le_refl _) _)).mono ?_; rintro e w1 ⟨rfl, hb1⟩))
  go_ret
  exact ⟨rfl, ((Below.refl _ _).alloc (Nat.le_refl _) _).trans (hb1.mono (by simp))⟩

set_option maxRecDepth 100000 in
set_option maxHeartbeats 4000000 in
theorem ment_core (x : By) (p : Pt) (a : Option Addr) (c : Nat) (w : World) (q : Nat → Pt) (A : Nat → Option Addr) (L C : Nat → Nat) (f : Nat → Bool) (b : Bool) (hn : p.kids.length ≤ 3) (hK : KidsAt w a p.kids.length q A L C) (hb : b = true ↔ ∃ j, j < p.kids.length ∧ f j = true)
    (hM : ∀ j, j < p.kids.length → ∀ W, Below w.heap.size w W → Calls Tryz.prog 218 #[.agg #[.int .i64 ((q j).k : Int), .string ⟨((q j).nm).toArray⟩, .int .i64 ((q j).n : Int), .slice (A j) (L j) (C j)], .string ⟨x.toArray⟩] W fun e w' => e = .returned (.bool (f j)) ∧ Below W.heap.size W w') :
    Calls Tryz.prog 218 #[.agg #[.int .i64 (p.k : Int), .string ⟨p.nm.toArray⟩, .int .i64 (p.n : Int), .slice a p.kids.length c], .string ⟨x.toArray⟩] w fun e w' => e = .returned (.bool ((p.k == 2 && p.nm == x) || b)) ∧ Below w.heap.size w w' := by
  have HK := toHid hK
  have HM := toHid hM
  clear hK hM
  have HCF := toHid (containsParts a p.kids.length c (.pointer (some ⟨w.heap.size + 1, 0, none⟩)) ((w.alloc (.cells #[.int .i64 (p.k : Int), .string ⟨p.nm.toArray⟩, .int .i64 (p.n : Int), .slice a p.kids.length c] 87)).alloc (.cells #[.string ⟨x.toArray⟩] 9)) q A L C f b hn (HK.out.next (below2 _ _ _)) hb (fun j hj W hW => by
    have hB : w.heap.size + 1 < ((w.alloc (.cells #[.int .i64 (p.k : Int), .string ⟨p.nm.toArray⟩, .int .i64 (p.n : Int), .slice a p.kids.length c] 87)).alloc (.cells #[.string ⟨x.toArray⟩] 9)).heap.size := by simp
    have hc : W.cell? ⟨w.heap.size + 1, 0, none⟩ = some (.string ⟨x.toArray⟩) := (hW.cell (p := ⟨w.heap.size + 1, 0, none⟩) hB).trans (row1 (alloc2_new' w _ _ _)).1
    exact (closM x _ _ _ _ _ _ (w.heap.size + 1) (f j) W (Nat.lt_of_lt_of_le hB hW.size) hc (fun W' hW' => HM.out j hj W' ((below2 w _ _).trans ((hW.mono (by simp; omega)).trans (hW'.mono (by have := hW.size; simp at this; omega)))))).mono fun e w' h => ⟨h.1, hW.trans (h.2.mono hW.size)⟩))
  by_cases hk : p.k = 2
  · have qk : ((p.k : Int) == 2) = true := by simp [hk]
    by_cases hx : p.nm = x
    · have qx : (p.nm == x) = true := by simp [hx]
      have HE := toHid (show ((p.k == 2 && p.nm == x) || b) = true by simp [hk, hx])
      rw [HE.out]
      clear hk hx hb
      go_enter Tryz.func218, Tryz.ntmps218
      go_wp2
      go_ret
      exact ⟨rfl, below2 w _ _⟩
    · have qx : (p.nm == x) = false := by simp [hx]
      have HE := toHid (show Ending.returned (.bool b) = Ending.returned (.bool ((p.k == 2 && p.nm == x) || b)) by simp [hx])
      clear hk hx hb
      go_enter Tryz.func218, Tryz.ntmps218
      go_wp2_with (first | (go_at_call 238; refine HCF.out.mono ?_; rintro e w1 ⟨rfl, hb1⟩))
      go_ret
      exact ⟨HE.out, (below2 w _ _).trans (hb1.mono (by simp; omega))⟩
  · have qk : ((p.k : Int) == 2) = false := beq_eq_false_iff_ne.2 (by omega)
    have HE := toHid (show Ending.returned (.bool b) = Ending.returned (.bool ((p.k == 2 && p.nm == x) || b)) by simp [hk])
    clear hk hb
    go_enter Tryz.func218, Tryz.ntmps218
    go_wp2_with (first | (go_at_call 238; refine HCF.out.mono ?_; rintro e w1 ⟨rfl, hb1⟩))
    go_ret
    exact ⟨HE.out, (below2 w _ _).trans (hb1.mono (by simp; omega))⟩

/-- Whether a rule mentions a name is told. -/
theorem mentions168 (x : By) {w0 : World} {S : Nat → Prop} {p : Pt} {a : Option Addr} {l c : Nat} (hP : PIs w0 S p a l c) : ∀ w, (∀ q, S q → q < w.heap.size ∧ w.heap[q]? = w0.heap[q]?) →
    Calls Tryz.prog 218 #[.agg #[.int .i64 (p.k : Int), .string ⟨p.nm.toArray⟩, .int .i64 (p.n : Int), .slice a l c], .string ⟨x.toArray⟩] w fun e w' => e = .returned (.bool (mentP x p)) ∧ Below w.heap.size w w' := by
  induction hP with
  | leaf p hk =>
    intro w _
    have h0 : p.kids.length = 0 := by rw [hk]; rfl
    have := ment_core x p none 0 w (fun _ => p) (fun _ => none) (fun _ => 0) (fun _ => 0) (fun _ => false) false (by omega) (fun j hj => by omega) ⟨fun h => (by cases h), fun ⟨j, hj, _⟩ => by omega⟩ (fun j hj => by omega)
    rw [h0] at this
    rw [mentP_eq, hk]
    exact this
  | node p g cap A L C hg hk hc _ ih =>
    intro w hS
    have hq : ∀ j (h : j < p.kids.length), (p.kids[j]?).getD (.atom 1 [] 0) = p.kids[j] := fun j h => by simp [h]
    rw [mentP_eq]
    refine ment_core x p (some ⟨g, 0, none⟩) cap w (fun j => (p.kids[j]?).getD (.atom 1 [] 0)) A L C (fun j => mentP x ((p.kids[j]?).getD (.atom 1 [] 0))) _ (by cases p <;> simp [Pt.kids]) (fun j hj => ?_) ?_ (fun j hj W hW => ?_)
    · refine ⟨g, rfl, (hS g hg).1, ?_⟩
      simp only [hq j hj]
      rw [cell_congr (hS g hg).2, cell_congr (hS g hg).2, cell_congr (hS g hg).2, cell_congr (hS g hg).2]
      exact hc j hj
    · rw [List.any_map, List.any_eq_true]
      constructor
      · rintro ⟨y, hy, h⟩
        obtain ⟨j, hj, rfl⟩ := List.getElem_of_mem hy
        exact ⟨j, hj, by simp only [hq j hj]; exact h⟩
      · rintro ⟨j, hj, h⟩
        simp only [hq j hj] at h
        exact ⟨_, List.getElem_mem hj, h⟩
    · simp only [hq j hj]
      exact ih j hj W fun q' hq' => ⟨Nat.lt_of_lt_of_le (hS q' hq').1 hW.size, (hW.block q' (hS q' hq').1).trans (hS q' hq').2⟩
end Go.Proofs.YtihgojcfpnhelaaGreatDoor
