import Derived.Test.YtihgojcfpnhelaaDoorZc
import Derived.Deep.Strs
import Derived.Carry
import Derived.Deep.DeepHandedRow
import Derived.Deep.DeepWitnessRowRef
namespace Go.Proofs.YtihgojcfpnhelaaDoor
open Go.ChangeShapes Go.WideShapes Go.ChangeAt Go.RowKit

theorem own : ownKnob Tryd.prog.godebug = none := by kernel_rfl
theorem laidOut : laidOutB Tryd.prog = true := by kernel_rfl
theorem cells25 : Tryd.prog.cellsOf 25 = 3 := by kernel_rfl
theorem cells3 : Tryd.prog.cellsOf 3 = 1 := by kernel_rfl
theorem cells9 : Tryd.prog.cellsOf 9 = 1 := by kernel_rfl

set_option maxRecDepth 100000 in
/-- The script, opened: what its elements' cells hold. -/
theorem open_script {H : Type} {enc : TypeId × Value → H} {W : World} {r : Reach} {b0 : Nat} {v : Value} {d : DataW H} {ps : List MemPlace} (hval : Value.okWide Tryd.prog W r b0 22 v) (h : DataW.Trod enc Tryd.prog W 0 (fun _ => true) true 22 v d ps) :
    ∃ (ao : Option Addr) (len cap : Nat) (K : Nat → Int) (S : Nat → By), v = .slice ao len cap ∧ len ≤ maxLen ∧
      ∀ j, j < len → ∃ a, ao = some a ∧ a.block < W.heap.size ∧ W.cell? (a.add (j * 3)) = some (.int .i64 (K j)) ∧ W.cell? ((a.add (j * 3)).add 2) = some (.string ⟨(S j).toArray⟩) := by
  obtain ⟨ao, len, cap, rfl⟩ := okWide_slice Tryd.underlying22 hval
  obtain ⟨fuel, hf⟩ := h
  rcases Deep.open_slice Tryd.underlying22 hf with ⟨hc, _⟩ | ⟨a, len', cap', m, n, D, Pl, hc, _, hl, hm, hmm, _, hel⟩
  · simp [Value.cells] at hc
    obtain ⟨rfl, rfl, rfl⟩ := hc
    exact ⟨none, 0, 0, fun _ => 0, fun _ => [], rfl, Nat.zero_le _, fun j hj => by omega⟩
  · simp [Value.cells] at hc
    obtain ⟨rfl, rfl, rfl⟩ := hc
    have hmm' : m = cap := by simpa using hmm
    have key : ∀ j, j < len → ∃ x : Int × By, W.cell? (a.add (j * 3)) = some (.int .i64 x.1) ∧ W.cell? ((a.add (j * 3)).add 2) = some (.string ⟨x.2.toArray⟩) := by
      intro j hj
      obtain ⟨cs', h1, h2⟩ := hel j (by omega)
      rw [cells25] at h1
      obtain ⟨_, hlen3, hat⟩ := World.cells?_some h1
      obtain ⟨y0, y1, y2, n', _, _, t0, _, t2⟩ := Deep.trod_struct3 Tryd.underlying25 h2
      obtain ⟨k, e0, _, _⟩ := DataW.trod_int Tryd.underlying3 t0
      obtain ⟨s, e2, _, _⟩ := DataW.trod_string Tryd.underlying9 t2
      have c0 := hat 0 (by omega)
      have c2 := hat 2 (by omega)
      rw [cells3] at e0
      rw [cells9] at e2
      have g0 : cs'[0]? = some (.int .i64 k) := by
        have := congrArg (·[0]?) e0
        simpa [List.getElem?_take, List.getElem?_drop] using this
      have g2 : cs'[2]? = some (.string s) := by
        have := congrArg (·[0]?) e2
        simpa [List.getElem?_take, List.getElem?_drop] using this
      refine ⟨(k, s.data.toList), ?_, ?_⟩
      · rw [g0] at c0
        simpa [Addr.add] using c0
      · rw [g2] at c2
        rw [c2]
    obtain ⟨f, hf'⟩ := Deep.choose_lt key
    refine ⟨some a, len, cap, fun j => (f j).1, fun j => (f j).2, rfl, by omega, fun j hj => ⟨a, rfl, ?_, (hf' j hj).1, (hf' j hj).2⟩⟩
    have := World.block_lt_of_cell? W _ (hf' j hj).1
    rwa [add_block] at this

set_option maxRecDepth 100000 in
theorem contract (H : Type) (enc : TypeId × Value → H) (W : World) (base : Nat) (args : Array Value) (ds gs : List (DataW H)) (before : List MemPlace)
    (hval : ∀ (j : Nat) t v, Tryd.f3.params[j]? = some t → args[j]? = some v → Value.okWide Tryd.prog W .any base t v)
    (hW : DataW.Whole enc Tryd.prog Tryd.f3.params.toList Rows.plainsSpec.vars false W args.toList ds gs before) (hL : laidMetH Tryd.prog Rows.plainsRow.laid W) :
    Calls Tryd.prog 3 args W fun e W' => ∃ v, e = .returned v ∧ Rows.plainsSpec.post enc Tryd.prog Tryd.f3 false true false false W args v W' := by
  have hW' := hW
  have hlt := hW.lt
  obtain ⟨p, q, hA0, hV, rfl, hfz, hnd⟩ := hW
  have hA : DataW.TrodAll enc Tryd.prog W 0 (fun _ => true) true Tryd.f3.params.toList args.toList ds p := hA0
  rw [Tryd.params3] at hA hval
  obtain ⟨v0, d0, rfl, rfl, h0⟩ := trodAll_one hA
  obtain ⟨rfl, rfl⟩ := trodVars_none hV
  obtain ⟨ao, len, cap, K, S, rfl, hm, hC⟩ := open_script (hval 0 22 v0 rfl rfl) h0
  clear hA0
  simp only [List.append_nil] at hW' hlt
  refine (plains3 ao len cap K S W (env_of_laid hL) hm hC).mono fun e W' ⟨he, hb⟩ => ?_
  subst he
  exact ⟨_, rfl, _, _, _, [], _, [], hW', trodAll_mk1 (shut_bool Tryd.underlying4 _), trodAll_mk1 (Below.trod laidOut (by kernel_rfl) (of_decide_eq_true (by kernel_rfl)) h0 hb hlt), rfl, hb.frame _, fun h => by cases h⟩
end Go.Proofs.YtihgojcfpnhelaaDoor
