import Derived.Test.YtihgojcfpnhelabGreatDoorS2Mt
import Derived.Test.YtihgojcfpnhelabGreatDoorTie
import Derived.LaidMore
import Derived.Stop.LaidErr
import Derived.Lib.SmallJoins
set_option maxRecDepth 100000
set_option maxHeartbeats 4000000
set_option linter.unusedVariables false
set_option linter.unusedSimpArgs false
namespace Go.Proofs.YtihgojcfpnhelabGreatDoor
open Go.RowKit
section
open Go.ChangeShapes Go.WideShapes Go.ChangeAt Go.RowKit
theorem block_of_var {W : World} {n : String} {g : Nat} {cs : Array Value} (hg : Tryz.prog.globalNamed n = some g) (h : W.var? Tryz.prog n = some cs) : ∃ t fr, W.heap[g]? = some (.cells cs t fr) := by
 unfold World.var? at h
 rw [hg, Option.bind_some] at h
 split at h
 ·rename_i c t fr hb
  cases h
  exact ⟨t, fr, hb⟩
 ·cases h
section
variable {H : Type} {enc : TypeId × Value → H} {P : Program} {w : World} {base : Nat} {sp : Nat → Bool} {held : Bool} {fuel : Nat} {t e : TypeId} {n : Nat} {cs : List Value} {p : List MemPlace}
theorem cells_of_strs {ss : List By} (ht : P.underlying t = some (.array n e)) (he : P.underlying e = some .string) (hce : P.cellsOf e = 1) (hct : P.cellsOf t = n)
  (h : DataW.trod enc P w base sp held fuel t cs = some (.agg (ss.map fun s => .lit (.string s)), p)) : cs = ss.map fun s => Value.string ⟨s.toArray⟩ := by
 obtain ⟨xs, m, rfl, hx, hl, hn, hel⟩ := DataW.trod_array ht h
 simp only [Prod.mk.injEq, DataW.agg.injEq] at hx
 have hsl : ss.length = n := by
  have := congrArg List.length hx.1
  simp at this
  omega
 apply List.ext_getElem?
 intro i
 by_cases hi : i < n
 ·have hf := hel i hi
  rw [List.getElem?_eq_getElem (by omega), hce] at hf
  obtain ⟨s, hc, hd, _⟩ := DataW.trod_string he hf
  have h1 : cs[i]? = some (.string s) := by
   have := congrArg (·[0]?) hc
   simpa [List.getElem?_take, List.getElem?_drop] using this
  have h2 := congrArg (·[i]?) hx.1
  simp only [List.getElem?_map, List.getElem?_eq_getElem (show i < xs.length by omega), List.getElem?_eq_getElem (show i < ss.length by omega), Option.map_some, Option.some.injEq, hd, DataW.lit.injEq, Lit.string.injEq] at h2
  rw [h1, List.getElem?_map, List.getElem?_eq_getElem (show i < ss.length by omega), h2]
  rfl
 ·rw [List.getElem?_eq_none (by omega), List.getElem?_eq_none (by simp; omega)]
theorem cells_of_pairs {ss : List (By × Int)} {f0 f1 : Field} (ht : P.underlying t = some (.array n e)) (he : P.underlying e = some (.struct #[f0, f1])) (h0 : P.underlying f0.type = some .string) (h1 : P.underlying f1.type = some (.int .i64))
  (ho0 : f0.offset = 0) (ho1 : f1.offset = 1) (hc0 : P.cellsOf f0.type = 1) (hc1 : P.cellsOf f1.type = 1) (hce : P.cellsOf e = 2) (hct : P.cellsOf t = n * 2)
  (h : DataW.trod enc P w base sp held fuel t cs = some (.agg (ss.map fun s => .agg [.lit (.string s.1), .lit (.int .i64 s.2)]), p)) : cs = ss.flatMap fun s => [Value.string ⟨s.1.toArray⟩, .int .i64 s.2] := by
 obtain ⟨xs, m, rfl, hx, hl, hn, hel⟩ := DataW.trod_array ht h
 simp only [Prod.mk.injEq, DataW.agg.injEq] at hx
 have hsl : ss.length = n := by
  have := congrArg List.length hx.1
  simp at this
  omega
 have key : ∀ i (hi : i < ss.length), cs[i * 2]? = some (.string ⟨ss[i].1.toArray⟩) ∧ cs[i * 2 + 1]? = some (.int .i64 ss[i].2) := by
  intro i hi
  have hf := hel i (by omega)
  rw [List.getElem?_eq_getElem (by omega), hce] at hf
  obtain ⟨y0, y1, m1, hy, hlen, hy0, hy1⟩ := ChangeShapes.trod_struct2 he hf
  rw [ho0, hc0] at hy0
  rw [ho1, hc1] at hy1
  obtain ⟨s, hs, hd, _⟩ := DataW.trod_string h0 hy0
  obtain ⟨z, hz, hdz, _⟩ := DataW.trod_int h1 hy1
  have e0 : cs[i * 2]? = some (.string s) := by
   have := congrArg (·[0]?) hs
   simpa [List.getElem?_take, List.getElem?_drop] using this
  have e1 : cs[i * 2 + 1]? = some (.int .i64 z) := by
   have := congrArg (·[0]?) hz
   simpa [List.getElem?_take, List.getElem?_drop] using this
  have h2 := congrArg (·[i]?) hx.1
  simp only [List.getElem?_map, List.getElem?_eq_getElem (show i < xs.length by omega), List.getElem?_eq_getElem hi, Option.map_some, Option.some.injEq, hy, hd, hdz, DataW.agg.injEq, List.cons.injEq, DataW.lit.injEq, Lit.string.injEq, Lit.int.injEq, true_and, and_true] at h2
  rw [e0, e1, h2.1, h2.2]
  exact ⟨rfl, rfl⟩
 have hlen : cs.length = ss.length * 2 := by rw [hl, hct, hsl]
 clear hx hel h hl hct hn hsl
 induction ss generalizing cs with
 | nil => simpa using hlen
 | cons s ss ih =>
  match cs, hlen with
  | [], hlen => simp at hlen
  | [_], hlen => simp at hlen; omega
  | c0 :: c1 :: cs, hlen =>
   have k0 := key 0 (by simp)
   simp at k0
   have := ih (cs := cs) (fun i hi => by
    have := key (i + 1) (by simpa using hi)
    rw [show (i + 1) * 2 = i * 2 + 1 + 1 by omega] at this
    simpa using this) (by simp at hlen; omega)
   rw [List.flatMap_cons, this, k0.1, k0.2]
   rfl
theorem cells_of_trips {ss : List (By × By × By)} {f0 f1 f2 : Field} (ht : P.underlying t = some (.array n e)) (he : P.underlying e = some (.struct #[f0, f1, f2])) (h0 : P.underlying f0.type = some .string) (h1 : P.underlying f1.type = some .string) (h2' : P.underlying f2.type = some .string)
  (ho0 : f0.offset = 0) (ho1 : f1.offset = 1) (ho2 : f2.offset = 2) (hc0 : P.cellsOf f0.type = 1) (hc1 : P.cellsOf f1.type = 1) (hc2 : P.cellsOf f2.type = 1) (hce : P.cellsOf e = 3) (hct : P.cellsOf t = n * 3)
  (h : DataW.trod enc P w base sp held fuel t cs = some (.agg (ss.map fun s => .agg [.lit (.string s.1), .lit (.string s.2.1), .lit (.string s.2.2)]), p)) : cs = ss.flatMap fun s => [Value.string ⟨s.1.toArray⟩, .string ⟨s.2.1.toArray⟩, .string ⟨s.2.2.toArray⟩] := by
 obtain ⟨xs, m, rfl, hx, hl, hn, hel⟩ := DataW.trod_array ht h
 simp only [Prod.mk.injEq, DataW.agg.injEq] at hx
 have hsl : ss.length = n := by
  have := congrArg List.length hx.1
  simp at this
  omega
 have key : ∀ i (hi : i < ss.length), cs[i * 3]? = some (.string ⟨ss[i].1.toArray⟩) ∧ cs[i * 3 + 1]? = some (.string ⟨ss[i].2.1.toArray⟩) ∧ cs[i * 3 + 2]? = some (.string ⟨ss[i].2.2.toArray⟩) := by
  intro i hi
  have hf := hel i (by omega)
  rw [List.getElem?_eq_getElem (by omega), hce] at hf
  obtain ⟨y0, y1, y2, m1, hy, hlen, hy0, hy1, hy2⟩ := Deep.trod_struct3 he hf
  rw [ho0, hc0] at hy0
  rw [ho1, hc1] at hy1
  rw [ho2, hc2] at hy2
  obtain ⟨s, hs, hd, _⟩ := DataW.trod_string h0 hy0
  obtain ⟨z, hz, hdz, _⟩ := DataW.trod_string h1 hy1
  obtain ⟨u, hu, hdu, _⟩ := DataW.trod_string h2' hy2
  have e0 : cs[i * 3]? = some (.string s) := by
   have := congrArg (·[0]?) hs
   simpa [List.getElem?_take, List.getElem?_drop] using this
  have e1 : cs[i * 3 + 1]? = some (.string z) := by
   have := congrArg (·[0]?) hz
   simpa [List.getElem?_take, List.getElem?_drop] using this
  have e2 : cs[i * 3 + 2]? = some (.string u) := by
   have := congrArg (·[0]?) hu
   simpa [List.getElem?_take, List.getElem?_drop] using this
  have h2 := congrArg (·[i]?) hx.1
  simp only [List.getElem?_map, List.getElem?_eq_getElem (show i < xs.length by omega), List.getElem?_eq_getElem hi, Option.map_some, Option.some.injEq, hy, hd, hdz, hdu, DataW.agg.injEq, List.cons.injEq, DataW.lit.injEq, Lit.string.injEq, and_true] at h2
  rw [e0, e1, e2, h2.1, h2.2.1, h2.2.2]
  exact ⟨rfl, rfl, rfl⟩
 have hlen : cs.length = ss.length * 3 := by rw [hl, hct, hsl]
 clear hx hel h hl hct hn hsl
 induction ss generalizing cs with
 | nil => simpa using hlen
 | cons s ss ih =>
  match cs, hlen with
  | [], hlen => simp at hlen
  | [_], hlen => simp at hlen; omega
  | [_, _], hlen => simp at hlen; omega
  | c0 :: c1 :: c2 :: cs, hlen =>
   have k0 := key 0 (by simp)
   simp at k0
   have := ih (cs := cs) (fun i hi => by
    have := key (i + 1) (by simpa using hi)
    rw [show (i + 1) * 3 = i * 3 + 1 + 1 + 1 by omega] at this
    simpa using this) (by simp at hlen; omega)
   rw [List.flatMap_cons, this, k0.1, k0.2.1, k0.2.2]
   rfl
theorem cells_of_quads {ss : List (By × Int × Nat × Bool)} {f0 f1 f2 f3 : Field} (ht : P.underlying t = some (.array n e)) (he : P.underlying e = some (.struct #[f0, f1, f2, f3])) (h0 : P.underlying f0.type = some .string) (h1 : P.underlying f1.type = some (.int .i64)) (h2' : P.underlying f2.type = some (.int .i64)) (h3' : P.underlying f3.type = some .bool)
  (ho0 : f0.offset = 0) (ho1 : f1.offset = 1) (ho2 : f2.offset = 2) (ho3 : f3.offset = 3) (hc0 : P.cellsOf f0.type = 1) (hc1 : P.cellsOf f1.type = 1) (hc2 : P.cellsOf f2.type = 1) (hc3 : P.cellsOf f3.type = 1) (hce : P.cellsOf e = 4) (hct : P.cellsOf t = n * 4)
  (h : DataW.trod enc P w base sp held fuel t cs = some (.agg (ss.map fun s => .agg [.lit (.string s.1), .lit (.int .i64 s.2.1), .lit (.int .i64 (s.2.2.1 : Int)), .lit (.bool s.2.2.2)]), p)) : cs = ss.flatMap fun s => [Value.string ⟨s.1.toArray⟩, .int .i64 s.2.1, .int .i64 (s.2.2.1 : Int), .bool s.2.2.2] := by
 obtain ⟨xs, m, rfl, hx, hl, hn, hel⟩ := DataW.trod_array ht h
 simp only [Prod.mk.injEq, DataW.agg.injEq] at hx
 have hsl : ss.length = n := by
  have := congrArg List.length hx.1
  simp at this
  omega
 have key : ∀ i (hi : i < ss.length), cs[i * 4]? = some (.string ⟨ss[i].1.toArray⟩) ∧ cs[i * 4 + 1]? = some (.int .i64 ss[i].2.1) ∧ cs[i * 4 + 2]? = some (.int .i64 (ss[i].2.2.1 : Int)) ∧ cs[i * 4 + 3]? = some (.bool ss[i].2.2.2) := by
  intro i hi
  have hf := hel i (by omega)
  rw [List.getElem?_eq_getElem (by omega), hce] at hf
  obtain ⟨y0, y1, y2, y3, m1, hy, hlen, hy0, hy1, hy2, hy3⟩ := Go.Joins.trod_struct4 he hf
  rw [ho0, hc0] at hy0
  rw [ho1, hc1] at hy1
  rw [ho2, hc2] at hy2
  rw [ho3, hc3] at hy3
  obtain ⟨s, hs, hd, _⟩ := DataW.trod_string h0 hy0
  obtain ⟨z, hz, hdz, _⟩ := DataW.trod_int h1 hy1
  obtain ⟨u, hu, hdu, _⟩ := DataW.trod_int h2' hy2
  obtain ⟨v, hv, hdv⟩ := DataW.trod_bool h3' hy3
  have e0 : cs[i * 4]? = some (.string s) := by
   have := congrArg (·[0]?) hs
   simpa [List.getElem?_take, List.getElem?_drop] using this
  have e1 : cs[i * 4 + 1]? = some (.int .i64 z) := by
   have := congrArg (·[0]?) hz
   simpa [List.getElem?_take, List.getElem?_drop] using this
  have e2 : cs[i * 4 + 2]? = some (.int .i64 u) := by
   have := congrArg (·[0]?) hu
   simpa [List.getElem?_take, List.getElem?_drop] using this
  have e3 : cs[i * 4 + 3]? = some (.bool v) := by
   have := congrArg (·[0]?) hv
   simpa [List.getElem?_take, List.getElem?_drop] using this
  have h2 := congrArg (·[i]?) hx.1
  simp only [List.getElem?_map, List.getElem?_eq_getElem (show i < xs.length by omega), List.getElem?_eq_getElem hi, Option.map_some, Option.some.injEq, hy, hd, hdz, hdu, hdv, DataW.agg.injEq, List.cons.injEq, DataW.lit.injEq, Lit.string.injEq, Lit.int.injEq, Lit.bool.injEq, true_and, and_true] at h2
  rw [e0, e1, e2, e3, h2.1, h2.2.1, h2.2.2.1, h2.2.2.2]
  exact ⟨rfl, rfl, rfl, rfl⟩
 have hlen : cs.length = ss.length * 4 := by rw [hl, hct, hsl]
 clear hx hel h hl hct hn hsl
 induction ss generalizing cs with
 | nil => simpa using hlen
 | cons s ss ih =>
  match cs, hlen with
  | [], hlen => simp at hlen
  | [_], hlen => simp at hlen; omega
  | [_, _], hlen => simp at hlen; omega
  | [_, _, _], hlen => simp at hlen; omega
  | c0 :: c1 :: c2 :: c3 :: cs, hlen =>
   have k0 := key 0 (by simp)
   simp at k0
   have := ih (cs := cs) (fun i hi => by
    have := key (i + 1) (by simpa using hi)
    rw [show (i + 1) * 4 = i * 4 + 1 + 1 + 1 + 1 by omega] at this
    simpa using this) (by simp at hlen; omega)
   rw [List.flatMap_cons, this, k0.1, k0.2.1, k0.2.2.1, k0.2.2.2]
   rfl
end
def spellT : List (By × By × By) := [([], [], []), ([], [], []), ([], [], []), ([105, 102, 40], [44, 32], [41]), ([], [32, 97, 110, 100, 32], []), ([], [32, 111, 114, 32], []), ([110, 111, 116, 32], [], []), ([116, 114, 117, 101], [], []), ([102, 97, 108, 115, 101], [], []), ([40], [], [41]), ([], [], []), ([], [], []), ([], [32, 43, 32], []), ([], [32, 45, 32], []), ([45], [], []), ([], [32, 42, 32], []), ([], [32, 47, 32], []), ([], [32, 37, 32], []), ([], [32, 61, 32], []), ([], [32, 60, 32], [])]
theorem gSpell : Tryz.prog.globalNamed "fields/rules.spellings" = some 5 := by kernel_rfl
theorem gMean : Tryz.prog.globalNamed "fields/token.meanings" = some 1 := by kernel_rfl
theorem gAhead : Tryz.prog.globalNamed "fields/rules.ahead" = some 3 := by kernel_rfl
theorem gBetw : Tryz.prog.globalNamed "fields/rules.between" = some 4 := by kernel_rfl
theorem gHeads : Tryz.prog.globalNamed "fields/lines.heads" = some 0 := by kernel_rfl
theorem tHeads : (Tryz.prog.globals[0]?).map (·.type) = some 76 := by kernel_rfl
theorem gLast : Tryz.prog.globalNamed "math/bits.deBruijn64tab" = some 10 := by kernel_rfl
theorem tSpell : (Tryz.prog.globals[5]?).map (·.type) = some 208 := by kernel_rfl
theorem tMean : (Tryz.prog.globals[1]?).map (·.type) = some 139 := by kernel_rfl
theorem tAhead : (Tryz.prog.globals[3]?).map (·.type) = some 198 := by kernel_rfl
theorem tBetw : (Tryz.prog.globals[4]?).map (·.type) = some 198 := by kernel_rfl
theorem tRange : (Tryz.prog.globals[8]?).map (·.type) = some 131 := by kernel_rfl
theorem tPow : (Tryz.prog.globals[6]?).map (·.type) = some 220 := by kernel_rfl
theorem star : "*" ++ "errors.errorString" = "*errors.errorString" := by decide
theorem row115 (u : TypeId) (h : Tryz.prog.typeName? 3 u = some "*errors.errorString") : u = 248 :=
 typeName_ptr_named (nm := "errors.errorString") (by rw [star]; kernel_rfl) (by kernel_rfl) (by decide) u (by rw [star]; exact h)
theorem range_of_laid {W : World} (h : laidMet Tryz.prog Rows.firmRow.laid W) : ∃ tp p, W.var? Tryz.prog "strconv.ErrRange" = some #[.iface tp p] := by
 obtain ⟨a, s, hv, _⟩ := laid_sentinel (n := "strconv.ErrRange") h.tail.tail.tail gRange tRange Tryz.underlying131 row115 Tryz.underlying248 Tryz.underlying250 rfl rfl Tryz.underlying9 (by kernel_rfl) (by kernel_rfl)
 exact ⟨_, _, hv⟩
theorem env_of_laid {W : World} (h : laidMetH Tryz.prog Rows.firmRow.laid W) : Env W ∧ EnvL W := by
 rw [MakeChecks.laidMetH_plain _ _ _ (by kernel_rfl)] at h
 have hR := range_of_laid h
 obtain ⟨ps, ⟨g7, t7, cs7, f7, p7, q7, hg7, ht7, hv7, hd7, ⟨g8, t8, cs8, f8, p8, q8, hg8, ht8, hv8, hd8, ⟨g6, t6, cs6, f6, p6, q6, hg6, ht6, hv6, hd6, ⟨g5, t5, cs5, f5, p5, q5, hg5, ht5, hv5, hd5, ⟨g4, t4, cs4, f4, p4, q4, hg4, ht4, hv4, hd4,
  ⟨g1, t1, cs1, f1, p1, q1, hg1, ht1, hv1, hd1, ⟨g0, t0, cs0, f0, p0, q0, hg0, ht0, hv0, hd0, ⟨g3, t3, cs3, f3, p3, q3, hg3, ht3, hv3, hd3, ⟨g2, t2, cs2, f2, p2, q2, hg2, ht2, hv2, hd2, ⟨g9, t9, cs9, f9, p9, q9, hg9, ht9, hv9, hd9, _, _⟩, _⟩, _⟩, _⟩, _⟩, _⟩, _⟩, _⟩, _⟩, _⟩, _, _⟩ := h
 obtain rfl := Option.some.inj (gSpell.symm.trans hg0)
 obtain rfl := Option.some.inj (gMean.symm.trans hg1)
 obtain rfl := Option.some.inj (gAhead.symm.trans hg2)
 obtain rfl := Option.some.inj (gBetw.symm.trans hg3)
 obtain rfl := Option.some.inj (gRange.symm.trans hg5)
 obtain rfl := Option.some.inj (gPow.symm.trans hg6)
 obtain rfl := Option.some.inj (gLast.symm.trans hg8)
 obtain rfl := Option.some.inj (gHeads.symm.trans hg9)
 obtain rfl := Option.some.inj (tHeads.symm.trans ht9)
 obtain rfl := Option.some.inj (tSpell.symm.trans ht0)
 obtain rfl := Option.some.inj (tMean.symm.trans ht1)
 obtain rfl := Option.some.inj (tAhead.symm.trans ht2)
 obtain rfl := Option.some.inj (tBetw.symm.trans ht3)
 obtain rfl := Option.some.inj (tRange.symm.trans ht5)
 obtain rfl := Option.some.inj (tPow.symm.trans ht6)
 refine ⟨⟨?_, ?_, ?_, ?_, ?_, ?_, ?_⟩, ?_⟩
 ·have := cells_of_trips (ss := spellT) Tryz.underlying208 Tryz.underlying207 Tryz.underlying9 Tryz.underlying9 Tryz.underlying9 rfl rfl rfl (by kernel_rfl) (by kernel_rfl) (by kernel_rfl) (by kernel_rfl) (by kernel_rfl) hd0
  have e : cs0 = spellC := Array.toList_inj.1 (this.trans rfl)
  rw [e] at hv0
  exact block_of_var gSpell hv0
 ·have := cells_of_pairs (ss := meanW) Tryz.underlying139 Tryz.underlying138 Tryz.underlying9 Tryz.underlying46 rfl rfl (by kernel_rfl) (by kernel_rfl) (by kernel_rfl) (by kernel_rfl) hd1
  have e : cs1 = meanC := Array.toList_inj.1 this
  rw [e] at hv1
  exact block_of_var gMean hv1
 ·have := Lib.cells_of_tab (zs := aheadW) Tryz.underlying198 Tryz.underlying3 (by kernel_rfl) (by kernel_rfl) hd2
  have e : cs2 = aheadC := Array.toList_inj.1 this
  rw [e] at hv2
  exact block_of_var gAhead hv2
 ·have := Lib.cells_of_tab (zs := betwW) Tryz.underlying198 Tryz.underlying3 (by kernel_rfl) (by kernel_rfl) hd3
  have e : cs3 = betwC := Array.toList_inj.1 this
  rw [e] at hv3
  exact block_of_var gBetw hv3
 ·exact hR
 ·have := Lib.cells_of_tab (zs := Lib.pow10Tab) Tryz.underlying220 Tryz.underlying187 (by kernel_rfl) (by kernel_rfl) hd6
  unfold Lib.TabIs
  rw [hv6, ← this]
 ·obtain ⟨t, fr, hb⟩ := block_of_var gLast hv8
  rcases Nat.lt_or_ge 10 W.heap.size with h | h
  ·exact h
  ·rw [Array.getElem?_eq_none h] at hb
   cases hb
 ·have := cells_of_quads (ss := headsW) Tryz.underlying76 Tryz.underlying75 Tryz.underlying9 Tryz.underlying45 Tryz.underlying3 Tryz.underlying4 rfl rfl rfl rfl (by kernel_rfl) (by kernel_rfl) (by kernel_rfl) (by kernel_rfl) (by kernel_rfl) (by kernel_rfl) hd9
  have e : cs9 = headsC := Array.toList_inj.1 (this.trans rfl)
  rw [e] at hv9
  exact block_of_var gHeads hv9
end
end Go.Proofs.YtihgojcfpnhelabGreatDoor
