import Derived.Test.YtihgojcfpnhelaaGreatDoorR2Za
import Derived.Test.YtihgojcfpnhelaaGreatDoorTie
import Derived.ProofKit
import Derived.LaidMore
import Derived.OpenShut
import Derived.Stop.LaidErr
import Derived.Lib.LaidTab
import Derived.Deep.Strs
import Derived.Lib.SmallJoins
import Derived.ChangeArms
set_option maxRecDepth 100000
set_option maxHeartbeats 4000000
set_option linter.unusedVariables false
set_option linter.unusedSimpArgs false
namespace Go.Proofs.YtihgojcfpnhelaaGreatDoor
open Go.RowKit
section
attribute [local go_sem] idx_eq app_eq
def headsW : List (By × Int × Nat × Bool) :=
 [([115, 101, 116], 1, 1, true), ([100, 101, 108, 101, 116, 101], 2, 1, false), ([114, 101, 110, 97, 109, 101], 3, 2, false), ([98, 101, 103, 105, 110], 4, 0, false),
  ([99, 111, 109, 109, 105, 116], 5, 0, false), ([99, 97, 110, 99, 101, 108], 6, 0, false), ([117, 110, 100, 111], 7, 0, false), ([114, 101, 100, 111], 8, 0, false),
  ([118, 97, 108, 117, 101], 9, 1, false), ([114, 117, 108, 101], 10, 1, false), ([108, 105, 115, 116], 11, 0, false), ([111, 114, 100, 101, 114], 12, 0, false)]
def headsC : Array Value := (headsW.flatMap fun x => [Value.string ⟨x.1.toArray⟩, .int .i64 x.2.1, .int .i64 (x.2.2.1 : Int), .bool x.2.2.2]).toArray
def EnvL (w : World) : Prop := ∃ t fr, w.heap[0]? = some (.cells headsC t fr)
theorem EnvL.next {w w' : World} (h : EnvL w) (hE : Env w) (hb : Below w.heap.size w w') : EnvL w' := by
 obtain ⟨t, fr, h⟩ := h
 exact ⟨t, fr, (hb.block _ (by have := hE.size; omega)).trans h⟩
theorem head_idx (k : Nat) (h : k < 12) (w : World) : (Instr.index 145 (.agg headsC) (.int .i64 (k : Int))).run Tryz.prog w = .ok (.agg #[.string ⟨((headsW[k]'h).1).toArray⟩, .int .i64 (headsW[k]'h).2.1, .int .i64 ((headsW[k]'h).2.2.1 : Int), .bool (headsW[k]'h).2.2.2]) w := by
 rcases (show k = 0 ∨ k = 1 ∨ k = 2 ∨ k = 3 ∨ k = 4 ∨ k = 5 ∨ k = 6 ∨ k = 7 ∨ k = 8 ∨ k = 9 ∨ k = 10 ∨ k = 11 by omega) with h | h | h | h | h | h | h | h | h | h | h | h <;> subst h <;> kernel_rfl
def LineT (len : Nat) (ts : List (By × Nat)) (r : LnR) : Prop :=
 (∃ k, ∃ h : k < 12, (headsW[k]'h).1 = nT ts 0 ∧ HeadP len ts (headsW[k]'h).2.1 (headsW[k]'h).2.2.1 (headsW[k]'h).2.2.2 r) ∨
 ((∀ k (h : k < 12), (headsW[k]'h).1 ≠ nT ts 0) ∧ r = .err 0 3 (pAt len ts 0))
def LineP (s : By) (r : LnR) : Prop :=
 (120 < s.length ∧ r = .err 0 1 0) ∨ (s.length ≤ 120 ∧ ∃ p, (toksOf s).2 = some p ∧ r = .err 0 2 p) ∨ (s.length ≤ 120 ∧ ∃ ts, toksOf s = (ts, none) ∧ LineT s.length ts r)
def LrPost (s : By) (w : World) (e : Ending) (w' : World) : Prop := ∃ r, LineP s r ∧ RetL r w e w' ∧ Below w.heap.size w w'
theorem heads_facts : ∀ x, x ∈ headsW → x.1 ≠ [] ∧ x.2.2.1 ≤ 2 := by decide
theorem RetL.form {r : LnR} {W w1 : World} {e : Ending} (h : RetL r W e w1) : ∃ (vb : Int) (an : Option Addr) (ln cn : Nat) (k : Int) (nm : By) (n : Int) (a : Option Addr) (l c : Nat) (er p : Int), e = .returned (.tuple #[.agg #[.int .i64 vb, .slice an ln cn, .int .i64 k, .string ⟨nm.toArray⟩, .int .i64 n, .slice a l c], .int .i64 er, .int .i64 p]) :=
 match r, h with
 | .err vb er p, h => ⟨vb, none, 0, 0, 0, [], 0, none, 0, 0, er, p, h⟩
 | .ok vb ns none, ⟨an, ln, cn, h, _⟩ => ⟨vb, an, ln, cn, 0, [], 0, none, 0, 0, 0, 0, h⟩
 | .ok vb ns (some t), ⟨an, ln, cn, a, l, c, h, _⟩ => ⟨vb, an, ln, cn, _, _, _, a, l, c, 0, 0, h⟩
theorem RetL.put {r : LnR} {w W w1 : World} {e : Ending} (h : RetL r W e w1) (hw : w.heap.size < W.heap.size) (v0 v1 v2 v3 v4 v5 : Value) :
  RetL r w e ((((((w1.setCell ⟨w.heap.size, 0, none⟩ v0).setCell ⟨w.heap.size, 1, none⟩ v1).setCell ⟨w.heap.size, 2, none⟩ v2).setCell ⟨w.heap.size, 3, none⟩ v3).setCell ⟨w.heap.size, 4, none⟩ v4).setCell ⟨w.heap.size, 5, none⟩ v5) := by
 have own : ∀ {an ln cn n xs}, w1.ownsRow W.heap.size 9 1 (.slice an ln cn) n xs → ((((((w1.setCell ⟨w.heap.size, 0, none⟩ v0).setCell ⟨w.heap.size, 1, none⟩ v1).setCell ⟨w.heap.size, 2, none⟩ v2).setCell ⟨w.heap.size, 3, none⟩ v3).setCell ⟨w.heap.size, 4, none⟩ v4).setCell ⟨w.heap.size, 5, none⟩ v5).ownsRow w.heap.size 9 1 (.slice an ln cn) n xs := fun h =>
  own_base (own_set (own_set (own_set (own_set (own_set (own_set h hw) hw) hw) hw) hw) hw) (Nat.le_of_lt hw)
 match r, h with
 | .err vb er p, h => exact h
 | .ok vb ns none, h =>
  obtain ⟨an, ln, cn, h1, h2⟩ := h
  exact ⟨an, ln, cn, h1, own h2⟩
 | .ok vb ns (some t), h =>
  obtain ⟨an, ln, cn, a, l, c, h1, h2, h3⟩ := h
  refine ⟨an, ln, cn, a, l, c, h1, own h2, (h3.next fun q hq => ?_).wide fun q hq => ?_⟩
  ·have := hq.1
   rw [heap6 _ _ _ (by omega)]
  ·have h1 := hq.1
   have h2 := hq.2
   simp
   omega
theorem linesLong (s : By) (w : World) (h : 120 < s.length) : Calls Tryz.prog 46 #[.string ⟨s.toArray⟩] w (LrPost s w) := by
 have H := tZ (fun W => scan_long s W h)
 have HA := tZ (show LineP s (.err 0 1 0) from Or.inl ⟨h, rfl⟩)
 clear h
 go_enter Tryz.func46, Tryz.ntmps46
 go_wp2_with (first | (go_at_call 42; refine (H.out _).mono ?_; rintro e w' ⟨rfl, rfl⟩))
 refine bodyPost_ret (v := .tuple #[.agg #[.int .i64 0, .slice none 0 0, .int .i64 0, .string ⟨#[]⟩, .int .i64 0, .slice none 0 0], .int .i64 1, .int .i64 0]) (by simp [results, Tryz.results46, go_sem]) rfl ?_
 exact ⟨_, HA.out, rfl, (Below.refl _ _).alloc (Nat.le_refl _) _⟩
theorem linesBad (s : By) (w : World) (p : Nat) (hE : Env w) (hl : s.length ≤ 120) (h : (toksOf s).2 = some p) : Calls Tryz.prog 46 #[.string ⟨s.toArray⟩] w (LrPost s w) := by
 have H := tZ (fun W (hb : Below w.heap.size w W) => scan_bad s W p (hE.next hb) hl h)
 have HA := tZ (show LineP s (.err 0 2 p) from Or.inr (Or.inl ⟨hl, p, h, rfl⟩))
 clear h
 go_enter Tryz.func46, Tryz.ntmps46
 go_wp2_with (first | (go_at_call 42; refine (H.out _ (bZ _)).mono ?_; rintro e w1 ⟨rfl, hb⟩; refine Hid.out ?_))
 obtain ⟨⟨q0, q1, q2, q3, q4, q5⟩, ⟨r0, r1, r2, r3, r4, r5⟩, hsq⟩ := row6 ((hb.block w.heap.size (by simp)).trans (heap_alloc_new w _))
 have HB := tZ (show Below w.heap.size w w1 from (bZ _).trans (hb.mono (by simp)))
 clear hb H
 refine tZ ?_
 go_wp2
 refine bodyPost_ret (v := .tuple #[.agg #[.int .i64 0, .slice none 0 0, .int .i64 0, .string ⟨#[]⟩, .int .i64 0, .slice none 0 0], .int .i64 2, .int .i64 (p : Int)]) (by simp [results, Tryz.results46, go_sem, q0, q1, q2, q3, q4, q5, hsq]) rfl ?_
 exact ⟨_, HA.out, rfl, below6 HB.out _ (Nat.le_refl _) _ _ _ _ _ _⟩
theorem linesOk (s : By) (w : World) (ts : List (By × Nat)) (hE : Env w) (hEL : EnvL w) (hl : s.length ≤ 120) (h : toksOf s = (ts, none)) (hok : OkT ts) (hN : ts.length ≤ 120) (hlen : ∀ t p, (t, p) ∈ ts → t.length ≤ 19) : Calls Tryz.prog 46 #[.string ⟨s.toArray⟩] w (LrPost s w) := by
 have H := tZ (fun W (hb : Below w.heap.size w W) => scan_ok s W ts (hE.next hb) hl h)
 have HA := tZ (show ∀ r, LineT s.length ts r → LineP s r from fun r hr => Or.inr (Or.inr ⟨hl, ts, h, hr⟩))
 have HH := tZ (fun k (hk : k < 12) W (hb : Below w.heap.size w W) bl cp B0 (hB0 : 11 ≤ B0) (h1 : 1 ≤ ts.length) (hown : W.ownsRow B0 134 4 (.slice (some ⟨bl, 0, none⟩) (ts.length + 1) cp) (ts.length + 1) (pcells ts ++ endC s.length)) => headRead s ts bl cp B0 (headsW[k]'hk).2.2.1 (headsW[k]'hk).1 (headsW[k]'hk).2.1 (headsW[k]'hk).2.2.2 W (hE.next hb) hB0 hok hN hlen (heads_facts _ (List.getElem_mem hk)).2 h1 hown)
 have HE := tZ hE
 have HEL := tZ hEL
 clear h hok hlen hE hEL
 go_enter Tryz.func46, Tryz.ntmps46
 go_wp2_with (first | (go_at_call 42; refine (H.out _ (bZ _)).mono ?_; rintro e w1 ⟨v, rfl, hown, hb⟩; refine Hid.out ?_))
 have hR := (hb.block w.heap.size (by simp)).trans (heap_alloc_new w _)
 have HB := tZ (show Below w.heap.size w w1 from (bZ _).trans (hb.mono (by simp)))
 obtain ⟨bl, cp, rfl, hbl, hblw⟩ := hown.form (by omega)
 obtain ⟨c0, c1, c2, _, hcp⟩ := tok_cells hown 0 (by omega)
 simp only [Nat.zero_mul, Nat.zero_add] at c0 c1 c2
 simp at hbl
 have HO := tZ hown
 have HR := tZ hR
 obtain ⟨tt, fr, hm⟩ := HEL.out.next HE.out HB.out
 have HM := tZ hm
 have hnn : (0 : Int) < (ts.length : Int) + 1 := by omega
 clear hb hown H hR hm
 refine tZ ?_
 go_wp2_with (refine wpList_load_row rfl 145 _ rfl 0 rfl tt _ fr _ HM.out Tryz.underlying145 rfl (by kernel_rfl) ?_)
 go_loopg [9, 22] 12 (fun gk _ s22 wr => ∃ k : Nat, k ≤ 12 ∧ 12 ≤ k + gk ∧ s22 = .int .i64 (k : Int) ∧ Hid (Below w1.heap.size w1 wr) ∧ Hid (∀ j (hj : j < 12), j < k → (headsW[j]'hj).1 ≠ nT ts 0))
 case atStart => exact ⟨0, by omega, by omega, rfl, Below.refl _ _, fun _ _ h => by omega⟩
 case round =>
  obtain ⟨k, hk, hgk, rfl, HBr, HN⟩ := hrel
  have hsr := HBr.out.size
  have hsw := HB.out.size
  have d1 := (HBr.out.cell (p := ⟨bl, 1, none⟩) hblw).trans c1
  have d2 := (HBr.out.cell (p := ⟨bl, 2, none⟩) hblw).trans c2
  have hblr : bl < wr.heap.size := by omega
  have hwr : w.heap.size < wr.heap.size := by omega
  clear c0 c1 c2
  by_cases hlt : k < 12
  ·have hix := head_idx k hlt
   have hltz : (k : Int) < 12 := by omega
   by_cases he : (headsW[k]'hlt).1 = nT ts 0
   ·have heb : (nT ts 0 == (headsW[k]'hlt).1) = true := by simp [he]
    have h1 : 1 ≤ ts.length := by
     rcases Nat.eq_zero_or_pos ts.length with h0 | h0
     ·have := (heads_facts _ (List.getElem_mem hlt)).1
      rw [he] at this
      simp [nT, h0] at this
     ·exact h0
    obtain ⟨y, rfl⟩ : ∃ y, cp = y + 2 := ⟨cp - 2, by omega⟩
    have HBW := tZ (show Below w.heap.size w wr from HB.out.trans (HBr.out.mono hsw))
    have HC := tZ (fun W (hW : Below wr.heap.size wr W) => HH.out k hlt W (HBW.out.trans (hW.mono HBW.out.size)) bl (y + 2) w.heap.size HE.out.size h1 (own_base (own_below (own_below HO.out HBr.out) hW) (by simp)))
    have HT := tZ (fun r (hr : HeadP s.length ts (headsW[k]'hlt).2.1 (headsW[k]'hlt).2.2.1 (headsW[k]'hlt).2.2.2 r) => HA.out r (Or.inl ⟨k, hlt, he, hr⟩))
    have hy1 : (1 : Int) ≤ (ts.length : Int) + 1 := by omega
    have hy2 : (ts.length : Int) + 1 ≤ (y : Int) + 2 := by omega
    clear he HN
    generalize headsW[k]'hlt = hd at *
    obtain ⟨wd, vb, n, rl⟩ := hd
    simp only at *
    go_wp2_with fail
    go_region
    have HBA := tZ (show Below wr.heap.size wr (wr.alloc (.cells #[.string ⟨wd.toArray⟩, .int .i64 vb, .int .i64 (n : Int), .bool rl] 144)).drew.drew from (bZ _).drew.drew)
    have HRW := tZ (fun w2 (hb2 : Below (wr.alloc (.cells #[.string ⟨wd.toArray⟩, .int .i64 vb, .int .i64 (n : Int), .bool rl] 144)).drew.drew.heap.size (wr.alloc (.cells #[.string ⟨wd.toArray⟩, .int .i64 vb, .int .i64 (n : Int), .bool rl] 144)).drew.drew w2) => row6 ((hb2.block w.heap.size (by simp; omega)).trans ((HBA.out.block w.heap.size hwr).trans ((HBr.out.block w.heap.size (by omega)).trans HR.out))))
    have HC2 := tZ (HC.out _ HBA.out)
    go_wp2_with fail
    go_region_with (first | (go_at_call 64; refine HC2.out.mono ?_; rintro e w2 ⟨r, hr, hret, hb2⟩; obtain ⟨vb', an, ln, cn, k', nm', n', a, l, c, er, p, rfl⟩ := hret.form; obtain ⟨⟨q0, q1, q2, q3, q4, q5⟩, ⟨r0, r1, r2, r3, r4, r5⟩, hsq⟩ := HRW.out _ hb2; have HR3 := tZ hr; have HR4 := tZ hret; have HB3 := tZ hb2; clear hr hret hb2))
    all_goals go_wp2
    all_goals refine bodyPost_ret (v := .tuple #[.agg #[.int .i64 vb', .slice an ln cn, .int .i64 k', .string ⟨nm'.toArray⟩, .int .i64 n', .slice a l c], .int .i64 er, .int .i64 p]) (by simp [results, Tryz.results46, go_sem, q0, q1, q2, q3, q4, q5, hsq]) rfl ?_
    all_goals exact ⟨_, HT.out _ HR3.out, HR4.out.put (by simp; omega) _ _ _ _ _ _, below6 (HBW.out.trans ((HBA.out.trans (HB3.out.mono (by simp))).mono HBW.out.size)) _ (Nat.le_refl _) _ _ _ _ _ _⟩
   ·have heb : (nT ts 0 == (headsW[k]'hlt).1) = false := beq_eq_false_iff_ne.2 fun h => he h.symm
    have HN2 := tZ (show ∀ j (hj : j < 12), j < k + 1 → (headsW[j]'hj).1 ≠ nT ts 0 from fun j hj hjk => by
     rcases Nat.lt_or_ge j k with h1 | h1
     ·exact HN.out j hj h1
     ·obtain rfl : j = k := by omega
      exact he)
    clear he HN HH
    generalize headsW[k]'hlt = hd at *
    obtain ⟨wd, vb, n, rl⟩ := hd
    simp only at *
    go_wp2_with fail
    go_region
    go_wp2
    go_roundg (12 - (k + 1))
    case measure => omega
    case rel => exact ⟨k + 1, by omega, by omega, by go_num, (HBr.out.alloc hsr _).drew, HN2⟩
  ·have hltz : ¬ (k : Int) < 12 := by omega
   obtain ⟨⟨q0, q1, q2, q3, q4, q5⟩, ⟨r0, r1, r2, r3, r4, r5⟩, hsq⟩ := row6 ((HBr.out.block w.heap.size (by omega)).trans HR.out)
   have HT := tZ (HA.out (.err 0 3 (pAt s.length ts 0)) (Or.inr ⟨fun j hj => HN.out j hj (by omega), rfl⟩))
   have HB4 := tZ (show Below w.heap.size w wr from HB.out.trans (HBr.out.mono hsw))
   clear HN HH
   generalize pAt s.length ts 0 = pos at *
   go_wp2_with fail
   go_region
   all_goals go_wp2
   all_goals refine bodyPost_ret (v := .tuple #[.agg #[.int .i64 0, .slice none 0 0, .int .i64 0, .string ⟨#[]⟩, .int .i64 0, .slice none 0 0], .int .i64 3, .int .i64 (pos : Int)]) (by simp [results, Tryz.results46, go_sem, q0, q1, q2, q3, q4, q5, hsq]) rfl ?_
   all_goals exact ⟨_, HT.out, rfl, (below6 HB4.out _ (Nat.le_refl _) _ _ _ _ _ _).drew⟩
theorem linesRead (s : By) (w : World) (hE : Env w) (hEL : EnvL w) : Calls Tryz.prog 46 #[.string ⟨s.toArray⟩] w (LrPost s w) := by
 by_cases hl : 120 < s.length
 ·exact linesLong s w hl
 ·have hl' : s.length ≤ 120 := by omega
  cases h : (toksOf s).2 with
  | some p => exact linesBad s w p hE hl' h
  | none =>
   have h' : toksOf s = ((toksOf s).1, none) := by rw [← h]
   have htk : toks s.length s 0 = ((toksOf s).1, none) := h'
   have hmem : ∀ t p, (t, p) ∈ (toksOf s).1 → (t, p) ∈ (toks s.length s 0).1 := fun t p hm => hm
   refine linesOk s w (toksOf s).1 hE hEL hl' h' (fun t p hm => ⟨⟨toks_ok _ _ _ t p (hmem t p hm), toks_good _ _ _ t p (hmem t p hm)⟩, toks_allD _ _ _ t p (hmem t p hm)⟩) ?_ (fun t p hm => toks_len19 _ _ _ t p (hmem t p hm))
   exact Nat.le_trans (toks_length s.length s 0) hl'
end
section
open Go.ChangeShapes Go.WideShapes Go.ChangeAt Go.RowKit
theorem block_of_var {W : World} {n : String} {g : Nat} {cs : Array Value} (hg : Tryz.prog.globalNamed n = some g) (h : W.var? Tryz.prog n = some cs) : ∃ t fr, W.heap[g]? = some (.cells cs t fr) := by
 unfold World.var? at h
 rw [hg, Option.bind_some] at h
 split at h
 ·rename_i c t fr hb
  cases h
  exact ⟨t, fr, hb⟩
 ·cases h
section
variable {H : Type} {enc : TypeId × Value → H} {P : Program} {w : World} {base : Nat} {sp : Nat → Bool} {held : Bool} {fuel : Nat} {t e : TypeId} {n : Nat} {cs : List Value} {p : List MemPlace}
theorem cells_of_strs {ss : List By} (ht : P.underlying t = some (.array n e)) (he : P.underlying e = some .string) (hce : P.cellsOf e = 1) (hct : P.cellsOf t = n)
  (h : DataW.trod enc P w base sp held fuel t cs = some (.agg (ss.map fun s => .lit (.string s)), p)) : cs = ss.map fun s => Value.string ⟨s.toArray⟩ := by
 obtain ⟨xs, m, rfl, hx, hl, hn, hel⟩ := DataW.trod_array ht h
 simp only [Prod.mk.injEq, DataW.agg.injEq] at hx
 have hsl : ss.length = n := by
  have := congrArg List.length hx.1
  simp at this
  omega
 apply List.ext_getElem?
 intro i
 by_cases hi : i < n
 ·have hf := hel i hi
  rw [List.getElem?_eq_getElem (by omega), hce] at hf
  obtain ⟨s, hc, hd, _⟩ := DataW.trod_string he hf
  have h1 : cs[i]? = some (.string s) := by
   have := congrArg (·[0]?) hc
   simpa [List.getElem?_take, List.getElem?_drop] using this
  have h2 := congrArg (·[i]?) hx.1
  simp only [List.getElem?_map, List.getElem?_eq_getElem (show i < xs.length by omega), List.getElem?_eq_getElem (show i < ss.length by omega), Option.map_some, Option.some.injEq, hd, DataW.lit.injEq, Lit.string.injEq] at h2
  rw [h1, List.getElem?_map, List.getElem?_eq_getElem (show i < ss.length by omega), h2]
  rfl
 ·rw [List.getElem?_eq_none (by omega), List.getElem?_eq_none (by simp; omega)]
theorem cells_of_pairs {ss : List (By × Int)} {f0 f1 : Field} (ht : P.underlying t = some (.array n e)) (he : P.underlying e = some (.struct #[f0, f1])) (h0 : P.underlying f0.type = some .string) (h1 : P.underlying f1.type = some (.int .i64))
  (ho0 : f0.offset = 0) (ho1 : f1.offset = 1) (hc0 : P.cellsOf f0.type = 1) (hc1 : P.cellsOf f1.type = 1) (hce : P.cellsOf e = 2) (hct : P.cellsOf t = n * 2)
  (h : DataW.trod enc P w base sp held fuel t cs = some (.agg (ss.map fun s => .agg [.lit (.string s.1), .lit (.int .i64 s.2)]), p)) : cs = ss.flatMap fun s => [Value.string ⟨s.1.toArray⟩, .int .i64 s.2] := by
 obtain ⟨xs, m, rfl, hx, hl, hn, hel⟩ := DataW.trod_array ht h
 simp only [Prod.mk.injEq, DataW.agg.injEq] at hx
 have hsl : ss.length = n := by
  have := congrArg List.length hx.1
  simp at this
  omega
 have key : ∀ i (hi : i < ss.length), cs[i * 2]? = some (.string ⟨ss[i].1.toArray⟩) ∧ cs[i * 2 + 1]? = some (.int .i64 ss[i].2) := by
  intro i hi
  have hf := hel i (by omega)
  rw [List.getElem?_eq_getElem (by omega), hce] at hf
  obtain ⟨y0, y1, m1, hy, hlen, hy0, hy1⟩ := ChangeShapes.trod_struct2 he hf
  rw [ho0, hc0] at hy0
  rw [ho1, hc1] at hy1
  obtain ⟨s, hs, hd, _⟩ := DataW.trod_string h0 hy0
  obtain ⟨z, hz, hdz, _⟩ := DataW.trod_int h1 hy1
  have e0 : cs[i * 2]? = some (.string s) := by
   have := congrArg (·[0]?) hs
   simpa [List.getElem?_take, List.getElem?_drop] using this
  have e1 : cs[i * 2 + 1]? = some (.int .i64 z) := by
   have := congrArg (·[0]?) hz
   simpa [List.getElem?_take, List.getElem?_drop] using this
  have h2 := congrArg (·[i]?) hx.1
  simp only [List.getElem?_map, List.getElem?_eq_getElem (show i < xs.length by omega), List.getElem?_eq_getElem hi, Option.map_some, Option.some.injEq, hy, hd, hdz, DataW.agg.injEq, List.cons.injEq, DataW.lit.injEq, Lit.string.injEq, Lit.int.injEq, true_and, and_true] at h2
  rw [e0, e1, h2.1, h2.2]
  exact ⟨rfl, rfl⟩
 have hlen : cs.length = ss.length * 2 := by rw [hl, hct, hsl]
 clear hx hel h hl hct hn hsl
 induction ss generalizing cs with
 | nil => simpa using hlen
 | cons s ss ih =>
  match cs, hlen with
  | [], hlen => simp at hlen
  | [_], hlen => simp at hlen; omega
  | c0 :: c1 :: cs, hlen =>
   have k0 := key 0 (by simp)
   simp at k0
   have := ih (cs := cs) (fun i hi => by
    have := key (i + 1) (by simpa using hi)
    rw [show (i + 1) * 2 = i * 2 + 1 + 1 by omega] at this
    simpa using this) (by simp at hlen; omega)
   rw [List.flatMap_cons, this, k0.1, k0.2]
   rfl
theorem cells_of_trips {ss : List (By × By × By)} {f0 f1 f2 : Field} (ht : P.underlying t = some (.array n e)) (he : P.underlying e = some (.struct #[f0, f1, f2])) (h0 : P.underlying f0.type = some .string) (h1 : P.underlying f1.type = some .string) (h2' : P.underlying f2.type = some .string)
  (ho0 : f0.offset = 0) (ho1 : f1.offset = 1) (ho2 : f2.offset = 2) (hc0 : P.cellsOf f0.type = 1) (hc1 : P.cellsOf f1.type = 1) (hc2 : P.cellsOf f2.type = 1) (hce : P.cellsOf e = 3) (hct : P.cellsOf t = n * 3)
  (h : DataW.trod enc P w base sp held fuel t cs = some (.agg (ss.map fun s => .agg [.lit (.string s.1), .lit (.string s.2.1), .lit (.string s.2.2)]), p)) : cs = ss.flatMap fun s => [Value.string ⟨s.1.toArray⟩, .string ⟨s.2.1.toArray⟩, .string ⟨s.2.2.toArray⟩] := by
 obtain ⟨xs, m, rfl, hx, hl, hn, hel⟩ := DataW.trod_array ht h
 simp only [Prod.mk.injEq, DataW.agg.injEq] at hx
 have hsl : ss.length = n := by
  have := congrArg List.length hx.1
  simp at this
  omega
 have key : ∀ i (hi : i < ss.length), cs[i * 3]? = some (.string ⟨ss[i].1.toArray⟩) ∧ cs[i * 3 + 1]? = some (.string ⟨ss[i].2.1.toArray⟩) ∧ cs[i * 3 + 2]? = some (.string ⟨ss[i].2.2.toArray⟩) := by
  intro i hi
  have hf := hel i (by omega)
  rw [List.getElem?_eq_getElem (by omega), hce] at hf
  obtain ⟨y0, y1, y2, m1, hy, hlen, hy0, hy1, hy2⟩ := Deep.trod_struct3 he hf
  rw [ho0, hc0] at hy0
  rw [ho1, hc1] at hy1
  rw [ho2, hc2] at hy2
  obtain ⟨s, hs, hd, _⟩ := DataW.trod_string h0 hy0
  obtain ⟨z, hz, hdz, _⟩ := DataW.trod_string h1 hy1
  obtain ⟨u, hu, hdu, _⟩ := DataW.trod_string h2' hy2
  have e0 : cs[i * 3]? = some (.string s) := by
   have := congrArg (·[0]?) hs
   simpa [List.getElem?_take, List.getElem?_drop] using this
  have e1 : cs[i * 3 + 1]? = some (.string z) := by
   have := congrArg (·[0]?) hz
   simpa [List.getElem?_take, List.getElem?_drop] using this
  have e2 : cs[i * 3 + 2]? = some (.string u) := by
   have := congrArg (·[0]?) hu
   simpa [List.getElem?_take, List.getElem?_drop] using this
  have h2 := congrArg (·[i]?) hx.1
  simp only [List.getElem?_map, List.getElem?_eq_getElem (show i < xs.length by omega), List.getElem?_eq_getElem hi, Option.map_some, Option.some.injEq, hy, hd, hdz, hdu, DataW.agg.injEq, List.cons.injEq, DataW.lit.injEq, Lit.string.injEq, and_true] at h2
  rw [e0, e1, e2, h2.1, h2.2.1, h2.2.2]
  exact ⟨rfl, rfl, rfl⟩
 have hlen : cs.length = ss.length * 3 := by rw [hl, hct, hsl]
 clear hx hel h hl hct hn hsl
 induction ss generalizing cs with
 | nil => simpa using hlen
 | cons s ss ih =>
  match cs, hlen with
  | [], hlen => simp at hlen
  | [_], hlen => simp at hlen; omega
  | [_, _], hlen => simp at hlen; omega
  | c0 :: c1 :: c2 :: cs, hlen =>
   have k0 := key 0 (by simp)
   simp at k0
   have := ih (cs := cs) (fun i hi => by
    have := key (i + 1) (by simpa using hi)
    rw [show (i + 1) * 3 = i * 3 + 1 + 1 + 1 by omega] at this
    simpa using this) (by simp at hlen; omega)
   rw [List.flatMap_cons, this, k0.1, k0.2.1, k0.2.2]
   rfl
theorem cells_of_quads {ss : List (By × Int × Nat × Bool)} {f0 f1 f2 f3 : Field} (ht : P.underlying t = some (.array n e)) (he : P.underlying e = some (.struct #[f0, f1, f2, f3])) (h0 : P.underlying f0.type = some .string) (h1 : P.underlying f1.type = some (.int .i64)) (h2' : P.underlying f2.type = some (.int .i64)) (h3' : P.underlying f3.type = some .bool)
  (ho0 : f0.offset = 0) (ho1 : f1.offset = 1) (ho2 : f2.offset = 2) (ho3 : f3.offset = 3) (hc0 : P.cellsOf f0.type = 1) (hc1 : P.cellsOf f1.type = 1) (hc2 : P.cellsOf f2.type = 1) (hc3 : P.cellsOf f3.type = 1) (hce : P.cellsOf e = 4) (hct : P.cellsOf t = n * 4)
  (h : DataW.trod enc P w base sp held fuel t cs = some (.agg (ss.map fun s => .agg [.lit (.string s.1), .lit (.int .i64 s.2.1), .lit (.int .i64 (s.2.2.1 : Int)), .lit (.bool s.2.2.2)]), p)) : cs = ss.flatMap fun s => [Value.string ⟨s.1.toArray⟩, .int .i64 s.2.1, .int .i64 (s.2.2.1 : Int), .bool s.2.2.2] := by
 obtain ⟨xs, m, rfl, hx, hl, hn, hel⟩ := DataW.trod_array ht h
 simp only [Prod.mk.injEq, DataW.agg.injEq] at hx
 have hsl : ss.length = n := by
  have := congrArg List.length hx.1
  simp at this
  omega
 have key : ∀ i (hi : i < ss.length), cs[i * 4]? = some (.string ⟨ss[i].1.toArray⟩) ∧ cs[i * 4 + 1]? = some (.int .i64 ss[i].2.1) ∧ cs[i * 4 + 2]? = some (.int .i64 (ss[i].2.2.1 : Int)) ∧ cs[i * 4 + 3]? = some (.bool ss[i].2.2.2) := by
  intro i hi
  have hf := hel i (by omega)
  rw [List.getElem?_eq_getElem (by omega), hce] at hf
  obtain ⟨y0, y1, y2, y3, m1, hy, hlen, hy0, hy1, hy2, hy3⟩ := Go.Joins.trod_struct4 he hf
  rw [ho0, hc0] at hy0
  rw [ho1, hc1] at hy1
  rw [ho2, hc2] at hy2
  rw [ho3, hc3] at hy3
  obtain ⟨s, hs, hd, _⟩ := DataW.trod_string h0 hy0
  obtain ⟨z, hz, hdz, _⟩ := DataW.trod_int h1 hy1
  obtain ⟨u, hu, hdu, _⟩ := DataW.trod_int h2' hy2
  obtain ⟨v, hv, hdv⟩ := DataW.trod_bool h3' hy3
  have e0 : cs[i * 4]? = some (.string s) := by
   have := congrArg (·[0]?) hs
   simpa [List.getElem?_take, List.getElem?_drop] using this
  have e1 : cs[i * 4 + 1]? = some (.int .i64 z) := by
   have := congrArg (·[0]?) hz
   simpa [List.getElem?_take, List.getElem?_drop] using this
  have e2 : cs[i * 4 + 2]? = some (.int .i64 u) := by
   have := congrArg (·[0]?) hu
   simpa [List.getElem?_take, List.getElem?_drop] using this
  have e3 : cs[i * 4 + 3]? = some (.bool v) := by
   have := congrArg (·[0]?) hv
   simpa [List.getElem?_take, List.getElem?_drop] using this
  have h2 := congrArg (·[i]?) hx.1
  simp only [List.getElem?_map, List.getElem?_eq_getElem (show i < xs.length by omega), List.getElem?_eq_getElem hi, Option.map_some, Option.some.injEq, hy, hd, hdz, hdu, hdv, DataW.agg.injEq, List.cons.injEq, DataW.lit.injEq, Lit.string.injEq, Lit.int.injEq, Lit.bool.injEq, true_and, and_true] at h2
  rw [e0, e1, e2, e3, h2.1, h2.2.1, h2.2.2.1, h2.2.2.2]
  exact ⟨rfl, rfl, rfl, rfl⟩
 have hlen : cs.length = ss.length * 4 := by rw [hl, hct, hsl]
 clear hx hel h hl hct hn hsl
 induction ss generalizing cs with
 | nil => simpa using hlen
 | cons s ss ih =>
  match cs, hlen with
  | [], hlen => simp at hlen
  | [_], hlen => simp at hlen; omega
  | [_, _], hlen => simp at hlen; omega
  | [_, _, _], hlen => simp at hlen; omega
  | c0 :: c1 :: c2 :: c3 :: cs, hlen =>
   have k0 := key 0 (by simp)
   simp at k0
   have := ih (cs := cs) (fun i hi => by
    have := key (i + 1) (by simpa using hi)
    rw [show (i + 1) * 4 = i * 4 + 1 + 1 + 1 + 1 by omega] at this
    simpa using this) (by simp at hlen; omega)
   rw [List.flatMap_cons, this, k0.1, k0.2.1, k0.2.2.1, k0.2.2.2]
   rfl
end
def spellT : List (By × By × By) := [([], [], []), ([], [], []), ([], [], []), ([105, 102, 40], [44, 32], [41]), ([], [32, 97, 110, 100, 32], []), ([], [32, 111, 114, 32], []), ([110, 111, 116, 32], [], []), ([116, 114, 117, 101], [], []), ([102, 97, 108, 115, 101], [], []), ([40], [], [41]), ([], [], []), ([], [], []), ([], [32, 43, 32], []), ([], [32, 45, 32], []), ([45], [], []), ([], [32, 42, 32], []), ([], [32, 47, 32], []), ([], [32, 37, 32], []), ([], [32, 61, 32], []), ([], [32, 60, 32], [])]
theorem gSpell : Tryz.prog.globalNamed "fields/rules.spellings" = some 4 := by kernel_rfl
theorem gMean : Tryz.prog.globalNamed "fields/token.meanings" = some 1 := by kernel_rfl
theorem gAhead : Tryz.prog.globalNamed "fields/rules.ahead" = some 2 := by kernel_rfl
theorem gBetw : Tryz.prog.globalNamed "fields/rules.between" = some 3 := by kernel_rfl
theorem gHeads : Tryz.prog.globalNamed "fields/lines.heads" = some 0 := by kernel_rfl
theorem tHeads : (Tryz.prog.globals[0]?).map (·.type) = some 145 := by kernel_rfl
theorem gLast : Tryz.prog.globalNamed "math/bits.deBruijn64tab" = some 10 := by kernel_rfl
theorem tSpell : (Tryz.prog.globals[4]?).map (·.type) = some 213 := by kernel_rfl
theorem tMean : (Tryz.prog.globals[1]?).map (·.type) = some 208 := by kernel_rfl
theorem tAhead : (Tryz.prog.globals[2]?).map (·.type) = some 209 := by kernel_rfl
theorem tBetw : (Tryz.prog.globals[3]?).map (·.type) = some 209 := by kernel_rfl
theorem tRange : (Tryz.prog.globals[8]?).map (·.type) = some 189 := by kernel_rfl
theorem tPow : (Tryz.prog.globals[5]?).map (·.type) = some 264 := by kernel_rfl
theorem star : "*" ++ "errors.errorString" = "*errors.errorString" := by decide
theorem row115 (u : TypeId) (h : Tryz.prog.typeName? 3 u = some "*errors.errorString") : u = 319 :=
 typeName_ptr_named (nm := "errors.errorString") (by rw [star]; kernel_rfl) (by kernel_rfl) (by decide) u (by rw [star]; exact h)
theorem range_of_laid {W : World} (h : laidMet Tryz.prog Rows.roundRow.laid W) : ∃ tp p, W.var? Tryz.prog "strconv.ErrRange" = some #[.iface tp p] := by
 obtain ⟨a, s, hv, _⟩ := laid_sentinel (n := "strconv.ErrRange") h.tail.tail.tail gRange tRange Tryz.underlying189 row115 Tryz.underlying319 Tryz.underlying321 rfl rfl Tryz.underlying9 (by kernel_rfl) (by kernel_rfl)
 exact ⟨_, _, hv⟩
theorem env_of_laid {W : World} (h : laidMetH Tryz.prog Rows.roundRow.laid W) : Env W ∧ EnvL W := by
 rw [MakeChecks.laidMetH_plain _ _ _ (by kernel_rfl)] at h
 have hR := range_of_laid h
 obtain ⟨ps, ⟨g7, t7, cs7, f7, p7, q7, hg7, ht7, hv7, hd7, ⟨g8, t8, cs8, f8, p8, q8, hg8, ht8, hv8, hd8, ⟨g6, t6, cs6, f6, p6, q6, hg6, ht6, hv6, hd6, ⟨g5, t5, cs5, f5, p5, q5, hg5, ht5, hv5, hd5, ⟨g4, t4, cs4, f4, p4, q4, hg4, ht4, hv4, hd4,
  ⟨g1, t1, cs1, f1, p1, q1, hg1, ht1, hv1, hd1, ⟨g0, t0, cs0, f0, p0, q0, hg0, ht0, hv0, hd0, ⟨g3, t3, cs3, f3, p3, q3, hg3, ht3, hv3, hd3, ⟨g2, t2, cs2, f2, p2, q2, hg2, ht2, hv2, hd2, ⟨g9, t9, cs9, f9, p9, q9, hg9, ht9, hv9, hd9, _, _⟩, _⟩, _⟩, _⟩, _⟩, _⟩, _⟩, _⟩, _⟩, _⟩, _, _⟩ := h
 obtain rfl := Option.some.inj (gSpell.symm.trans hg0)
 obtain rfl := Option.some.inj (gMean.symm.trans hg1)
 obtain rfl := Option.some.inj (gAhead.symm.trans hg2)
 obtain rfl := Option.some.inj (gBetw.symm.trans hg3)
 obtain rfl := Option.some.inj (gRange.symm.trans hg5)
 obtain rfl := Option.some.inj (gPow.symm.trans hg6)
 obtain rfl := Option.some.inj (gLast.symm.trans hg8)
 obtain rfl := Option.some.inj (gHeads.symm.trans hg9)
 obtain rfl := Option.some.inj (tHeads.symm.trans ht9)
 obtain rfl := Option.some.inj (tSpell.symm.trans ht0)
 obtain rfl := Option.some.inj (tMean.symm.trans ht1)
 obtain rfl := Option.some.inj (tAhead.symm.trans ht2)
 obtain rfl := Option.some.inj (tBetw.symm.trans ht3)
 obtain rfl := Option.some.inj (tRange.symm.trans ht5)
 obtain rfl := Option.some.inj (tPow.symm.trans ht6)
 refine ⟨⟨?_, ?_, ?_, ?_, ?_, ?_, ?_⟩, ?_⟩
 ·have := cells_of_trips (ss := spellT) Tryz.underlying213 Tryz.underlying212 Tryz.underlying9 Tryz.underlying9 Tryz.underlying9 rfl rfl rfl (by kernel_rfl) (by kernel_rfl) (by kernel_rfl) (by kernel_rfl) (by kernel_rfl) hd0
  have e : cs0 = spellC := Array.toList_inj.1 (this.trans rfl)
  rw [e] at hv0
  exact block_of_var gSpell hv0
 ·have := cells_of_pairs (ss := meanW) Tryz.underlying208 Tryz.underlying207 Tryz.underlying9 Tryz.underlying84 rfl rfl (by kernel_rfl) (by kernel_rfl) (by kernel_rfl) (by kernel_rfl) hd1
  have e : cs1 = meanC := Array.toList_inj.1 this
  rw [e] at hv1
  exact block_of_var gMean hv1
 ·have := Lib.cells_of_tab (zs := aheadW) Tryz.underlying209 Tryz.underlying3 (by kernel_rfl) (by kernel_rfl) hd2
  have e : cs2 = aheadC := Array.toList_inj.1 this
  rw [e] at hv2
  exact block_of_var gAhead hv2
 ·have := Lib.cells_of_tab (zs := betwW) Tryz.underlying209 Tryz.underlying3 (by kernel_rfl) (by kernel_rfl) hd3
  have e : cs3 = betwC := Array.toList_inj.1 this
  rw [e] at hv3
  exact block_of_var gBetw hv3
 ·exact hR
 ·have := Lib.cells_of_tab (zs := Lib.pow10Tab) Tryz.underlying264 Tryz.underlying187 (by kernel_rfl) (by kernel_rfl) hd6
  unfold Lib.TabIs
  rw [hv6, ← this]
 ·obtain ⟨t, fr, hb⟩ := block_of_var gLast hv8
  rcases Nat.lt_or_ge 10 W.heap.size with h | h
  ·exact h
  ·rw [Array.getElem?_eq_none h] at hb
   cases hb
 ·have := cells_of_quads (ss := headsW) Tryz.underlying145 Tryz.underlying144 Tryz.underlying9 Tryz.underlying95 Tryz.underlying3 Tryz.underlying4 rfl rfl rfl rfl (by kernel_rfl) (by kernel_rfl) (by kernel_rfl) (by kernel_rfl) (by kernel_rfl) (by kernel_rfl) hd9
  have e : cs9 = headsC := Array.toList_inj.1 (this.trans rfl)
  rw [e] at hv9
  exact block_of_var gHeads hv9
end
end Go.Proofs.YtihgojcfpnhelaaGreatDoor
