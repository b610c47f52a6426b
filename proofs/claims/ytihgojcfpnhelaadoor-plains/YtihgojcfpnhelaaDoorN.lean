import Derived.Test.YtihgojcfpnhelaaDoorI
import Derived.Test.YtihgojcfpnhelaaDoorShelf
import Derived.Deep.LoopGhost
namespace Go.Proofs.YtihgojcfpnhelaaDoor
open Go.RowKit
attribute [local go_sem] idx_eq app_eq

def spellW : List By := [[], [], [], [105, 102], [32, 97, 110, 100, 32], [32, 111, 114, 32], [110, 111, 116, 32], [116, 114, 117, 101], [102, 97, 108, 115, 101], [40], [41], [44, 32], [32, 43, 32], [32, 45, 32], [45], [32, 42, 32], [32, 47, 32], [32, 37, 32], [32, 61, 32], [32, 60, 32]]
def aheadW : List Int := [0, 0, 0, 0, 0, 0, 3, 0, 0, 0, 0, 0, 0, 6, 0, 0, 0, 0, 0, 0]
def betwW : List Int := [0, 0, 0, 0, 2, 1, 0, 0, 0, 0, 0, 0, 4, 4, 0, 5, 5, 5, 3, 3]

def ahdW : List By := [[], [], [], [105, 102, 40], [], [], [110, 111, 116, 32], [116, 114, 117, 101], [102, 97, 108, 115, 101], [40], [], [], [], [], [45], [], [], [], [], []]
def btwW : List By := [[], [], [], [44, 32], [32, 97, 110, 100, 32], [32, 111, 114, 32], [], [], [], [], [], [], [32, 43, 32], [32, 45, 32], [], [32, 42, 32], [32, 47, 32], [32, 37, 32], [32, 61, 32], [32, 60, 32]]
def bhdW : List By := [[], [], [], [41], [], [], [], [], [], [41], [], [], [], [], [], [], [], [], [], []]
def ahd (k : Nat) : By := ahdW.getD k []
def btw (k : Nat) : By := btwW.getD k []
def bhd (k : Nat) : By := bhdW.getD k []

def spellC : Array Value := ((List.range 20).flatMap fun k => [Value.string ⟨(ahd k).toArray⟩, .string ⟨(btw k).toArray⟩, .string ⟨(bhd k).toArray⟩]).toArray
def meanC : Array Value := (meanW.flatMap fun x => [Value.string ⟨x.1.toArray⟩, .int .i64 x.2]).toArray
def aheadC : Array Value := (aheadW.map fun x => Value.int .i64 x).toArray
def betwC : Array Value := (betwW.map fun x => Value.int .i64 x).toArray

/-- The package-level tables, as they are laid. -/
structure Env (w : World) : Prop where
  spell : ∃ t fr, w.heap[3]? = some (.cells spellC t fr)
  mean : ∃ t fr, w.heap[0]? = some (.cells meanC t fr)
  ahead : ∃ t fr, w.heap[1]? = some (.cells aheadC t fr)
  betw : ∃ t fr, w.heap[2]? = some (.cells betwC t fr)
  range : ∃ tp p, w.var? Tryd.prog "strconv.ErrRange" = some #[.iface tp p]
  pow : Lib.TabIs Tryd.prog w "internal/strconv.uint64pow10" .u64 Lib.pow10Tab
  size : 9 ≤ w.heap.size

theorem gRange : Tryd.prog.globalNamed "strconv.ErrRange" = some 5 := by kernel_rfl
theorem gPow : Tryd.prog.globalNamed "internal/strconv.uint64pow10" = some 6 := by kernel_rfl

theorem var_below {w w' : World} {B g : Nat} {nm : String} (hb : Below B w w') (hg : Tryd.prog.globalNamed nm = some g) (hB : g < B) : w'.var? Tryd.prog nm = w.var? Tryd.prog nm := by
  unfold World.var?
  rw [hg]
  simp only [Option.bind_some]
  rw [hb.block g hB]

theorem Env.below {w w' : World} {B : Nat} (h : Env w) (hb : Below B w w') (hB : 9 ≤ B) : Env w' := by
  refine ⟨?_, ?_, ?_, ?_, ?_, ?_, Nat.le_trans h.size hb.size⟩
  · rw [hb.block 3 (by omega)]; exact h.spell
  · rw [hb.block 0 (by omega)]; exact h.mean
  · rw [hb.block 1 (by omega)]; exact h.ahead
  · rw [hb.block 2 (by omega)]; exact h.betw
  · rw [var_below hb gRange (by omega)]; exact h.range
  · exact (var_below hb gPow (by omega)).trans h.pow

theorem Env.next {w w' : World} (h : Env w) (hb : Below w.heap.size w w') : Env w' := h.below hb h.size

theorem mean_idx (k : Nat) (h : k < 16) (w : World) : (Instr.index 88 (.agg meanC) (.int .i64 (k : Int))).run Tryd.prog w = .ok (.agg #[.string ⟨((meanW[k]'h).1).toArray⟩, .int .i64 (meanW[k]'h).2]) w := by
  rcases (show k = 0 ∨ k = 1 ∨ k = 2 ∨ k = 3 ∨ k = 4 ∨ k = 5 ∨ k = 6 ∨ k = 7 ∨ k = 8 ∨ k = 9 ∨ k = 10 ∨ k = 11 ∨ k = 12 ∨ k = 13 ∨ k = 14 ∨ k = 15 by omega) with h | h | h | h | h | h | h | h | h | h | h | h | h | h | h | h <;> subst h <;> kernel_rfl

theorem meanIn_at (l : List (By × Int)) (t : By) (k : Nat) (h : k < l.length) (h1 : ∀ j (hj : j < l.length), j < k → l[j].1 ≠ t) (h2 : l[k].1 = t) : meanIn l t = some l[k].2 := by
  induction l generalizing k with
  | nil => simp at h
  | cons x l ih =>
    obtain ⟨y, z⟩ := x
    cases k with
    | zero =>
      simp at h2
      simp [meanIn, h2]
    | succ k =>
      have h0 : y ≠ t := h1 0 (by simp) (by omega)
      simp only [meanIn, if_neg h0]
      have := ih k (by simpa using h) (fun j hj hjk => h1 (j + 1) (by simpa using hj) (by omega)) (by simpa using h2)
      simpa using this

theorem meanIn_none (l : List (By × Int)) (t : By) (h1 : ∀ j (hj : j < l.length), l[j].1 ≠ t) : meanIn l t = none := by
  induction l with
  | nil => rfl
  | cons x l ih =>
    obtain ⟨y, z⟩ := x
    have h0 : y ≠ t := h1 0 (by simp)
    simp only [meanIn, if_neg h0]
    exact ih fun j hj => h1 (j + 1) (by simpa using hj)

set_option maxRecDepth 100000 in
set_option maxHeartbeats 1000000 in
theorem meaning28 (t : By) (w : World) (hE : Env w) :
    Calls Tryd.prog 28 #[.string ⟨t.toArray⟩] w fun e w' => e = .returned (.tuple #[.int .i64 ((meanB t).getD 0), .bool (meanB t).isSome]) ∧ Below w.heap.size w w' := by
  obtain ⟨tt, fr, hm⟩ := hE.mean
  have HM := toHid hm
  clear hm hE
  go_enter Tryd.func28, Tryd.ntmps28
  go_wp2_with (refine wpList_load_row rfl 88 _ rfl 0 rfl tt _ fr _ HM.out Tryd.underlying88 rfl (by kernel_rfl) ?_)
  go_loopw [7] (fun i wr => ∃ k : Nat, k ≤ 16 ∧ i = .int .i64 (k : Int) ∧ Below w.heap.size w wr ∧ Hid (∀ j (hj : j < 16), j < k → (meanW[j]'hj).1 ≠ t)) (fun i _ => 16 - (intOf i).toNat)
  case atStart => exact ⟨0, by omega, rfl, Below.refl _ _, fun _ _ h => by omega⟩
  case round =>
    obtain ⟨k, hk, rfl, hb, HN⟩ := hrel
    have hsz := hb.size
    by_cases hlt : k < 16
    · have hix := mean_idx k hlt
      by_cases he : (meanW[k]'hlt).1 = t
      · have heb : ((meanW[k]'hlt).1 == t) = true := by simp [he]
        have HR := toHid (show meanB t = some (meanW[k]'hlt).2 from meanIn_at meanW t k hlt (fun j hj hjk => HN.out j hj hjk) he)
        clear he
        generalize (meanW[k]'hlt).1 = x at *
        generalize (meanW[k]'hlt).2 = z at *
        go_wp2
        go_ret2
        exact ⟨by rw [HR.out]; rfl, hb.alloc hsz _⟩
      · have heb : ((meanW[k]'hlt).1 == t) = false := beq_eq_false_iff_ne.2 he
        have HN2 := toHid (show ∀ j (hj : j < 16), j < k + 1 → (meanW[j]'hj).1 ≠ t from fun j hj hjk => by
          rcases Nat.lt_or_ge j k with h1 | h1
          · exact HN.out j hj h1
          · obtain rfl : j = k := by omega
            exact he)
        clear he
        generalize (meanW[k]'hlt).1 = x at *
        generalize (meanW[k]'hlt).2 = z at *
        go_wp2
        go_roundw
        case rel => exact ⟨k + 1, by omega, by go_num, hb.alloc hsz _, HN2⟩
        case measure => simp [intOf]; omega
    · go_wp2
      go_ret2
      have HR : meanB t = none := meanIn_none meanW t fun j hj => HN.out j hj (by have : j < 16 := hj; omega)
      exact ⟨by rw [HR]; rfl, hb⟩
end Go.Proofs.YtihgojcfpnhelaaDoor
