import Derived.Test.YtihgojcfpnhelaaDoorV
namespace Go.Proofs.YtihgojcfpnhelaaDoor
open Go.RowKit

/-- A rule, read: its kind, name, number; what is in it. -/
inductive Pt where
  | atom (k : Nat) (nm : By) (n : Nat)
  | un (k : Nat) (a : Pt)
  | bin (k : Nat) (a b : Pt)
  | ifs (a b c : Pt)

def Pt.k : Pt → Nat | .atom k _ _ => k | .un k _ => k | .bin k _ _ => k | .ifs _ _ _ => 3
def Pt.nm : Pt → By | .atom _ x _ => x | _ => []
def Pt.n : Pt → Nat | .atom _ _ n => n | _ => 0
def Pt.kids : Pt → List Pt | .atom _ _ _ => [] | .un _ a => [a] | .bin _ a b => [a, b] | .ifs a b c => [a, b, c]

def jn (bt : By) : List By → By | [] => [] | x :: l => x ++ l.flatMap fun y => bt ++ y

def numT (k n : Nat) : By := if k = 1 then Lib.decDigits n else []

/-- The plain form. -/
def txt : Pt → By
  | .atom k x n => ahd k ++ x ++ numT k n ++ jn (btw k) [] ++ bhd k
  | .un k a => ahd k ++ [] ++ numT k 0 ++ jn (btw k) [txt a] ++ bhd k
  | .bin k a b => ahd k ++ [] ++ numT k 0 ++ jn (btw k) [txt a, txt b] ++ bhd k
  | .ifs a b c => ahd 3 ++ [] ++ numT 3 0 ++ jn (btw 3) [txt a, txt b, txt c] ++ bhd 3

theorem txt_eq (p : Pt) : txt p = ahd p.k ++ p.nm ++ numT p.k p.n ++ jn (btw p.k) (p.kids.map txt) ++ bhd p.k := by
  cases p <;> rfl

theorem jn_snoc (bt : By) (l : List By) (x : By) : jn bt (l ++ [x]) = jn bt l ++ (if l = [] then [] else bt) ++ x := by
  cases l with
  | nil => simp [jn]
  | cons y l => simp [jn]

/-- The part p lies in memory: its list of parts is the slice (a, l, c), within the blocks of S. -/
inductive PIs (w : World) (S : Nat → Prop) : Pt → Option Addr → Nat → Nat → Prop
  | leaf (p : Pt) : p.kids = [] → PIs w S p none 0 0
  | node (p : Pt) (g cap : Nat) (A : Nat → Option Addr) (L C : Nat → Nat) : S g → p.kids ≠ [] →
      (∀ j (h : j < p.kids.length), w.cell? ⟨g, j * 4, none⟩ = some (.int .i64 ((p.kids[j]).k : Int)) ∧ w.cell? ⟨g, j * 4 + 1, none⟩ = some (.string ⟨((p.kids[j]).nm).toArray⟩) ∧ w.cell? ⟨g, j * 4 + 2, none⟩ = some (.int .i64 ((p.kids[j]).n : Int)) ∧ w.cell? ⟨g, j * 4 + 3, none⟩ = some (.slice (A j) (L j) (C j))) →
      (∀ j (h : j < p.kids.length), PIs w S p.kids[j] (A j) (L j) (C j)) →
      PIs w S p (some ⟨g, 0, none⟩) p.kids.length cap

theorem cell_congr {w w' : World} {g : Nat} (h : w'.heap[g]? = w.heap[g]?) (o : Nat) : w'.cell? ⟨g, o, none⟩ = w.cell? ⟨g, o, none⟩ := by
  simp only [World.cell?, h]

theorem PIs.next {w w' : World} {S : Nat → Prop} {p : Pt} {a : Option Addr} {l c : Nat} (h : PIs w S p a l c) (hh : ∀ q, S q → w'.heap[q]? = w.heap[q]?) : PIs w' S p a l c := by
  induction h with
  | leaf p hp => exact .leaf p hp
  | node p g cap A L C hg hk hc _ ih =>
    refine .node p g cap A L C hg hk (fun j hj => ?_) ih
    rw [cell_congr (hh g hg), cell_congr (hh g hg), cell_congr (hh g hg), cell_congr (hh g hg)]
    exact hc j hj

theorem PIs.wide {w : World} {S S' : Nat → Prop} {p : Pt} {a : Option Addr} {l c : Nat} (h : PIs w S p a l c) (hh : ∀ q, S q → S' q) : PIs w S' p a l c := by
  induction h with
  | leaf p hp => exact .leaf p hp
  | node p g cap A L C hg hk hc _ ih => exact .node p g cap A L C (hh g hg) hk hc ih

/-- How tokens are read: a part of a level, from a place to a place, as a tree. -/
inductive Der (ts : List (By × Nat)) : Nat → Nat → Nat → Pt → Prop
  | atom (i k : Nat) : i < ts.length → Cls (tAt ts i) k → (k = 1 ∨ k = 2 ∨ k = 7 ∨ k = 8) → Der ts 6 i (i + 1) (.atom k (nmB (tAt ts i)) (nuB (tAt ts i)))
  | nots (i j : Nat) (a : Pt) : tAt ts i = [110, 111, 116] → Der ts 3 (i + 1) j a → Der ts 3 i j (.un 6 a)
  | neg (i j : Nat) (a : Pt) : tAt ts i = [45] → Der ts 6 (i + 1) j a → Der ts 6 i j (.un 14 a)
  | br (i j : Nat) (a : Pt) : tAt ts i = [40] → Der ts 1 (i + 1) j a → tAt ts j = [41] → Der ts 6 i (j + 1) (.un 9 a)
  | ifs (i j1 j2 j3 : Nat) (a b c : Pt) : tAt ts i = [105, 102] → tAt ts (i + 1) = [40] → Der ts 1 (i + 1 + 1) j1 a → tAt ts j1 = [44] → Der ts 1 (j1 + 1) j2 b → tAt ts j2 = [44] → Der ts 1 (j2 + 1) j3 c → tAt ts j3 = [41] → Der ts 6 i (j3 + 1) (.ifs a b c)
  | up (n i j : Nat) (a : Pt) : 1 ≤ n → n ≤ 5 → Der ts (n + 1) i j a → Der ts n i j a
  | more (n i j j' k : Nat) (a b : Pt) : 1 ≤ n → n ≤ 5 → Der ts (if n = 3 then 4 else n) i j a → inB (tAt ts j) (sgn n) = true → Cls (tAt ts j) k → Der ts (n + 1) (j + 1) j' b → Der ts n i j' (.bin k a b)

theorem Der.lt {ts : List (By × Nat)} {n i j : Nat} {p : Pt} (h : Der ts n i j p) : i < j := by
  induction h with
  | atom => omega
  | nots => omega
  | neg => omega
  | br => omega
  | ifs => omega
  | up => omega
  | more => omega
end Go.Proofs.YtihgojcfpnhelaaDoor
