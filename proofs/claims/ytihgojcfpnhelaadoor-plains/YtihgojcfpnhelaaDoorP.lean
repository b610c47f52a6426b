import Derived.Below
namespace Go.Proofs.YtihgojcfpnhelaaDoor

abbrev By := List UInt8

def digB (n : Int) : Bool := decide (48 ≤ n ∧ n ≤ 57)
def letB (n : Int) : Bool := decide (97 ≤ n ∧ n ≤ 122)
def ldB (n : Int) : Bool := letB n || digB n
def isD (c : UInt8) : Bool := digB (c.toNat : Int)
def isL (c : UInt8) : Bool := letB (c.toNat : Int)
def isLD (c : UInt8) : Bool := ldB (c.toNat : Int)

def inB (t : By) (l : List By) : Bool := l.contains t

def sixW : List By := [[105, 102], [97, 110, 100], [111, 114], [110, 111, 116], [116, 114, 117, 101], [102, 97, 108, 115, 101]]
def signW : List By := [[40], [41], [44], [43], [45], [42], [47], [37], [61], [60]]

def headL (t : By) : Bool := match t with | [] => false | c :: _ => isL c
def headD (t : By) : Bool := match t with | [] => false | c :: _ => isD c

/-- A NAME. -/
def nameB (t : By) : Bool := headL t && !inB t sixW

/-- The length of the row that a text begins with. -/
def rowLen (l : By) : Nat :=
  match l with
  | [] => 0
  | c :: r => if isL c then 1 + (r.takeWhile isLD).length else if isD c then 1 + (r.takeWhile isD).length else 1

def valD (r : By) : Nat := r.foldl (fun n c => 10 * n + (c.toNat - 48)) 0

def top63 : Nat := 9223372036854775807

def tokOK (r : By) : Bool :=
  if headD r then decide (r.length ≤ 19) && decide (valD r ≤ top63)
  else if headL r then decide (r.length ≤ 6)
  else inB r signW

/-- The tokens of a text from a place on; the place at which none begins. -/
def toks : Nat → By → Nat → List (By × Nat) × Option Nat
  | 0, _, _ => ([], none)
  | _ + 1, [], _ => ([], none)
  | f + 1, c :: r, at_ =>
    if c = 32 then toks f r (at_ + 1)
    else if tokOK ((c :: r).take (rowLen (c :: r))) then
      (((c :: r).take (rowLen (c :: r)), at_) :: (toks f ((c :: r).drop (rowLen (c :: r))) (at_ + rowLen (c :: r))).1,
        (toks f ((c :: r).drop (rowLen (c :: r))) (at_ + rowLen (c :: r))).2)
    else ([], some at_)

def toksOf (s : By) : List (By × Nat) × Option Nat := toks s.length s 0

/-- NUMs without noughts ahead. -/
def shortB : By → By
  | [] => []
  | [c] => [c]
  | c :: d :: r => if c = 48 && isD d then shortB (d :: r) else c :: d :: r

def meanW : List (By × Int) :=
  [([105, 102], 3), ([97, 110, 100], 4), ([111, 114], 5), ([110, 111, 116], 6), ([116, 114, 117, 101], 7), ([102, 97, 108, 115, 101], 8),
   ([40], 9), ([41], 10), ([44], 11), ([43], 12), ([45], 13), ([42], 15), ([47], 16), ([37], 17), ([61], 18), ([60], 19)]

def meanIn : List (By × Int) → By → Option Int
  | [], _ => none
  | (x, k) :: r, t => if x = t then some k else meanIn r t

def meanB (t : By) : Option Int := meanIn meanW t

def kindB (t : By) : Int := if headD t then 1 else (meanB t).getD 2
def textB (t : By) : By := if headD t then shortB t else if (meanB t).isSome then [] else t

/-- A symbol of a kind with so many open. -/
def symB (k : UInt8) (o : Nat) : By := [63, k, 48 + UInt8.ofNat o]

def wNone : By := [78, 79, 78, 69]
def wDeep : By := [63, 33]
def wOpen : By := [63, 40]
def wName : By := [78, 65, 77, 69]

def deepB (t : By) (k : UInt8) (o : Nat) : List By := if 6 ≤ o then [wDeep] else [t, symB k (o + 1)]

def moreB (t : By) (signs : List By) (part : UInt8) (again : Option UInt8) (o : Nat) : List By :=
  if inB t signs then (match again with | none => [t, symB part o] | some g => [t, symB part o, symB g o]) else []

def atomB (t : By) (o : Nat) : List By :=
  if t = [] then [wNone]
  else if headD t || t = [116, 114, 117, 101] || t = [102, 97, 108, 115, 101] || nameB t then [t]
  else if t = [45] then deepB t 65 o
  else if t = [40] then deepB t 82 o ++ [[41]]
  else if t = [105, 102] && decide (6 ≤ o) then [[105, 102], wOpen]
  else if t = [105, 102] then [[105, 102], [40], symB 82 (o + 1), [44], symB 82 (o + 1), [44], symB 82 (o + 1), [41]]
  else [wNone]

/-- What a symbol of the kind k becomes. -/
def becB (k : UInt8) (o : Nat) (t : By) : List By :=
  if k = 82 then [symB 80 o, symB 114 o]
  else if k = 114 then moreB t [[111, 114]] 80 (some 114) o
  else if k = 80 then [symB 84 o, symB 112 o]
  else if k = 112 then moreB t [[97, 110, 100]] 84 (some 112) o
  else if k = 84 then (if t = [110, 111, 116] then deepB t 84 o else [symB 83 o, symB 99 o])
  else if k = 99 then moreB t [[61], [60]] 83 none o
  else if k = 83 then [symB 77 o, symB 115 o]
  else if k = 115 then moreB t [[43], [45]] 77 (some 115) o
  else if k = 77 then [symB 65 o, symB 109 o]
  else if k = 109 then moreB t [[42], [47], [37]] 65 (some 109) o
  else atomB t o

/-- A symbol: a token; one of the two marks of depth; or a kind with so many open. -/
def becomesB (s t : By) : Option (List By) :=
  match s with
  | [63, k, c] => some (becB k (c.toNat - 48) t)
  | [63, 40] => some (if t = [40] then [wDeep] else [wNone])
  | _ => none

/-- The machine of symbols: the error and its place (0, 0: none). -/
def runB (len : Nat) : Nat → List By → List (By × Nat) → Option (Int × Nat)
  | 0, _, _ => none
  | _ + 1, [], ts => match ts with | [] => some (0, 0) | (_, p) :: _ => some (3, p)
  | n + 1, s :: K, ts =>
    let t : By := match ts with | [] => [] | (t, _) :: _ => t
    let p : Nat := match ts with | [] => len | (_, p) :: _ => p
    if s = wDeep then some (4, p)
    else match becomesB s t with
      | some m => runB len n (m ++ K) ts
      | none => if (if s = wName then nameB t else decide (t ≠ []) && decide (s = t)) then runB len n K ts.tail else some (3, p)

end Go.Proofs.YtihgojcfpnhelaaDoor
