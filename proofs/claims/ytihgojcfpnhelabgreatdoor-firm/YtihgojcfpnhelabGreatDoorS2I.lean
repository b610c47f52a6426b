import Derived.Test.YtihgojcfpnhelabGreatDoorRows
import Derived.WalkSpells
import Derived.WalkLawsBesides
import Derived.BigQuiet
set_option maxRecDepth 100000
set_option maxHeartbeats 4000000
set_option linter.unusedVariables false
set_option linter.unusedSimpArgs false
namespace Go.Proofs.YtihgojcfpnhelabGreatDoor
theorem bZ {w : World} (o : Obj) : Go.RowKit.Below w.heap.size w (w.alloc o) := (Go.RowKit.Below.refl _ _).alloc (Nat.le_refl _) o
open Go.RowKit
section
abbrev By := List UInt8
def digB (n : Int) : Bool := decide (48 ≤ n ∧ n ≤ 57)
def letB (n : Int) : Bool := decide (97 ≤ n ∧ n ≤ 122)
def ldB (n : Int) : Bool := letB n || digB n
def isD (c : UInt8) : Bool := digB (c.toNat : Int)
def isL (c : UInt8) : Bool := letB (c.toNat : Int)
def isLD (c : UInt8) : Bool := ldB (c.toNat : Int)
def inB (t : By) (l : List By) : Bool := l.contains t
def sixW : List By := [[105, 102], [97, 110, 100], [111, 114], [110, 111, 116], [116, 114, 117, 101], [102, 97, 108, 115, 101]]
def signW : List By := [[40], [41], [44], [43], [45], [42], [47], [37], [61], [60]]
def headL (t : By) : Bool := match t with | [] => false | c :: _ => isL c
def headD (t : By) : Bool := match t with | [] => false | c :: _ => isD c
def nameB (t : By) : Bool := headL t && !inB t sixW
def rowLen (l : By) : Nat :=
 match l with
 | [] => 0
 | c :: r => if isL c then 1 + (r.takeWhile isLD).length else if isD c then 1 + (r.takeWhile isD).length else 1
def valD (r : By) : Nat := r.foldl (fun n c => 10 * n + (c.toNat - 48)) 0
def top63 : Nat := 9223372036854775807
def tokOK (r : By) : Bool :=
 if headD r then decide (r.length ≤ 19) && decide (valD r ≤ top63)
 else if headL r then decide (r.length ≤ 6)
 else inB r signW
def toks : Nat → By → Nat → List (By × Nat) × Option Nat
 | 0, _, _ => ([], none)
 | _ + 1, [], _ => ([], none)
 | f + 1, c :: r, at_ =>
  if c = 32 then toks f r (at_ + 1)
  else if tokOK ((c :: r).take (rowLen (c :: r))) then
   (((c :: r).take (rowLen (c :: r)), at_) :: (toks f ((c :: r).drop (rowLen (c :: r))) (at_ + rowLen (c :: r))).1,
    (toks f ((c :: r).drop (rowLen (c :: r))) (at_ + rowLen (c :: r))).2)
  else ([], some at_)
def toksOf (s : By) : List (By × Nat) × Option Nat := toks s.length s 0
def shortB : By → By
 | [] => []
 | [c] => [c]
 | c :: d :: r => if c = 48 && isD d then shortB (d :: r) else c :: d :: r
def meanW : List (By × Int) :=
 [([105, 102], 3), ([97, 110, 100], 4), ([111, 114], 5), ([110, 111, 116], 6), ([116, 114, 117, 101], 7), ([102, 97, 108, 115, 101], 8),
  ([40], 9), ([41], 10), ([44], 11), ([43], 12), ([45], 13), ([42], 15), ([47], 16), ([37], 17), ([61], 18), ([60], 19)]
def meanIn : List (By × Int) → By → Option Int
 | [], _ => none
 | (x, k) :: r, t => if x = t then some k else meanIn r t
def meanB (t : By) : Option Int := meanIn meanW t
def kindB (t : By) : Int := if headD t then 1 else (meanB t).getD 2
def textB (t : By) : By := if headD t then shortB t else if (meanB t).isSome then [] else t
def symB (k : UInt8) (o : Nat) : By := [63, k, 48 + UInt8.ofNat o]
def wNone : By := [78, 79, 78, 69]
def wDeep : By := [63, 33]
def wOpen : By := [63, 40]
def wName : By := [78, 65, 77, 69]
def deepB (t : By) (k : UInt8) (o : Nat) : List By := if 6 ≤ o then [wDeep] else [t, symB k (o + 1)]
def moreB (t : By) (signs : List By) (part : UInt8) (again : Option UInt8) (o : Nat) : List By :=
 if inB t signs then (match again with | none => [t, symB part o] | some g => [t, symB part o, symB g o]) else []
def atomB (t : By) (o : Nat) : List By :=
 if t = [] then [wNone]
 else if headD t || t = [116, 114, 117, 101] || t = [102, 97, 108, 115, 101] || nameB t then [t]
 else if t = [45] then deepB t 65 o
 else if t = [40] then deepB t 82 o ++ [[41]]
 else if t = [105, 102] && decide (6 ≤ o) then [[105, 102], wOpen]
 else if t = [105, 102] then [[105, 102], [40], symB 82 (o + 1), [44], symB 82 (o + 1), [44], symB 82 (o + 1), [41]]
 else [wNone]
def becB (k : UInt8) (o : Nat) (t : By) : List By :=
 if k = 82 then [symB 80 o, symB 114 o]
 else if k = 114 then moreB t [[111, 114]] 80 (some 114) o
 else if k = 80 then [symB 84 o, symB 112 o]
 else if k = 112 then moreB t [[97, 110, 100]] 84 (some 112) o
 else if k = 84 then (if t = [110, 111, 116] then deepB t 84 o else [symB 83 o, symB 99 o])
 else if k = 99 then moreB t [[61], [60]] 83 none o
 else if k = 83 then [symB 77 o, symB 115 o]
 else if k = 115 then moreB t [[43], [45]] 77 (some 115) o
 else if k = 77 then [symB 65 o, symB 109 o]
 else if k = 109 then moreB t [[42], [47], [37]] 65 (some 109) o
 else atomB t o
def becomesB (s t : By) : Option (List By) :=
 match s with
 | [63, k, c] => some (becB k (c.toNat - 48) t)
 | [63, 40] => some (if t = [40] then [wDeep] else [wNone])
 | _ => none
def runB (len : Nat) : Nat → List By → List (By × Nat) → Option (Int × Nat)
 | 0, _, _ => none
 | _ + 1, [], ts => match ts with | [] => some (0, 0) | (_, p) :: _ => some (3, p)
 | n + 1, s :: K, ts =>
  let t : By := match ts with | [] => [] | (t, _) :: _ => t
  let p : Nat := match ts with | [] => len | (_, p) :: _ => p
  if s = wDeep then some (4, p)
  else match becomesB s t with
   | some m => runB len n (m ++ K) ts
   | none => if (if s = wName then nameB t else decide (t ≠ []) && decide (s = t)) then runB len n K ts.tail else some (3, p)
end
section
theorem tZ {p : Prop} (h : p) : Hid p := h
theorem isDigit23 (n : Int) (w : World) :
  Calls Tryz.prog 47 #[.int .u8 n] w fun e w' => e = .returned (.bool (digB n)) ∧ w = w' := by
 have hd : digB n = (decide (48 ≤ n) && decide (n ≤ 57)) := by simp [digB]
 rw [hd]
 clear hd
 by_cases h : 48 ≤ n
 ·by_cases h2 : n ≤ 57
  all_goals
   go_enter Tryz.func47, Tryz.ntmps47
   go_wp2
   go_ret
   exact ⟨by simp <;> omega, rfl⟩
 ·go_enter Tryz.func47, Tryz.ntmps47
  go_wp2
  go_ret
  exact ⟨by simp <;> omega, rfl⟩
theorem isLetter24 (n : Int) (w : World) :
  Calls Tryz.prog 48 #[.int .u8 n] w fun e w' => e = .returned (.bool (letB n)) ∧ w = w' := by
 have hd : letB n = (decide (97 ≤ n) && decide (n ≤ 122)) := by simp [letB]
 rw [hd]
 clear hd
 by_cases h : 97 ≤ n
 ·by_cases h2 : n ≤ 122
  all_goals
   go_enter Tryz.func48, Tryz.ntmps48
   go_wp2
   go_ret
   exact ⟨by simp <;> omega, rfl⟩
 ·go_enter Tryz.func48, Tryz.ntmps48
  go_wp2
  go_ret
  exact ⟨by simp <;> omega, rfl⟩
theorem isLD25 (n : Int) (w : World) :
  Calls Tryz.prog 49 #[.int .u8 n] w fun e w' => e = .returned (.bool (ldB n)) ∧ w = w' := by
 have hd : ldB n = (letB n || digB n) := rfl
 rw [hd]
 clear hd
 cases hL : letB n
 all_goals
  go_enter Tryz.func49, Tryz.ntmps49
  go_wp2_with (first | (go_at_call 48; refine (isLetter24 _ _).mono ?_; rintro e w' ⟨rfl, rfl⟩) | (go_at_call 47; refine (isDigit23 _ _).mono ?_; rintro e w' ⟨rfl, rfl⟩))
  go_ret
  exact ⟨by simp, rfl⟩
end
section
theorem idx_eq (l : By) (i : Nat) (h : i < (ByteArray.mk l.toArray).size) : (ByteArray.mk l.toArray)[i]'h = l[i]'(by simpa [ByteArray.size] using h) := by
 simp [ByteArray.getElem_eq_getElem_data]
attribute [local go_sem] idx_eq
def behB (t : By) : Bool := nameB t || decide (t = [41]) || decide (t = [116, 114, 117, 101]) || decide (t = [102, 97, 108, 115, 101]) || headD t
theorem ext_eq (l : By) (a b : Nat) : (ByteArray.mk l.toArray).extract a b = ⟨((l.drop a).take (b - a)).toArray⟩ := by
 apply ByteArray.ext
 rw [ByteArray.data_extract]
 apply Array.toList_inj.1
 simp [List.extract_eq_take_drop]
theorem app_eq (a b : By) : ByteArray.mk a.toArray ++ ByteArray.mk b.toArray = ⟨(a ++ b).toArray⟩ := by
 apply ByteArray.ext
 simp
end
section
attribute [local go_sem] idx_eq
theorem tw_len (p : UInt8 → Bool) (r : By) (m : Nat) (hm : m ≤ r.length) (h1 : ∀ j (h : j < r.length), j < m → p r[j] = true)
  (h2 : m = r.length ∨ ∃ h : m < r.length, p (r[m]'h) = false) : (r.takeWhile p).length = m := by
 induction r generalizing m with
 | nil => simp at hm; simp [hm]
 | cons c r ih =>
  cases m with
  | zero =>
   rcases h2 with h | ⟨h, hp⟩
   ·simp at h
   ·simp at hp
    simp [hp]
  | succ m =>
   have hc : p c = true := h1 0 (by simp) (by omega)
   simp [hc]
   apply ih m (by simpa using hm)
   ·intro j h hj
    exact h1 (j + 1) (by simpa using h) (by omega)
   ·rcases h2 with h | ⟨h, hp⟩
    ·left; simpa using h
    ·right
     exact ⟨by simpa using h, by simpa using hp⟩
theorem rowLen_L {c : UInt8} {r : By} (h : isL c = true) : rowLen (c :: r) = 1 + (r.takeWhile isLD).length := by simp [rowLen, h]
theorem rowLen_D {c : UInt8} {r : By} (h : isL c = false) (h2 : isD c = true) : rowLen (c :: r) = 1 + (r.takeWhile isD).length := by simp [rowLen, h, h2]
theorem rowLen_N {c : UInt8} {r : By} (h : isL c = false) (h2 : isD c = false) : rowLen (c :: r) = 1 := by simp [rowLen, h, h2]
theorem firstRow12 (c : UInt8) (r : By) (w : World) (hl : r.length ≤ 1000) :
  Calls Tryz.prog 33 #[.string ⟨(c :: r).toArray⟩] w fun e w' => e = .returned (.string ⟨((c :: r).take (rowLen (c :: r))).toArray⟩) ∧ w = w' := by
 cases hL : isL c
 ·have hL' : letB (c.toNat : Int) = false := hL
  cases hD : isD c
  ·have hD' : digB (c.toNat : Int) = false := hD
   have HR := tZ (rowLen_N (r := r) hL hD)
   go_enter Tryz.func33, Tryz.ntmps33
   go_wp2_with (first | (go_at_call 48; refine (isLetter24 (c.toNat : Int) _).mono ?_; rintro e w' ⟨rfl, rfl⟩) | (go_at_call 47; refine (isDigit23 (c.toNat : Int) _).mono ?_; rintro e w' ⟨rfl, rfl⟩))
   go_ret
   exact ⟨by rw [HR.out, ext_eq]; rfl, rfl⟩
  ·have hD' : digB (c.toNat : Int) = true := hD
   have HR := tZ (rowLen_D (r := r) hL hD)
   go_enter Tryz.func33, Tryz.ntmps33
   go_wp2_with (first | (go_at_call 48; refine (isLetter24 (c.toNat : Int) _).mono ?_; rintro e w' ⟨rfl, rfl⟩) | (go_at_call 47; refine (isDigit23 (c.toNat : Int) _).mono ?_; rintro e w' ⟨rfl, rfl⟩))
   go_loop [4] (fun i => ∃ k : Nat, k ≤ r.length ∧ i = .int .i64 ((k : Int) + 1) ∧ ∀ j (h : j < r.length), j < k → isD r[j] = true) (fun i => r.length + 1 - (intOf i).toNat)
   case atStart => exact ⟨0, by omega, rfl, fun _ _ h => by omega⟩
   case round =>
    obtain ⟨k, hk, rfl, hn⟩ := hrel
    have HN := tZ hn
    clear hn
    by_cases hlt : k < r.length
    ·cases hd : isD r[k]
     ·have hd' : digB (r[k].toNat : Int) = false := hd
      have HT := tZ (tw_len isD r k (by omega) HN.out (Or.inr ⟨hlt, hd⟩))
      go_wp2_with (first | (go_at_call 47; refine (isDigit23 (r[k].toNat : Int) _).mono ?_; rintro e w' ⟨rfl, rfl⟩))
      go_ret
      exact ⟨by rw [HR.out, HT.out, ext_eq, Nat.add_comm 1 k]; rfl, rfl⟩
     ·have hd' : digB (r[k].toNat : Int) = true := hd
      have HD := tZ hd
      clear hd
      go_wp2_with (first | (go_at_call 47; refine (isDigit23 (r[k].toNat : Int) _).mono ?_; rintro e w' ⟨rfl, rfl⟩))
      go_round
      case rel =>
       refine ⟨k + 1, by omega, by go_num, fun j h hj => ?_⟩
       rcases Nat.lt_or_ge j k with h1 | h1
       ·exact HN.out j h h1
       ·obtain rfl : j = k := by omega
        exact HD.out
      case measure => simp [intOf]; omega
    ·have HT := tZ (tw_len isD r k (by omega) HN.out (Or.inl (by omega)))
     go_wp2
     go_ret
     exact ⟨by rw [HR.out, HT.out, ext_eq, Nat.add_comm 1 k]; rfl, rfl⟩
 ·have hL' : letB (c.toNat : Int) = true := hL
  ·have hD' : ldB (c.toNat : Int) = true := by simp [ldB, hL']
   have HR := tZ (rowLen_L (r := r) hL)
   go_enter Tryz.func33, Tryz.ntmps33
   go_wp2_with (first | (go_at_call 48; refine (isLetter24 (c.toNat : Int) _).mono ?_; rintro e w' ⟨rfl, rfl⟩) | (go_at_call 49; refine (isLD25 (c.toNat : Int) _).mono ?_; rintro e w' ⟨rfl, rfl⟩))
   go_loop [4] (fun i => ∃ k : Nat, k ≤ r.length ∧ i = .int .i64 ((k : Int) + 1) ∧ ∀ j (h : j < r.length), j < k → isLD r[j] = true) (fun i => r.length + 1 - (intOf i).toNat)
   case atStart => exact ⟨0, by omega, rfl, fun _ _ h => by omega⟩
   case round =>
    obtain ⟨k, hk, rfl, hn⟩ := hrel
    have HN := tZ hn
    clear hn
    by_cases hlt : k < r.length
    ·cases hd : isLD r[k]
     ·have hd' : ldB (r[k].toNat : Int) = false := hd
      have HT := tZ (tw_len isLD r k (by omega) HN.out (Or.inr ⟨hlt, hd⟩))
      go_wp2_with (first | (go_at_call 49; refine (isLD25 (r[k].toNat : Int) _).mono ?_; rintro e w' ⟨rfl, rfl⟩))
      go_ret
      exact ⟨by rw [HR.out, HT.out, ext_eq, Nat.add_comm 1 k]; rfl, rfl⟩
     ·have hd' : ldB (r[k].toNat : Int) = true := hd
      have HD := tZ hd
      clear hd
      go_wp2_with (first | (go_at_call 49; refine (isLD25 (r[k].toNat : Int) _).mono ?_; rintro e w' ⟨rfl, rfl⟩))
      go_round
      case rel =>
       refine ⟨k + 1, by omega, by go_num, fun j h hj => ?_⟩
       rcases Nat.lt_or_ge j k with h1 | h1
       ·exact HN.out j h h1
       ·obtain rfl : j = k := by omega
        exact HD.out
      case measure => simp [intOf]; omega
    ·have HT := tZ (tw_len isLD r k (by omega) HN.out (Or.inl (by omega)))
     go_wp2
     go_ret
     exact ⟨by rw [HR.out, HT.out, ext_eq, Nat.add_comm 1 k]; rfl, rfl⟩
end
section
attribute [local go_sem] idx_eq app_eq ext_eq
theorem isD_range {x : UInt8} (h : isD x = true) : 48 ≤ x.toNat ∧ x.toNat ≤ 57 := by
 simp [isD, digB] at h
 omega
end
section
attribute [local go_sem] idx_eq app_eq
theorem toks_space (f : Nat) (s : By) (k : Nat) (hk : k < s.length) (h : s[k] = 32) : toks (f + 1) (s.drop k) k = toks f (s.drop (k + 1)) (k + 1) := by
 rw [List.drop_eq_getElem_cons hk, h]
 rfl
theorem rowLen_pos (c : UInt8) (r : By) : 1 ≤ rowLen (c :: r) := by
 simp only [rowLen]
 split
 ·omega
 ·split <;> omega
theorem rowLen_le (l : By) : rowLen l ≤ l.length := by
 cases l with
 | nil => simp [rowLen]
 | cons c r =>
  have h1 := (List.takeWhile_prefix (l := r) isLD).length_le
  have h2 := (List.takeWhile_prefix (l := r) isD).length_le
  unfold rowLen
  simp only [List.length_cons]
  split
  ·omega
  ·split <;> omega
theorem below_grown {w w' : World} (h : Below w.heap.size w w') : w.grownBy w' none := ⟨h.os, h.tape, h.output, h.size, fun k hk _ => h.block k hk⟩
theorem own_below {w w' : World} {B : Nat} {e : TypeId} {z : Nat} {v : Value} {n : Nat} {xs : List Value} (h : w.ownsRow B e z v n xs) (hb : Below w.heap.size w w') : w'.ownsRow B e z v n xs :=
 h.kept (below_grown hb) (by cases hv : v.ownBlock <;> simp)
theorem cells_new (w : World) (cs : List Value) (T : TypeId) (j : Nat) (u : Value) (h : cs[j]? = some u) : (w.alloc (.cells cs.toArray T)).cell? ((⟨w.heap.size, 0, none⟩ : Addr).add j) = some u := by
 rw [show (⟨w.heap.size, 0, none⟩ : Addr).add j = ⟨w.heap.size, j, none⟩ by simp [Addr.add]; intro h; exact h.symm, World.cell?_alloc_new]
 simpa using h
end
end Go.Proofs.YtihgojcfpnhelabGreatDoor
