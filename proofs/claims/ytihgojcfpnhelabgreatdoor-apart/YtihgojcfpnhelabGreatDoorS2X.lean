import Derived.Test.YtihgojcfpnhelabGreatDoorS2V
set_option maxRecDepth 100000
set_option maxHeartbeats 4000000
set_option linter.unusedVariables false
set_option linter.unusedSimpArgs false
namespace Go.Proofs.YtihgojcfpnhelabGreatDoor
open Go.RowKit
section
inductive Pt where
 | atom (k : Nat) (nm : By) (n : Nat)
 | un (k : Nat) (a : Pt)
 | bin (k : Nat) (a b : Pt)
 | ifs (a b c : Pt)
def Pt.k : Pt → Nat | .atom k _ _ => k | .un k _ => k | .bin k _ _ => k | .ifs _ _ _ => 3
def Pt.nm : Pt → By | .atom _ x _ => x | _ => []
def Pt.n : Pt → Nat | .atom _ _ n => n | _ => 0
def Pt.kids : Pt → List Pt | .atom _ _ _ => [] | .un _ a => [a] | .bin _ a b => [a, b] | .ifs a b c => [a, b, c]
def jn (bt : By) : List By → By | [] => [] | x :: l => x ++ l.flatMap fun y => bt ++ y
def numT (k n : Nat) : By := if k = 1 then Lib.decDigits n else []
def txt : Pt → By
 | .atom k x n => ahd k ++ x ++ numT k n ++ jn (btw k) [] ++ bhd k
 | .un k a => ahd k ++ [] ++ numT k 0 ++ jn (btw k) [txt a] ++ bhd k
 | .bin k a b => ahd k ++ [] ++ numT k 0 ++ jn (btw k) [txt a, txt b] ++ bhd k
 | .ifs a b c => ahd 3 ++ [] ++ numT 3 0 ++ jn (btw 3) [txt a, txt b, txt c] ++ bhd 3
theorem txt_eq (p : Pt) : txt p = ahd p.k ++ p.nm ++ numT p.k p.n ++ jn (btw p.k) (p.kids.map txt) ++ bhd p.k := by
 cases p <;> rfl
theorem jn_snoc (bt : By) (l : List By) (x : By) : jn bt (l ++ [x]) = jn bt l ++ (if l = [] then [] else bt) ++ x := by
 cases l with
 | nil => simp [jn]
 | cons y l => simp [jn]
inductive PIs (w : World) (S : Nat → Prop) : Pt → Option Addr → Nat → Nat → Prop
 | leaf (p : Pt) : p.kids = [] → PIs w S p none 0 0
 | node (p : Pt) (g cap : Nat) (A : Nat → Option Addr) (L C : Nat → Nat) : S g → p.kids ≠ [] →
   (∀ j (h : j < p.kids.length), w.cell? ⟨g, j * 4, none⟩ = some (.int .i64 ((p.kids[j]).k : Int)) ∧ w.cell? ⟨g, j * 4 + 1, none⟩ = some (.string ⟨((p.kids[j]).nm).toArray⟩) ∧ w.cell? ⟨g, j * 4 + 2, none⟩ = some (.int .i64 ((p.kids[j]).n : Int)) ∧ w.cell? ⟨g, j * 4 + 3, none⟩ = some (.slice (A j) (L j) (C j))) →
   (∀ j (h : j < p.kids.length), PIs w S p.kids[j] (A j) (L j) (C j)) →
   PIs w S p (some ⟨g, 0, none⟩) p.kids.length cap
theorem cell_congr {w w' : World} {g : Nat} (h : w'.heap[g]? = w.heap[g]?) (o : Nat) : w'.cell? ⟨g, o, none⟩ = w.cell? ⟨g, o, none⟩ := by
 simp only [World.cell?, h]
theorem PIs.next {w w' : World} {S : Nat → Prop} {p : Pt} {a : Option Addr} {l c : Nat} (h : PIs w S p a l c) (hh : ∀ q, S q → w'.heap[q]? = w.heap[q]?) : PIs w' S p a l c := by
 induction h with
 | leaf p hp => exact .leaf p hp
 | node p g cap A L C hg hk hc _ ih =>
  refine .node p g cap A L C hg hk (fun j hj => ?_) ih
  rw [cell_congr (hh g hg), cell_congr (hh g hg), cell_congr (hh g hg), cell_congr (hh g hg)]
  exact hc j hj
theorem PIs.wide {w : World} {S S' : Nat → Prop} {p : Pt} {a : Option Addr} {l c : Nat} (h : PIs w S p a l c) (hh : ∀ q, S q → S' q) : PIs w S' p a l c := by
 induction h with
 | leaf p hp => exact .leaf p hp
 | node p g cap A L C hg hk hc _ ih => exact .node p g cap A L C (hh g hg) hk hc ih
inductive Der (ts : List (By × Nat)) : Nat → Nat → Nat → Pt → Prop
 | atom (i k : Nat) : i < ts.length → Cls (tAt ts i) k → (k = 1 ∨ k = 2 ∨ k = 7 ∨ k = 8) → Der ts 6 i (i + 1) (.atom k (nmB (tAt ts i)) (nuB (tAt ts i)))
 | nots (i j : Nat) (a : Pt) : tAt ts i = [110, 111, 116] → Der ts 3 (i + 1) j a → Der ts 3 i j (.un 6 a)
 | neg (i j : Nat) (a : Pt) : tAt ts i = [45] → Der ts 6 (i + 1) j a → Der ts 6 i j (.un 14 a)
 | br (i j : Nat) (a : Pt) : tAt ts i = [40] → Der ts 1 (i + 1) j a → tAt ts j = [41] → Der ts 6 i (j + 1) (.un 9 a)
 | ifs (i j1 j2 j3 : Nat) (a b c : Pt) : tAt ts i = [105, 102] → tAt ts (i + 1) = [40] → Der ts 1 (i + 1 + 1) j1 a → tAt ts j1 = [44] → Der ts 1 (j1 + 1) j2 b → tAt ts j2 = [44] → Der ts 1 (j2 + 1) j3 c → tAt ts j3 = [41] → Der ts 6 i (j3 + 1) (.ifs a b c)
 | up (n i j : Nat) (a : Pt) : 1 ≤ n → n ≤ 5 → Der ts (n + 1) i j a → Der ts n i j a
 | more (n i j j' k : Nat) (a b : Pt) : 1 ≤ n → n ≤ 5 → Der ts (if n = 3 then 4 else n) i j a → inB (tAt ts j) (sgn n) = true → Cls (tAt ts j) k → Der ts (n + 1) (j + 1) j' b → Der ts n i j' (.bin k a b)
theorem Der.lt {ts : List (By × Nat)} {n i j : Nat} {p : Pt} (h : Der ts n i j p) : i < j := by
 induction h with
 | atom => omega
 | nots => omega
 | neg => omega
 | br => omega
 | ifs => omega
 | up => omega
 | more => omega
end
section
def OkT (ts : List (By × Nat)) : Prop := ∀ t p, (t, p) ∈ ts → (tokOK t = true ∧ ∃ c r, t = c :: r ∧ c ≠ 63 ∧ c ≠ 78) ∧ (headD t = true → AllD t)
theorem toks_allD (f : Nat) (l : By) (k : Nat) (t : By) (p : Nat) (h : (t, p) ∈ (toks f l k).1) : headD t = true → AllD t := by
 induction f generalizing l k with
 | zero => simp [toks] at h
 | succ f ih =>
  match l with
  | [] => simp [toks] at h
  | c :: r =>
   unfold toks at h
   split at h
   ·exact ih _ _ h
   ·split at h
    ·simp only [List.mem_cons, Prod.mk.injEq] at h
     rcases h with ⟨rfl, rfl⟩ | h
     ·rw [row_cons]
      intro hD
      exact row_allD c r hD
     ·exact ih _ _ h
    ·simp at h
theorem cls_word (x : By) (n : Nat) (hm : (x, n) ∈ meanN) (t : By) (k : Nat) (h : Cls t k) : k = n ↔ t = x := by
 have hx : ∀ y, y ∈ meanN → headD y.1 = false ∧ nameB y.1 = false ∧ y.1 ≠ [] ∧ y.2 ≠ 1 ∧ y.2 ≠ 2 ∧ y.2 ≠ 0 := by decide
 obtain ⟨a1, a2, a3, a4, a5, a6⟩ := hx _ hm
 simp only at a1 a2 a3 a4 a5 a6
 have huniq : ∀ y, y ∈ meanN → ∀ z, z ∈ meanN → (y.2 = z.2 ↔ y.1 = z.1) := by decide
 rcases h with ⟨h, rfl⟩ | ⟨_, h, rfl⟩ | ⟨rfl, rfl⟩ | h
 ·exact ⟨fun e => absurd e.symm a4, fun e => by rw [e, a1] at h; cases h⟩
 ·exact ⟨fun e => absurd e.symm a5, fun e => by rw [e, a2] at h; cases h⟩
 ·exact ⟨fun e => absurd e.symm a6, fun e => absurd e.symm a3⟩
 ·exact huniq _ h _ hm
theorem bet_plain (t : By) (k : Nat) (h : Cls t k) (hk : k = 1 ∨ k = 2 ∨ k = 7 ∨ k = 8) : inB t betW = false ∧ behB t = true := by
 rcases h with ⟨hD, _⟩ | ⟨_, hN, _⟩ | ⟨_, h⟩ | h
 ·exact ⟨inB_false t betW (fun x hx => headD_not t x hD (by revert x; decide)), by simp [behB, hD]⟩
 ·exact ⟨inB_false t betW (fun x hx => name_not t x hN (by revert x; decide)), by simp [behB, hN]⟩
 ·omega
 ·simp only [meanN, List.mem_cons, List.not_mem_nil, or_false, Prod.mk.injEq] at h
  rcases h with ⟨rfl, rfl⟩ | ⟨rfl, rfl⟩ | ⟨rfl, rfl⟩ | ⟨rfl, rfl⟩ | ⟨rfl, rfl⟩ | ⟨rfl, rfl⟩ | ⟨rfl, rfl⟩ | ⟨rfl, rfl⟩ | ⟨rfl, rfl⟩ | ⟨rfl, rfl⟩ | ⟨rfl, rfl⟩ | ⟨rfl, rfl⟩ | ⟨rfl, rfl⟩ | ⟨rfl, rfl⟩ | ⟨rfl, rfl⟩ | ⟨rfl, rfl⟩ <;> first | decide | omega
theorem sgn_bet (n : Nat) (h1 : 1 ≤ n) (h5 : n ≤ 5) (t : By) (h : inB t (sgn n) = true) : inB t betW = true ∧ behB t = false ∧ t ≠ [] := by
 have hn : n = 1 ∨ n = 2 ∨ n = 3 ∨ n = 4 ∨ n = 5 := by omega
 simp only [inB, List.contains_iff_mem] at h
 rcases hn with rfl | rfl | rfl | rfl | rfl <;> simp only [sgn, List.mem_cons, List.not_mem_nil, or_false] at h
 ·subst h; decide
 ·subst h; decide
 ·rcases h with rfl | rfl <;> decide
 ·rcases h with rfl | rfl <;> decide
 ·rcases h with rfl | rfl | rfl <;> decide
theorem sgn_told (n : Nat) (h1 : 1 ≤ n) (h5 : n ≤ 5) (t : By) (k : Nat) (h : inB t (sgn n) = true) (hc : Cls t k) : spellOf (k : Int) ++ textB t = btw k ∧ ahd k = [] ∧ bhd k = [] ∧ k ≠ 1 := by
 have hn : n = 1 ∨ n = 2 ∨ n = 3 ∨ n = 4 ∨ n = 5 := by omega
 have key : ∀ x m, (x, m) ∈ meanN → t = x → (spellOf (m : Int) ++ textB x = btw m ∧ ahd m = [] ∧ bhd m = [] ∧ m ≠ 1) → spellOf (k : Int) ++ textB t = btw k ∧ ahd k = [] ∧ bhd k = [] ∧ k ≠ 1 := by
  intro x m hm ht h
  have hk := (cls_word x m hm t k hc).2 ht
  subst hk ht
  exact h
 simp only [inB, List.contains_iff_mem] at h
 rcases hn with rfl | rfl | rfl | rfl | rfl <;> simp only [sgn, List.mem_cons, List.not_mem_nil, or_false] at h
 ·exact key _ 5 (by decide) h (by decide)
 ·exact key _ 4 (by decide) h (by decide)
 ·rcases h with h | h
  ·exact key _ 18 (by decide) h (by decide)
  ·exact key _ 19 (by decide) h (by decide)
 ·rcases h with h | h
  ·exact key _ 12 (by decide) h (by decide)
  ·exact key _ 13 (by decide) h (by decide)
 ·rcases h with h | h | h
  ·exact key _ 15 (by decide) h (by decide)
  ·exact key _ 16 (by decide) h (by decide)
  ·exact key _ 17 (by decide) h (by decide)
section
variable {ts : List (By × Nat)}
theorem OkT.get (hk : OkT ts) {i : Nat} (hi : i < ts.length) : tokOK (tAt ts i) = true ∧ ∃ c r, tAt ts i = c :: r ∧ c ≠ 63 ∧ c ≠ 78 := by
 rw [tAt_lt ts i hi]
 exact (hk ts[i].1 ts[i].2 (List.getElem_mem hi)).1
theorem OkT.dig (hk : OkT ts) {i : Nat} (hi : i < ts.length) : headD (tAt ts i) = true → AllD (tAt ts i) := by
 rw [tAt_lt ts i hi]
 exact (hk ts[i].1 ts[i].2 (List.getElem_mem hi)).2
theorem at_lt {i : Nat} {x : By} (hx : x ≠ []) (h : tAt ts i = x) : i < ts.length := by
 rcases Nat.lt_or_ge i ts.length with h1 | h1
 ·exact h1
 ·rw [tAt_ge ts i h1] at h; exact absurd h.symm hx
theorem prev_succ {i : Nat} (hi : i < ts.length) : prevB ts (i + 1) = some (tAt ts i) := by
 rw [prevB_succ ts i (by omega), tAt_lt ts i hi]
theorem told_succ {i : Nat} (hi : i < ts.length) : toldTo ts (i + 1) = toldTo ts i ++ pieceB (prevB ts i) (tAt ts i) := by
 rw [toldTo_succ ts i hi, tAt_lt ts i hi]
theorem told_word {i : Nat} (x : By) (k : Nat) (hm : (x, k) ∈ meanN) (hb : inB x betW = false) (hx : x ≠ []) (hk : k ≠ 0) (h : tAt ts i = x) : toldTo ts (i + 1) = toldTo ts i ++ (spellOf (k : Int) ++ textB x) ∧ prevB ts (i + 1) = some x ∧ i < ts.length := by
 have hi := at_lt hx h
 refine ⟨?_, by rw [prev_succ hi, h], hi⟩
 rw [told_succ hi, h, piece_other _ x k (Or.inr (Or.inr (Or.inr hm))) hk hb]
theorem atom_txt (t : By) (k : Nat) (hc : Cls t k) (hk : k = 1 ∨ k = 2 ∨ k = 7 ∨ k = 8) (hD : headD t = true → AllD t) (hne : t ≠ []) : spellOf (k : Int) ++ textB t = txt (.atom k (nmB t) (nuB t)) := by
 show _ = ahd k ++ nmB t ++ numT k (nuB t) ++ [] ++ bhd k
 rcases hc with ⟨h, rfl⟩ | ⟨h, hN, rfl⟩ | ⟨_, h⟩ | h
 ·rw [textB_D t h]
  unfold nmB nuB numT
  rw [h]
  simp only [if_true]
  rw [dec_short t hne (hD h)]
  simp [spellOf, spellW, ahd, ahdW, bhd, bhdW]
 ·unfold nmB numT
  rw [h]
  simp [spellOf, spellW, ahd, ahdW, bhd, bhdW]
 ·omega
 ·simp only [meanN, List.mem_cons, List.not_mem_nil, or_false, Prod.mk.injEq] at h
  rcases h with ⟨rfl, rfl⟩ | ⟨rfl, rfl⟩ | ⟨rfl, rfl⟩ | ⟨rfl, rfl⟩ | ⟨rfl, rfl⟩ | ⟨rfl, rfl⟩ | ⟨rfl, rfl⟩ | ⟨rfl, rfl⟩ | ⟨rfl, rfl⟩ | ⟨rfl, rfl⟩ | ⟨rfl, rfl⟩ | ⟨rfl, rfl⟩ | ⟨rfl, rfl⟩ | ⟨rfl, rfl⟩ | ⟨rfl, rfl⟩ | ⟨rfl, rfl⟩ <;> first | rfl | omega
theorem Der.told (hok : OkT ts) {n i j : Nat} {p : Pt} (h : Der ts n i j p) : behO (prevB ts i) = false → j ≤ ts.length ∧ behO (prevB ts j) = true ∧ toldTo ts j = toldTo ts i ++ txt p := by
 induction h with
 | atom i k hi hc hk =>
  intro _
  obtain ⟨hnb, hbe⟩ := bet_plain _ k hc hk
  obtain ⟨_, c, r, hcr, _⟩ := hok.get hi
  refine ⟨by omega, by rw [prev_succ hi]; exact hbe, ?_⟩
  rw [told_succ hi, piece_other _ _ k hc (by omega) hnb, atom_txt _ k hc hk (hok.dig hi) (by rw [hcr]; simp)]
 | nots i j a ht _ ih =>
  intro _
  obtain ⟨e1, e2, _⟩ := told_word (ts := ts) [110, 111, 116] 6 (by decide) (by decide) (by decide) (by decide) ht
  obtain ⟨h1, h2, h3⟩ := ih (by rw [e2]; decide)
  refine ⟨h1, h2, ?_⟩
  rw [h3, e1]
  simp [txt, jn, spellOf, spellW, textB, headD, isD, digB, meanB, meanIn, meanW, ahd, ahdW, bhd, bhdW, numT]
 | neg i j a ht _ ih =>
  intro hq
  have hi := at_lt (by decide) ht
  obtain ⟨h1, h2, h3⟩ := ih (by rw [prev_succ hi, ht]; decide)
  refine ⟨h1, h2, ?_⟩
  rw [h3, told_succ hi, ht, piece_neg _ hq]
  simp [txt, jn, spellOf, spellW, ahd, ahdW, bhd, bhdW, numT]
 | br i j a ht _ hu ih =>
  intro _
  obtain ⟨e1, e2, _⟩ := told_word (ts := ts) [40] 9 (by decide) (by decide) (by decide) (by decide) ht
  obtain ⟨f1, f2, f3⟩ := told_word (ts := ts) [41] 10 (by decide) (by decide) (by decide) (by decide) hu
  obtain ⟨h1, h2, h3⟩ := ih (by rw [e2]; decide)
  refine ⟨by omega, by rw [f2]; decide, ?_⟩
  rw [f1, h3, e1]
  simp [txt, jn, spellOf, spellW, textB, headD, isD, digB, meanB, meanIn, meanW, ahd, ahdW, bhd, bhdW, numT]
 | ifs i j1 j2 j3 a b c ht hu _ h1 _ h2 _ h3 iha ihb ihc =>
  intro _
  obtain ⟨e1, e2, _⟩ := told_word (ts := ts) [105, 102] 3 (by decide) (by decide) (by decide) (by decide) ht
  obtain ⟨f1, f2, _⟩ := told_word (ts := ts) [40] 9 (by decide) (by decide) (by decide) (by decide) hu
  obtain ⟨g1, g2, _⟩ := told_word (ts := ts) [44] 11 (by decide) (by decide) (by decide) (by decide) h1
  obtain ⟨k1, k2, _⟩ := told_word (ts := ts) [44] 11 (by decide) (by decide) (by decide) (by decide) h2
  obtain ⟨l1, l2, l3⟩ := told_word (ts := ts) [41] 10 (by decide) (by decide) (by decide) (by decide) h3
  obtain ⟨_, _, a3⟩ := iha (by rw [f2]; decide)
  obtain ⟨_, _, b3⟩ := ihb (by rw [g2]; decide)
  obtain ⟨_, _, c3⟩ := ihc (by rw [k2]; decide)
  refine ⟨by omega, by rw [l2]; decide, ?_⟩
  rw [l1, c3, k1, b3, g1, a3, f1, e1]
  simp [txt, jn, spellOf, spellW, textB, headD, isD, digB, meanB, meanIn, meanW, ahd, ahdW, bhd, bhdW, numT, btw, btwW]
 | up n i j a _ _ _ ih => exact ih
 | more n i j j' k a b h1 h5 _ hs hc _ iha ihb =>
  intro hq
  obtain ⟨hbw, hbn, hne⟩ := sgn_bet n h1 h5 _ hs
  obtain ⟨e1, e2, e3, e4⟩ := sgn_told n h1 h5 _ k hs hc
  have hj : j < ts.length := by
   rcases Nat.lt_or_ge j ts.length with h | h
   ·exact h
   ·exact absurd (tAt_ge ts j h) hne
  obtain ⟨_, a2, a3⟩ := iha hq
  obtain ⟨b1, b2, b3⟩ := ihb (by rw [prev_succ hj]; exact hbn)
  refine ⟨b1, b2, ?_⟩
  rw [b3, told_succ hj, piece_op _ _ k hc hbw a2, e1, a3]
  simp [txt, jn, e2, e3, e4, numT]
end
end
section
def ptoks (len : Nat) (ts : List (By × Nat)) : List PT := ts.map (fun x => (kindB x.1, x.2, nmB x.1, nuB x.1)) ++ [(0, len, [], 0)]
section
variable {len : Nat} {ts : List (By × Nat)}
theorem ptoks_length : (ptoks len ts).length = ts.length + 1 := by simp [ptoks]
theorem ptoks_lt {i : Nat} (h : i < (ptoks len ts).length) (hi : i < ts.length) : (ptoks len ts)[i] = (kindB (tAt ts i), pAt len ts i, nmB (tAt ts i), nuB (tAt ts i)) := by
 have h2 : pAt len ts i = ts[i].2 := by simp [pAt, hi]
 rw [tAt_lt ts i hi, h2]
 simp [ptoks, hi]
theorem ptoks_end {i : Nat} (h : i < (ptoks len ts).length) (hi : ¬ i < ts.length) : (ptoks len ts)[i] = (0, len, [], 0) := by
 simp [ptoks, List.getElem_append, hi]
theorem ptoks_at {i : Nat} (h : i < (ptoks len ts).length) : ((ptoks len ts)[i]).2.1 = pAt len ts i := by
 by_cases hi : i < ts.length
 ·rw [ptoks_lt h hi]
 ·rw [ptoks_end h hi]
  simp [pAt, show ts.length ≤ i by omega]
theorem OkT.tk (hk : OkT ts) {i : Nat} (hi : i < ts.length) : Tk (tAt ts i) := by
 obtain ⟨_, c, r, h, h63, h78⟩ := hk.get hi
 rw [h]
 exact ⟨c, r, rfl, h63, fun he => h78 (by unfold wName at he; simp at he; exact he.1)⟩
theorem OkT.notNone (hk : OkT ts) (i : Nat) : tAt ts i ≠ wNone := by
 by_cases hi : i < ts.length
 ·obtain ⟨_, c, r, h, h63, h78⟩ := hk.get hi
  rw [h]
  intro he
  apply h78
  unfold wNone at he
  simp at he
  exact he.1
 ·rw [tAt_ge ts i (by omega)]
  decide
theorem OkT.cls (hk : OkT ts) {i : Nat} (h : i < (ptoks len ts).length) : ∃ k : Nat, Cls (tAt ts i) k ∧ ((ptoks len ts)[i]).1 = (k : Int) ∧ k < 20 ∧ (k = 0 ↔ ¬ i < ts.length) := by
 by_cases hi : i < ts.length
 ·obtain ⟨ho, c, r, hc, _⟩ := hk.get hi
  obtain ⟨k, hcl, hkk⟩ := cls_tok (tAt ts i) ho (by rw [hc]; simp)
  refine ⟨k, hcl, by rw [ptoks_lt h hi]; exact hkk, ?_, ?_⟩
  ·rcases hcl with ⟨_, rfl⟩ | ⟨_, _, rfl⟩ | ⟨_, rfl⟩ | hm
   ·omega
   ·omega
   ·omega
   ·exact (show ∀ x, x ∈ meanN → x.2 < 20 by decide) _ hm
  ·constructor
   ·rintro rfl
    rcases hcl with ⟨_, h0⟩ | ⟨_, _, h0⟩ | ⟨h0, _⟩ | hm
    ·omega
    ·omega
    ·rw [hc] at h0; cases h0
    ·exact absurd ((show ∀ x, x ∈ meanN → x.2 ≠ 0 by decide) _ hm rfl) id
   ·intro h0; exact absurd hi h0
 ·refine ⟨0, Or.inr (Or.inr (Or.inl ⟨tAt_ge ts i (by omega), rfl⟩)), by rw [ptoks_end h hi]; rfl, by omega, by simp [hi]⟩
theorem OkT.word (hok : OkT ts) {i : Nat} (h : i < (ptoks len ts).length) (x : By) (n : Nat) (hm : (x, n) ∈ meanN) : ((ptoks len ts)[i]).1 = (n : Int) ↔ tAt ts i = x := by
 obtain ⟨k, hc, hk, _, _⟩ := hok.cls h
 rw [hk]
 have := cls_word x n hm _ k hc
 constructor
 ·intro h; exact this.1 (by omega)
 ·intro h; have := this.2 h; omega
end
structure St (len : Nat) (ts : List (By × Nat)) (w : World) (b bl cp i : Nat) (d : Nat) (e : Int) : Prop where
 rd : Rdr w b bl cp (ptoks len ts) i (d : Int) e
 env : Env w
 low : 11 ≤ bl
theorem St.le {len : Nat} {ts : List (By × Nat)} {w : World} {b bl cp i d : Nat} {e : Int} (h : St len ts w b bl cp i d e) : i ≤ ts.length := by
 have := h.rd.lt
 rw [ptoks_length] at this
 omega
def LvPost (len : Nat) (ts : List (By × Nat)) (S : List By) (D : Nat → Pt → Prop) (c1 : Nat) (b bl cp i d : Nat) (e : Int) (w : World) (r : Ending) (w' : World) : Prop :=
 (∃ (i' m : Nat) (p : Pt) (a : Option Addr) (l c : Nat), r = .returned (.tuple #[.agg #[.int .i64 (p.k : Int), .string ⟨p.nm.toArray⟩, .int .i64 (p.n : Int), .slice a l c], .bool true]) ∧ PIs w' (fun q => w.heap.size ≤ q ∧ q < w'.heap.size) p a l c ∧ D i' p ∧ St len ts w' b bl cp i' d e ∧ i < i' ∧ Kp b w w' ∧ m + c1 ≤ 20 * (i' - i) ∧ Go1 len ts S i i' m) ∨
 (∃ (i' m : Nat) (d' er k n : Int) (s : By) (a : Option Addr) (l c : Nat), r = .returned (.tuple #[.agg #[.int .i64 k, .string ⟨s.toArray⟩, .int .i64 n, .slice a l c], .bool false]) ∧ Rdr w' b bl cp (ptoks len ts) i' d' er ∧ er ≠ 0 ∧ Kp b w w' ∧ m + c1 ≤ 20 * (ts.length - i) + 20 ∧ No1 len ts S i er (pAt len ts i') m)
def LvAll (len : Nat) (ts : List (By × Nat)) (b bl cp F : Nat) : Prop :=
 ∀ (n i d : Nat) (e : Int) (w : World), 1 ≤ n → n ≤ 6 → d ≤ 6 → 10 * (ts.length - i) + (7 - n) < F → St len ts w b bl cp i d e →
  Calls Tryz.prog 91 #[.pointer (some ⟨b, 0, none⟩), .int .i64 (n : Int)] w (LvPost len ts [symB (lv n) d] (fun i' p => Der ts n i i' p) (2 * n) b bl cp i d e w)
theorem St.setD {len : Nat} {ts : List (By × Nat)} {w : World} {b bl cp i d : Nat} {e : Int} (h : St len ts w b bl cp i d e) (d' : Nat) :
  St len ts (w.setCell ⟨b, 1, none⟩ (.int .i64 (d' : Int))) b bl cp i d' e ∧ Kp b w (w.setCell ⟨b, 1, none⟩ (.int .i64 (d' : Int))) := by
 obtain ⟨h1, h2⟩ := h.rd.setD (d' : Int)
 exact ⟨⟨h1, h.env.below h2.bel (by have := h.low; have := h.rd.blk; omega), h.low⟩, h2⟩
theorem St.down {len : Nat} {ts : List (By × Nat)} {w w' : World} {b bl cp i i' d d' : Nat} {e e' : Int} (h : St len ts w b bl cp i d e) (hr : Rdr w' b bl cp (ptoks len ts) i' (d' : Int) e') (hb : Below b w w') : St len ts w' b bl cp i' d' e' :=
 ⟨hr, h.env.below hb (by have := h.low; have := h.rd.blk; omega), h.low⟩
theorem St.next {len : Nat} {ts : List (By × Nat)} {w w' : World} {b bl cp i d : Nat} {e : Int} (h : St len ts w b bl cp i d e) (hb : Below w.heap.size w w') : St len ts w' b bl cp i d e :=
 ⟨h.rd.next hb, h.env.next hb, h.low⟩
theorem St.store {len : Nat} {ts : List (By × Nat)} {w : World} {b bl cp i d : Nat} {e : Int} (h : St len ts w b bl cp i d e) {g j : Nat} {u : Value} (hg : b < g) : St len ts (w.setCell ⟨g, j, none⟩ u) b bl cp i d e :=
 ⟨h.rd.store (by omega) (by have := h.rd.blk; omega), h.env.below ((Below.refl b w).setCell (p := ⟨g, j, none⟩) (by show b ≤ g; omega) _) (by have := h.low; have := h.rd.blk; omega), h.low⟩
theorem St.store4 {len : Nat} {ts : List (By × Nat)} {w : World} {b bl cp i d : Nat} {e : Int} (h : St len ts w b bl cp i d e) (g : Nat) (v0 v1 v2 v3 : Value) (hg : b < g) : St len ts ((((w.setCell ⟨g, 0, none⟩ v0).setCell ⟨g, 1, none⟩ v1).setCell ⟨g, 2, none⟩ v2).setCell ⟨g, 3, none⟩ v3) b bl cp i d e :=
 (((h.store hg).store hg).store hg).store hg
def Ahead (n : Nat) (t : By) : Prop := (n = 3 ∧ t = [110, 111, 116]) ∨ (n = 6 ∧ t = [45])
theorem bec_ahead_go (n : Nat) (t : By) (d : Nat) (h : Ahead n t) (hd : d < 6) : becB (lv n) d t = [t, symB (lv n) (d + 1)] := by
 have hdp : ∀ k, deepB t k d = [t, symB k (d + 1)] := fun k => by unfold deepB; rw [if_neg (by omega)]
 rcases h with ⟨rfl, rfl⟩ | ⟨rfl, rfl⟩
 ·exact hdp 84
 ·exact hdp 65
theorem bec_ahead_no (n : Nat) (t : By) (h : Ahead n t) : becB (lv n) 6 t = [wDeep] := by
 rcases h with ⟨rfl, rfl⟩ | ⟨rfl, rfl⟩ <;> decide
theorem ahead_kind (n : Nat) (t : By) (k : Nat) (h : Ahead n t) (hc : Cls t k) : (n = 3 ∧ k = 6) ∨ (n = 6 ∧ k = 13) := by
 rcases h with ⟨rfl, rfl⟩ | ⟨rfl, rfl⟩
 ·exact Or.inl ⟨rfl, (cls_word [110, 111, 116] 6 (by decide) _ k hc).2 rfl⟩
 ·exact Or.inr ⟨rfl, (cls_word [45] 13 (by decide) _ k hc).2 rfl⟩
theorem PIs.un {w : World} {S : Nat → Prop} {p : Pt} {a : Option Addr} {l c g : Nat} {t : TypeId} {fr : Nat × Nat} (k : Nat) (h : PIs w S p a l c) (hg : S g) (hb : w.heap[g]? = some (.cells #[.int .i64 (p.k : Int), .string ⟨p.nm.toArray⟩, .int .i64 (p.n : Int), .slice a l c] t fr)) (cap : Nat) : PIs w S (.un k p) (some ⟨g, 0, none⟩) 1 cap := by
 refine PIs.node (.un k p) g cap (fun _ => a) (fun _ => l) (fun _ => c) hg (by simp [Pt.kids]) (fun j hj => ?_) (fun j hj => ?_)
 ·obtain rfl : j = 0 := by simp [Pt.kids] at hj; omega
  exact ⟨(cell_of_row w g 0 _ _ _ hb).trans rfl, (cell_of_row w g 1 _ _ _ hb).trans rfl, (cell_of_row w g 2 _ _ _ hb).trans rfl, (cell_of_row w g 3 _ _ _ hb).trans rfl⟩
 ·obtain rfl : j = 0 := by simp [Pt.kids] at hj; omega
  exact h
theorem PIs.bin {w : World} {S : Nat → Prop} {p p' : Pt} {a a' : Option Addr} {l c l' c' g : Nat} {t : TypeId} {fr : Nat × Nat} (k : Nat) (h : PIs w S p a l c) (h' : PIs w S p' a' l' c') (hg : S g) (hb : w.heap[g]? = some (.cells #[.int .i64 (p.k : Int), .string ⟨p.nm.toArray⟩, .int .i64 (p.n : Int), .slice a l c, .int .i64 (p'.k : Int), .string ⟨p'.nm.toArray⟩, .int .i64 (p'.n : Int), .slice a' l' c'] t fr)) (cap : Nat) : PIs w S (.bin k p p') (some ⟨g, 0, none⟩) 2 cap := by
 refine PIs.node (.bin k p p') g cap (fun j => if j = 0 then a else a') (fun j => if j = 0 then l else l') (fun j => if j = 0 then c else c') hg (by simp [Pt.kids]) (fun j hj => ?_) (fun j hj => ?_)
 ·have hj2 : j = 0 ∨ j = 1 := by simp [Pt.kids] at hj; omega
  rcases hj2 with rfl | rfl
  ·exact ⟨(cell_of_row w g 0 _ _ _ hb).trans rfl, (cell_of_row w g 1 _ _ _ hb).trans rfl, (cell_of_row w g 2 _ _ _ hb).trans rfl, (cell_of_row w g 3 _ _ _ hb).trans rfl⟩
  ·exact ⟨(cell_of_row w g 4 _ _ _ hb).trans rfl, (cell_of_row w g 5 _ _ _ hb).trans rfl, (cell_of_row w g 6 _ _ _ hb).trans rfl, (cell_of_row w g 7 _ _ _ hb).trans rfl⟩
 ·have hj2 : j = 0 ∨ j = 1 := by simp [Pt.kids] at hj; omega
  rcases hj2 with rfl | rfl
  ·exact h
  ·exact h'
end
section
section
variable {len : Nat} {ts : List (By × Nat)} {b bl cp : Nat}
theorem bs_deep (n i : Nat) (e : Int) (w : World) (h : Rdr w b bl cp (ptoks len ts) i 6 e) :
  Calls Tryz.prog 120 #[.pointer (some ⟨b, 0, none⟩), .int .i64 (n : Int)] w fun r w' => r = .returned (.tuple #[.agg #[.int .i64 0, .string ⟨#[]⟩, .int .i64 0, .slice none 0 0], .bool false]) ∧ Rdr w' b bl cp (ptoks len ts) i 6 4 ∧ Kp b w w' := by
 have H := tZ (fun w1 (g : Rdr w1 b bl cp (ptoks len ts) i 6 e) => enter_no w1 b bl cp _ i e g)
 have hs := h.size
 have HR := tZ h
 have hblk := h.blk
 clear h
 go_enter Tryz.func120, Tryz.ntmps120
 go_wp2_with (first | (go_at_call 149; refine (H.out _ (HR.out.next (bZ _))).mono ?_; rintro e w' ⟨rfl, hr, hbb⟩; refine Hid.out ?_))
 obtain ⟨⟨k0, k1, k2, k3⟩, ⟨f0, f1, f2, f3⟩, hsz⟩ := row4 (hbb.blk (q := w.heap.size) (heap_alloc_new w _) (by omega))
 have HB := tZ hbb
 have HR2 := tZ hr
 clear hr hbb
 refine tZ ?_
 go_wp2
 refine bodyPost_ret (v := .tuple #[.agg #[.int .i64 0, .string ⟨#[]⟩, .int .i64 0, .slice none 0 0], .bool false]) (by simp [results, Tryz.results120, go_sem, k0, k1, k2, k3, hsz]) rfl ?_
 have hk0 : Kp b w w' := (Kp.of (bZ _) hs).trans HB.out
 have hk1 := hk0.there4 w.heap.size (.int .i64 0) (.string ⟨#[]⟩) (.int .i64 0) (.slice none 0 0) (Nat.le_refl _) hs
 exact ⟨rfl, (HR2.out.store4 w.heap.size _ _ _ _ hs).next (bZ _), hk1.next (bZ _) (by have := hk1.size; omega)⟩
theorem bs_go (hok : OkT ts) (n i d : Nat) (e : Int) (w : World) (_hn1 : 1 ≤ n) (hd : d < 6) (hi : i < ts.length) (hA : Ahead n (tAt ts i)) (hS : St len ts w b bl cp i d e) (z zz : Nat) (hz : ((ptoks len ts)[i]'hS.rd.lt).1 = (z : Int)) (hzz : (z = 13 ∧ zz = 14) ∨ (z ≠ 13 ∧ zz = z))
  (hDer : ∀ i' p, Der ts n (i + 1) i' p → Der ts n i i' (.un zz p))
  (hL : ∀ w2, St len ts w2 b bl cp (i + 1) (d + 1) e → Calls Tryz.prog 91 #[.pointer (some ⟨b, 0, none⟩), .int .i64 (n : Int)] w2 (LvPost len ts [symB (lv n) (d + 1)] (fun i' p => Der ts n (i + 1) i' p) (2 * n) b bl cp (i + 1) (d + 1) e w2)) :
  Calls Tryz.prog 120 #[.pointer (some ⟨b, 0, none⟩), .int .i64 (n : Int)] w (LvPost len ts [symB (lv n) d] (fun i' p => Der ts n i i' p) (2 * n) b bl cp i d e w) := by
 have hlt := hS.rd.lt
 have H := tZ (fun w1 (g : Rdr w1 b bl cp (ptoks len ts) i (d : Int) e) => enter_yes w1 b bl cp _ i d e g hd (by rw [ptoks_length]; omega))
 have HL := tZ hL
 have HS := tZ hS
 have HDer := tZ hDer
 have hs := hS.rd.size
 have hblk := hS.rd.blk
 have HGO := tZ (fun (i' m : Nat) (h : Go1 len ts [symB (lv n) (d + 1)] (i + 1) i' m) => (show Go1 len ts [symB (lv n) d] i i' (m + 1 + 1) from Go1.sym (by omega) (by rw [bec_ahead_go n _ d hA hd]; exact Go1.tok (hok.tk hi) rfl h)))
 have HNO := tZ (fun (er : Int) (p m : Nat) (h : No1 len ts [symB (lv n) (d + 1)] (i + 1) er p m) => (show No1 len ts [symB (lv n) d] i er p (m + 1 + 1) from No1.sym (by omega) (by rw [bec_ahead_go n _ d hA hd]; exact No1.tok (hok.tk hi) rfl h)))
 have HZ := tZ hz
 clear hL hDer hA hok hz
 go_enter Tryz.func120, Tryz.ntmps120
 go_wp2_with (first | (go_at_call 149; refine (H.out _ (HS.out.rd.next (bZ _))).mono ?_; rw [HZ.out]; rintro r w1 ⟨rfl, hr, hbb⟩; refine Hid.out ?_))
 have hR1 := hbb.blk (q := w.heap.size) (heap_alloc_new w _) (by omega)
 have hk1 : Kp b w w1 := (Kp.of (bZ _) hs).trans hbb
 have HS1 := tZ (show St len ts w1 b bl cp (i + 1) (d + 1) e from HS.out.down (d' := d + 1) hr hk1.bel)
 have hsz1 := (Array.getElem?_eq_some_iff.1 hR1).1
 have HR1 := tZ hR1
 have HK1 := tZ hk1
 generalize ((ptoks len ts)[i]).2.2.2 = tn at *
 generalize ((ptoks len ts)[i]).2.2.1 = tx at *
 generalize ((ptoks len ts)[i]).2.1 = tp at *
 clear hr hbb hR1 hk1
 refine tZ ?_
 have HC := tZ (show ∀ w3, Kp b (w1.alloc (.cells #[.int .i64 (zz : Int), .int .i64 (tp : Int), .string ⟨tx.toArray⟩, .int .i64 (tn : Int)] 78)) w3 → w3.heap[w.heap.size]? = some (.cells #[.int .i64 0, .string ⟨#[]⟩, .int .i64 0, .slice none 0 0] 49 (0, 0)) ∧ w3.heap[w1.heap.size]? = some (.cells #[.int .i64 (zz : Int), .int .i64 (tp : Int), .string ⟨tx.toArray⟩, .int .i64 (tn : Int)] 78 (0, 0)) ∧ Kp b w w3 from fun w3 h => by
  refine ⟨h.blk ((Below.heap_alloc _ _ _ hsz1).trans HR1.out) (by omega), h.blk (heap_alloc_new w1 _) (by omega), ?_⟩
  exact (HK1.out.next (bZ _) (by omega)).trans h)
 have hzc : (zz = 14 ∧ ((z : Int) == 13) = true) ∨ (zz = z ∧ ((z : Int) == 13) = false) := by
  rcases hzz with ⟨h1, h2⟩ | ⟨h1, h2⟩
  ·exact Or.inl ⟨h2, by simp [h1]⟩
  ·exact Or.inr ⟨h2, beq_eq_false_iff_ne.2 (by omega)⟩
 clear hzz
 rcases hzc with ⟨rfl, hzb⟩ | ⟨rfl, hzb⟩
 ·go_wp2_with (first | (go_at_call 91; refine (HL.out _ (HS1.out.next (bZ _))).mono ?_; rintro r w3 (⟨i3, m3, p, a, l, c, rfl, hp, hD, hS3, hi3, hk3, hm3, hgo⟩ | ⟨i3, m3, d3, er, kk3, n3, s3, a, l, c, rfl, hr3, her, hk3, hm3, hno⟩) <;> refine Hid.out ?_))
  ·obtain ⟨hRw, hSg, hkw⟩ := HC.out w3 hk3
   obtain ⟨⟨k0, k1, k2, k3⟩, ⟨f0, f1, f2, f3⟩, hsz3⟩ := row4 hRw
   obtain ⟨⟨g0, _, _, _⟩, _, hsz4⟩ := row4 hSg
   obtain ⟨_, c1, _, fz⟩ := hS3.rd.cell
   have fz1 := fz 1
   have hcast : ((d + 1 : Nat) : Int) = (d : Int) + 1 := by omega
   rw [hcast] at c1
   have hbw : b < w3.heap.size := hS3.rd.size
   have A1 := tZ hS3
   have A2 := tZ hkw
   have A3 := tZ hp
   have A4 := tZ (HDer.out _ _ hD)
   have A5 := tZ (HGO.out _ _ hgo)
   have hne1 : w.heap.size ≠ b := by omega
   have hne2 : b ≠ w.heap.size := by omega
   clear hS3 hkw hp hD hgo fz hRw hSg hk3 hcast
   refine tZ ?_
   go_wp2
   refine bodyPost_ret (v := .tuple #[.agg #[.int .i64 14, .string ⟨#[]⟩, .int .i64 0, .slice (some ⟨w3.heap.size + 1, 0, none⟩) 1 1], .bool true]) (by simp [results, Tryz.results120, go_sem, k0, k1, k2, k3, hsz3]) rfl ?_
   obtain ⟨hSd, hkd⟩ := A1.out.setD d
   have hkA := (A2.out.trans hkd).there4 w.heap.size (.int .i64 14) (.string ⟨#[]⟩) (.int .i64 0) (.slice (some ⟨w3.heap.size + 1, 0, none⟩) 1 1) (Nat.le_refl _) hs
   have hszA : ∀ v0 v1 v2 v3, (((((w3.setCell ⟨b, 1, none⟩ (.int .i64 (d : Int))).setCell ⟨w.heap.size, 0, none⟩ v0).setCell ⟨w.heap.size, 1, none⟩ v1).setCell ⟨w.heap.size, 2, none⟩ v2).setCell ⟨w.heap.size, 3, none⟩ v3).heap.size = w3.heap.size := fun v0 v1 v2 v3 => by simp
   have hsz1' := hsz1
   refine Or.inl ⟨i3, m3 + 1 + 1, .un 14 p, some ⟨w3.heap.size + 1, 0, none⟩, 1, 1, rfl, PIs.un 14 ((A3.out.next fun q hq => ?_).wide fun q hq => ?_) ?_ (t := 49) (fr := (0, 0)) ?_ 1, A4.out, ((hSd.store4 w.heap.size _ _ _ _ hs).next (below2 _ _ _)), by omega, hkA.next (below2 _ _ _) (by have := hkA.size; omega), by omega, A5.out⟩
   ·have hq1 := hq.1
    simp at hq1
    rw [heap2 _ _ _ (by rw [hszA]; exact hq.2), heap4 _ _ _ _ _ _ (by omega), Below.heap_setCell _ _ _ _ (by show q ≠ b; omega)]
   ·have hq1 := hq.1
    have hq2 := hq.2
    simp at hq1 ⊢
    omega
   ·simp
    omega
   ·have := heap_alloc_new ((((((w3.setCell ⟨b, 1, none⟩ (.int .i64 (d : Int))).setCell ⟨w.heap.size, 0, none⟩ (.int .i64 14)).setCell ⟨w.heap.size, 1, none⟩ (.string ⟨#[]⟩)).setCell ⟨w.heap.size, 2, none⟩ (.int .i64 0)).setCell ⟨w.heap.size, 3, none⟩ (.slice (some ⟨w3.heap.size + 1, 0, none⟩) 1 1)).alloc (.cells #[.int .i64 (p.k : Int), .string ⟨p.nm.toArray⟩, .int .i64 (p.n : Int), .slice a l c] 49)) (.cells #[.int .i64 (p.k : Int), .string ⟨p.nm.toArray⟩, .int .i64 (p.n : Int), .slice a l c] 49)
    simpa using this
  ·obtain ⟨hRw, hSg, hkw⟩ := HC.out w3 hk3
   obtain ⟨⟨k0, k1, k2, k3⟩, ⟨f0, f1, f2, f3⟩, hsz3⟩ := row4 hRw
   obtain ⟨⟨g0, _, _, _⟩, _, hsz4⟩ := row4 hSg
   obtain ⟨_, c1, _, fz⟩ := hr3.cell
   have fz1 := fz 1
   have hbw : b < w3.heap.size := hr3.size
   have A1 := tZ hr3
   have A2 := tZ hkw
   have A5 := tZ (HNO.out _ _ _ hno)
   have A6 := tZ her
   have hne1 : w.heap.size ≠ b := by omega
   have hne2 : b ≠ w.heap.size := by omega
   clear hr3 hkw hno fz hRw hSg hk3 her
   refine tZ ?_
   go_wp2
   refine bodyPost_ret (v := .tuple #[.agg #[.int .i64 14, .string ⟨#[]⟩, .int .i64 0, .slice (some ⟨w3.heap.size + 1, 0, none⟩) 1 1], .bool false]) (by simp [results, Tryz.results120, go_sem, k0, k1, k2, k3, hsz3]) rfl ?_
   obtain ⟨hRd, hkd⟩ := A1.out.setD (wrap64 (d3 - 1))
   have hkA := (A2.out.trans hkd).there4 w.heap.size (.int .i64 14) (.string ⟨#[]⟩) (.int .i64 0) (.slice (some ⟨w3.heap.size + 1, 0, none⟩) 1 1) (Nat.le_refl _) hs
   exact Or.inr ⟨i3, m3 + 1 + 1, wrap64 (d3 - 1), er, 14, 0, [], some ⟨w3.heap.size + 1, 0, none⟩, 1, 1, rfl, ((hRd.store4 w.heap.size _ _ _ _ hs).next (below2 _ _ _)), A6.out, hkA.next (below2 _ _ _) (by have := hkA.size; omega), by omega, A5.out⟩
 ·go_wp2_with (first | (go_at_call 91; refine (HL.out _ (HS1.out.next (bZ _))).mono ?_; rintro r w3 (⟨i3, m3, p, a, l, c, rfl, hp, hD, hS3, hi3, hk3, hm3, hgo⟩ | ⟨i3, m3, d3, er, kk3, n3, s3, a, l, c, rfl, hr3, her, hk3, hm3, hno⟩) <;> refine Hid.out ?_))
  ·obtain ⟨hRw, hSg, hkw⟩ := HC.out w3 hk3
   obtain ⟨⟨k0, k1, k2, k3⟩, ⟨f0, f1, f2, f3⟩, hsz3⟩ := row4 hRw
   obtain ⟨⟨g0, _, _, _⟩, _, hsz4⟩ := row4 hSg
   obtain ⟨_, c1, _, fz⟩ := hS3.rd.cell
   have fz1 := fz 1
   have hcast : ((d + 1 : Nat) : Int) = (d : Int) + 1 := by omega
   rw [hcast] at c1
   have hbw : b < w3.heap.size := hS3.rd.size
   have A1 := tZ hS3
   have A2 := tZ hkw
   have A3 := tZ hp
   have A4 := tZ (HDer.out _ _ hD)
   have A5 := tZ (HGO.out _ _ hgo)
   have hne1 : w.heap.size ≠ b := by omega
   have hne2 : b ≠ w.heap.size := by omega
   clear hS3 hkw hp hD hgo fz hRw hSg hk3 hcast
   refine tZ ?_
   go_wp2
   refine bodyPost_ret (v := .tuple #[.agg #[.int .i64 (zz : Int), .string ⟨#[]⟩, .int .i64 0, .slice (some ⟨w3.heap.size + 1, 0, none⟩) 1 1], .bool true]) (by simp [results, Tryz.results120, go_sem, k0, k1, k2, k3, hsz3]) rfl ?_
   obtain ⟨hSd, hkd⟩ := A1.out.setD d
   have hkA := (A2.out.trans hkd).there4 w.heap.size (.int .i64 (zz : Int)) (.string ⟨#[]⟩) (.int .i64 0) (.slice (some ⟨w3.heap.size + 1, 0, none⟩) 1 1) (Nat.le_refl _) hs
   have hszA : ∀ v0 v1 v2 v3, (((((w3.setCell ⟨b, 1, none⟩ (.int .i64 (d : Int))).setCell ⟨w.heap.size, 0, none⟩ v0).setCell ⟨w.heap.size, 1, none⟩ v1).setCell ⟨w.heap.size, 2, none⟩ v2).setCell ⟨w.heap.size, 3, none⟩ v3).heap.size = w3.heap.size := fun v0 v1 v2 v3 => by simp
   have hsz1' := hsz1
   refine Or.inl ⟨i3, m3 + 1 + 1, .un zz p, some ⟨w3.heap.size + 1, 0, none⟩, 1, 1, rfl, PIs.un zz ((A3.out.next fun q hq => ?_).wide fun q hq => ?_) ?_ (t := 49) (fr := (0, 0)) ?_ 1, A4.out, ((hSd.store4 w.heap.size _ _ _ _ hs).next (below2 _ _ _)), by omega, hkA.next (below2 _ _ _) (by have := hkA.size; omega), by omega, A5.out⟩
   ·have hq1 := hq.1
    simp at hq1
    rw [heap2 _ _ _ (by rw [hszA]; exact hq.2), heap4 _ _ _ _ _ _ (by omega), Below.heap_setCell _ _ _ _ (by show q ≠ b; omega)]
   ·have hq1 := hq.1
    have hq2 := hq.2
    simp at hq1 ⊢
    omega
   ·simp
    omega
   ·have := heap_alloc_new ((((((w3.setCell ⟨b, 1, none⟩ (.int .i64 (d : Int))).setCell ⟨w.heap.size, 0, none⟩ (.int .i64 (zz : Int))).setCell ⟨w.heap.size, 1, none⟩ (.string ⟨#[]⟩)).setCell ⟨w.heap.size, 2, none⟩ (.int .i64 0)).setCell ⟨w.heap.size, 3, none⟩ (.slice (some ⟨w3.heap.size + 1, 0, none⟩) 1 1)).alloc (.cells #[.int .i64 (p.k : Int), .string ⟨p.nm.toArray⟩, .int .i64 (p.n : Int), .slice a l c] 49)) (.cells #[.int .i64 (p.k : Int), .string ⟨p.nm.toArray⟩, .int .i64 (p.n : Int), .slice a l c] 49)
    simpa using this
  ·obtain ⟨hRw, hSg, hkw⟩ := HC.out w3 hk3
   obtain ⟨⟨k0, k1, k2, k3⟩, ⟨f0, f1, f2, f3⟩, hsz3⟩ := row4 hRw
   obtain ⟨⟨g0, _, _, _⟩, _, hsz4⟩ := row4 hSg
   obtain ⟨_, c1, _, fz⟩ := hr3.cell
   have fz1 := fz 1
   have hbw : b < w3.heap.size := hr3.size
   have A1 := tZ hr3
   have A2 := tZ hkw
   have A5 := tZ (HNO.out _ _ _ hno)
   have A6 := tZ her
   have hne1 : w.heap.size ≠ b := by omega
   have hne2 : b ≠ w.heap.size := by omega
   clear hr3 hkw hno fz hRw hSg hk3 her
   refine tZ ?_
   go_wp2
   refine bodyPost_ret (v := .tuple #[.agg #[.int .i64 (zz : Int), .string ⟨#[]⟩, .int .i64 0, .slice (some ⟨w3.heap.size + 1, 0, none⟩) 1 1], .bool false]) (by simp [results, Tryz.results120, go_sem, k0, k1, k2, k3, hsz3]) rfl ?_
   obtain ⟨hRd, hkd⟩ := A1.out.setD (wrap64 (d3 - 1))
   have hkA := (A2.out.trans hkd).there4 w.heap.size (.int .i64 (zz : Int)) (.string ⟨#[]⟩) (.int .i64 0) (.slice (some ⟨w3.heap.size + 1, 0, none⟩) 1 1) (Nat.le_refl _) hs
   exact Or.inr ⟨i3, m3 + 1 + 1, wrap64 (d3 - 1), er, (zz : Int), 0, [], some ⟨w3.heap.size + 1, 0, none⟩, 1, 1, rfl, ((hRd.store4 w.heap.size _ _ _ _ hs).next (below2 _ _ _)), A6.out, hkA.next (below2 _ _ _) (by have := hkA.size; omega), by omega, A5.out⟩
theorem behindSign43 (hok : OkT ts) (F : Nat) (IH : LvAll len ts b bl cp F) (n i d : Nat) (e : Int) (w : World) (hd : d ≤ 6) (hi : i < ts.length) (hA : Ahead n (tAt ts i)) (hF : 10 * (ts.length - i) + (7 - n) < F + 1) (hS : St len ts w b bl cp i d e) :
  Calls Tryz.prog 120 #[.pointer (some ⟨b, 0, none⟩), .int .i64 (n : Int)] w (LvPost len ts [symB (lv n) d] (fun i' p => Der ts n i i' p) (2 * n) b bl cp i d e w) := by
 have hn : 1 ≤ n ∧ n ≤ 6 := by rcases hA with ⟨rfl, _⟩ | ⟨rfl, _⟩ <;> omega
 by_cases h6 : d = 6
 ·subst h6
  refine (bs_deep n i e w hS.rd).mono ?_
  rintro r w' ⟨rfl, hr, hb⟩
  refine Or.inr ⟨i, 2, 6, 4, 0, 0, [], none, 0, 0, rfl, hr, by decide, hb, by omega, ?_⟩
  refine No1.sym (by omega) ?_
  rw [bec_ahead_no n _ hA]
  exact No1.deep
 ·have hd6 : d < 6 := by omega
  obtain ⟨k, hcl, hkk, hk20, _⟩ := hok.cls hS.rd.lt
  have hkn := ahead_kind n _ k hA hcl
  refine bs_go hok n i d e w hn.1 hd6 hi hA hS k (if n = 6 then 14 else 6) hkk ?_ ?_ ?_
  ·rcases hkn with ⟨rfl, rfl⟩ | ⟨rfl, rfl⟩
   ·right; decide
   ·left; decide
  ·intro i' p hD
   rcases hA with ⟨rfl, ht⟩ | ⟨rfl, ht⟩
   ·exact Der.nots i i' p ht hD
   ·exact Der.neg i i' p ht hD
  ·intro w2 hS2
   exact IH n (i + 1) (d + 1) e w2 hn.1 hn.2 (by omega) (by omega) hS2
end
end
end Go.Proofs.YtihgojcfpnhelabGreatDoor
