import Derived.Test.YtihgojcfpnhelaaDoorXe
namespace Go.Proofs.YtihgojcfpnhelaaDoor
open Go.RowKit

theorem Env.spellAt {w : World} (h : Env w) (k : Nat) (hk : k < 20) : w.cell? ⟨3, k * 3, none⟩ = some (.string ⟨(ahd k).toArray⟩) ∧ w.cell? ⟨3, k * 3 + 1, none⟩ = some (.string ⟨(btw k).toArray⟩) ∧ w.cell? ⟨3, k * 3 + 2, none⟩ = some (.string ⟨(bhd k).toArray⟩) := by
  obtain ⟨t, fr, hb⟩ := h.spell
  rw [cell_of_row w 3 _ _ _ _ hb, cell_of_row w 3 _ _ _ _ hb, cell_of_row w 3 _ _ _ _ hb]
  rcases (show k = 0 ∨ k = 1 ∨ k = 2 ∨ k = 3 ∨ k = 4 ∨ k = 5 ∨ k = 6 ∨ k = 7 ∨ k = 8 ∨ k = 9 ∨ k = 10 ∨ k = 11 ∨ k = 12 ∨ k = 13 ∨ k = 14 ∨ k = 15 ∨ k = 16 ∨ k = 17 ∨ k = 18 ∨ k = 19 by omega) with rfl | rfl | rfl | rfl | rfl | rfl | rfl | rfl | rfl | rfl | rfl | rfl | rfl | rfl | rfl | rfl | rfl | rfl | rfl | rfl <;> exact ⟨rfl, rfl, rfl⟩

/-- All kinds and numbers are within their bounds. -/
def Good : Pt → Prop
  | .atom k _ n => k < 20 ∧ n ≤ top63
  | .un k a => k < 20 ∧ Good a
  | .bin k a b => k < 20 ∧ Good a ∧ Good b
  | .ifs a b c => Good a ∧ Good b ∧ Good c

theorem Good.get {p : Pt} (h : Good p) : p.k < 20 ∧ p.n ≤ top63 ∧ ∀ j (hj : j < p.kids.length), Good p.kids[j] := by
  cases p with
  | atom k x n => exact ⟨h.1, h.2, fun j hj => by simp [Pt.kids] at hj⟩
  | un k a =>
    refine ⟨h.1, Nat.zero_le _, fun j hj => ?_⟩
    obtain rfl : j = 0 := by simp [Pt.kids] at hj; omega
    exact h.2
  | bin k a b =>
    refine ⟨h.1, Nat.zero_le _, fun j hj => ?_⟩
    rcases (show j = 0 ∨ j = 1 by simp [Pt.kids] at hj; omega) with rfl | rfl
    · exact h.2.1
    · exact h.2.2
  | ifs a b c =>
    refine ⟨by show 3 < 20; omega, Nat.zero_le _, fun j hj => ?_⟩
    rcases (show j = 0 ∨ j = 1 ∨ j = 2 by simp [Pt.kids] at hj; omega) with rfl | rfl | rfl
    · exact h.1
    · exact h.2.1
    · exact h.2.2

theorem Cls.lt {t : By} {k : Nat} (h : Cls t k) : k < 20 := by
  rcases h with ⟨_, rfl⟩ | ⟨_, _, rfl⟩ | ⟨_, rfl⟩ | hm
  · omega
  · omega
  · omega
  · exact (show ∀ x, x ∈ meanN → x.2 < 20 by decide) _ hm

theorem nuB_le (t : By) (h : tokOK t = true) : nuB t ≤ top63 := by
  unfold nuB
  by_cases hD : headD t = true
  · rw [hD]
    simp only [if_true]
    unfold tokOK at h
    rw [hD] at h
    simp only [if_true, Bool.and_eq_true, decide_eq_true_eq] at h
    exact h.2
  · rw [if_neg hD]
    exact Nat.zero_le _

theorem Der.good {ts : List (By × Nat)} (hok : OkT ts) {n i j : Nat} {p : Pt} (h : Der ts n i j p) : Good p := by
  induction h with
  | atom i k hi hc _ => exact ⟨hc.lt, nuB_le _ (hok.get hi).1⟩
  | nots _ _ _ _ _ ih => exact ⟨by decide, ih⟩
  | neg _ _ _ _ _ ih => exact ⟨by decide, ih⟩
  | br _ _ _ _ _ _ ih => exact ⟨by decide, ih⟩
  | ifs _ _ _ _ _ _ _ _ _ _ _ _ _ _ _ iha ihb ihc => exact ⟨iha, ihb, ihc⟩
  | up _ _ _ _ _ _ _ ih => exact ih
  | more _ _ _ _ _ _ _ _ _ _ _ hc _ iha ihb => exact ⟨hc.lt, iha, ihb⟩

/-- A strings.Builder in block b that holds these bytes. -/
def Bu (b : Nat) (acc : By) (w : World) : Prop := Lib.IsBuilderF 74 5 b b (Lib.byteCells acc) w ∧ b < w.heap.size

/-- What a write into it leaves. -/
structure Okw (b : Nat) (w w' : World) : Prop where
  bel : Below b w w'
  oth : Lib.OthersKept 5 (some b) w w'

theorem Okw.trans {b : Nat} {w w' w'' : World} (h : Okw b w w') (g : Okw b w' w'') : Okw b w w'' := ⟨h.bel.trans g.bel, h.oth.trans g.oth⟩
theorem Okw.refl (b : Nat) (w : World) : Okw b w w := ⟨Below.refl _ _, Lib.OthersKept.refl _ _ _⟩
theorem Okw.next {b : Nat} {w w' w'' : World} (h : Okw b w w') (g : Below w'.heap.size w' w'') (hb : b ≤ w'.heap.size) : Okw b w w'' := ⟨h.bel.trans (g.mono hb), fun k o hk h1 h2 => by
  have h3 := h.oth k o hk h1 h2
  rw [g.block k (Array.getElem?_eq_some_iff.1 h3).1]
  exact h3⟩
theorem buAt_next {T e : TypeId} {B b : Nat} {p : Value} {bs : List Value} {w w' : World} (h : Lib.BuilderAtF T e B b p bs w) (g : Below w.heap.size w w') : Lib.BuilderAtF T e B b p bs w' := by
  have hlt := h.lt
  obtain ⟨h1, v, h2, h3, h4⟩ := h
  refine ⟨h1, v, (g.block b hlt).trans h2, h3.kept (row := none) ⟨g.os, g.tape, g.output, g.size, fun k hk _ => g.block k hk⟩ ?_, h4⟩
  cases v.ownBlock with
  | none => exact Or.inl rfl
  | some x => exact Or.inr (by simp)

theorem Bu.next {b : Nat} {acc : By} {w w' : World} (h : Bu b acc w) (g : Below w.heap.size w w') : Bu b acc w' := ⟨h.1.elim (fun x => Or.inl (buAt_next x g)) (fun x => Or.inr (buAt_next x g)), Nat.lt_of_lt_of_le h.2 g.size⟩

/-- A block of another kind stands. -/
theorem Okw.blk {b q : Nat} {w w' : World} {cs : Array Value} {t : TypeId} {fr : Nat × Nat} (h : Okw b w w') (hq : w.heap[q]? = some (.cells cs t fr)) (hn : q ≠ b) (ht : t ≠ 5) : w'.heap[q]? = some (.cells cs t fr) :=
  h.oth q _ hq (by simpa using hn) (fun c fz e => by simp only [Obj.cells.injEq] at e; exact ht e.2.1)

theorem wstr (b : Nat) (acc s : By) (w : World) (h : Bu b acc w) (hl : acc.length + s.length ≤ 1000000) :
    Calls Tryd.prog 47 #[.pointer (some ⟨b, 0, none⟩), .string ⟨s.toArray⟩] w fun e w' => e = .returned (.tuple #[.int .i64 (s.length : Int), .nilIface]) ∧ Bu b (acc ++ s) w' ∧ Okw b w w' := by
  refine (Tryd.Builder_WriteString_k b b _ ⟨s.toArray⟩ w h.1 (by show (acc.map _).length + s.length ≤ _; rw [List.length_map]; omega) (by have := h.2; omega)).mono ?_
  rintro e w' ⟨rfl, hB, hb, hk⟩
  refine ⟨rfl, ⟨?_, Nat.lt_of_lt_of_le h.2 hb.size⟩, hb, hk⟩
  have e1 : Lib.byteCells (acc ++ s) = Lib.byteCells acc ++ Lib.strCells ⟨s.toArray⟩ := by
    show (acc ++ s).map _ = acc.map _ ++ s.map _
    rw [List.map_append]
  rw [e1]
  exact Or.inr hB

theorem jn_take_succ (bt : By) (l : List By) (j : Nat) (h : j < l.length) : jn bt (l.take (j + 1)) = jn bt (l.take j) ++ (if j = 0 then [] else bt) ++ l[j] := by
  rw [List.take_succ_eq_append_getElem h, jn_snoc]
  congr 2
  by_cases hj : j = 0
  · subst hj; simp
  · rw [if_neg hj, if_neg]
    intro e
    have e2 := congrArg List.length e
    rw [List.length_take, List.length_nil] at e2
    omega

theorem jn_take_le (bt : By) (l : List By) (j : Nat) : (jn bt (l.take j)).length ≤ (jn bt l).length := by
  induction l generalizing j with
  | nil => simp
  | cons x l _ =>
    cases j with
    | zero => simp [jn]
    | succ j =>
      simp only [List.take_succ_cons, jn, List.length_append]
      have : ((l.take j).flatMap fun y => bt ++ y).length ≤ (l.flatMap fun y => bt ++ y).length := by
        conv => rhs; rw [← List.take_append_drop j l, List.flatMap_append, List.length_append]
        omega
      omega

/-- The text that is written when j parts are. -/
def wr0 (p : Pt) : By := ahd p.k ++ p.nm ++ numT p.k p.n
def wrTo (p : Pt) (j : Nat) : By := wr0 p ++ jn (btw p.k) ((p.kids.map txt).take j)

theorem txt_wr (p : Pt) : txt p = wrTo p p.kids.length ++ bhd p.k := by
  rw [txt_eq]
  unfold wrTo wr0
  rw [List.take_of_length_le (by simp)]

theorem wrTo_succ (p : Pt) (j : Nat) (h : j < p.kids.length) : wrTo p (j + 1) = wrTo p j ++ (if j = 0 then [] else btw p.k) ++ txt p.kids[j] := by
  unfold wrTo
  rw [jn_take_succ _ _ j (by simpa using h), List.getElem_map]
  simp

theorem wrTo_le (p : Pt) (j : Nat) : (wrTo p j).length + (bhd p.k).length ≤ (txt p).length := by
  rw [txt_eq]
  unfold wrTo wr0
  have := jn_take_le (btw p.k) (p.kids.map txt) j
  simp only [List.length_append] at *
  omega
end Go.Proofs.YtihgojcfpnhelaaDoor
