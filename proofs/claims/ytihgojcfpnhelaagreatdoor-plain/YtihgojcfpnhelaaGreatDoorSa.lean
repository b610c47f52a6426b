import Derived.Test.YtihgojcfpnhelaaGreatDoorMl
import Derived.Test.YtihgojcfpnhelaaGreatDoorMa
import Derived.Test.YtihgojcfpnhelaaGreatDoorYb
set_option linter.unusedVariables false
set_option linter.unusedSimpArgs false
namespace Go.Proofs.YtihgojcfpnhelaaGreatDoor
open Go.RowKit

set_option maxRecDepth 100000 in
set_option maxHeartbeats 4000000 in
theorem ruleMentions (x : By) {S : Nat → Prop} (p : Pt) (a : Option Addr) (l c : Nat) (w : World) (hP : PIs w S p a l c) (hS : ∀ q, S q → q < w.heap.size) :
    Calls Tryz.prog 195 #[.agg #[.int .i64 (p.k : Int), .string ⟨p.nm.toArray⟩, .int .i64 (p.n : Int), .slice a l c], .string ⟨x.toArray⟩] w fun e w' => e = .returned (.bool (mentP x p)) ∧ Below w.heap.size w w' := by
  have H := toHid (fun w1 (hb : Below w.heap.size w w1) => mentions168 x hP w1 (fun q hq => ⟨Nat.lt_of_lt_of_le (hS q hq) hb.size, hb.block q (hS q hq)⟩))
  clear hP hS
  go_enter Tryz.func195, Tryz.ntmps195
  go_wp2_with (first | (go_at_call 218; refine (H.out _ ((Below.refl _ _).alloc (Nat.le_refl _) _)).mono ?_; rintro e w1 ⟨rfl, hb1⟩))
  go_ret
  exact ⟨rfl, ((Below.refl _ _).alloc (Nat.le_refl _) _).trans (hb1.mono (by simp))⟩

set_option maxRecDepth 100000 in
set_option maxHeartbeats 4000000 in
theorem ruleWorth (r : Value) (ρ : By → Vl) {S : Nat → Prop} (p : Pt) (a : Option Addr) (l c : Nat) (w : World) (hP : PIs w S p a l c) (hS : ∀ q, S q → q < w.heap.size) (hsh : Shape p) (hN : ∀ x W, Below w.heap.size w W → Calls Tryz.prog 198 #[r, .string ⟨(x : By).toArray⟩] W (VPost (ρ x) W)) :
    Calls Tryz.prog 197 #[.agg #[.int .i64 (p.k : Int), .string ⟨p.nm.toArray⟩, .int .i64 (p.n : Int), .slice a l c], namedV r] w (VPost (valP ρ p) w) := by
  have H := toHid (fun w1 (hb : Below w.heap.size w w1) => worth169 r ρ hP w1 hsh (fun q hq => ⟨Nat.lt_of_lt_of_le (hS q hq) hb.size, hb.block q (hS q hq)⟩) (fun x W hW => hN x W (hb.trans (hW.mono hb.size))))
  clear hP hS hN hsh
  go_enter Tryz.func197, Tryz.ntmps197
  go_wp2_with (first | (go_at_call 220; refine (H.out _ (below2 _ _ _)).mono ?_; rintro e w1 ⟨rfl, hb1⟩; refine Hid.out ?_))
  have hR := (hb1.block (w.heap.size + 1) (by simp)).trans (alloc2_new' w _ _ _)
  obtain ⟨⟨k0, k1⟩, ⟨f0, f1⟩, hsz⟩ := row2 hR
  have HB := toHid (show Below w.heap.size w w1 from (below2 w _ _).trans (hb1.mono (by simp; omega)))
  clear hb1 hR H
  generalize valP ρ p = vv at *
  refine toHid ?_
  go_wp2
  refine bodyPost_ret (v := .agg #[.int .i64 vv.1, .int .i64 vv.2]) (by simp [results, Tryz.results197, go_sem, k0, k1]) rfl ?_
  exact ⟨rfl, below_st2 HB.out _ (by omega) _ _⟩

/-- What 'Renamed' answers. -/
def RuPost (x y : By) (p : Pt) (w : World) (e : Ending) (w' : World) : Prop :=
  Below w.heap.size w w' ∧ ((100 < (txt (renP x y p)).length ∧ e = .returned (.tuple #[.agg #[.int .i64 0, .string ⟨#[]⟩, .int .i64 0, .slice none 0 0], .int .i64 7])) ∨ (¬ 100 < (txt (renP x y p)).length ∧ ∃ (a : Option Addr) (l c : Nat), e = .returned (.tuple #[.agg #[.int .i64 ((renP x y p).k : Int), .string ⟨((renP x y p).nm).toArray⟩, .int .i64 ((renP x y p).n : Int), .slice a l c], .int .i64 0]) ∧ PIs w' (fun q => w.heap.size ≤ q ∧ q < w'.heap.size) (renP x y p) a l c))

set_option maxRecDepth 100000 in
set_option maxHeartbeats 4000000 in
theorem ruleRenamed (x y : By) {S : Nat → Prop} (p : Pt) (a : Option Addr) (l c : Nat) (w : World) (hP : PIs w S p a l c) (hS : ∀ q, S q → q < w.heap.size) (hsh : Shape p) (hE : Env w) (hG : Good (renP x y p)) (hl : (txt (renP x y p)).length ≤ 1000000) :
    Calls Tryz.prog 200 #[.agg #[.int .i64 (p.k : Int), .string ⟨p.nm.toArray⟩, .int .i64 (p.n : Int), .slice a l c], .string ⟨x.toArray⟩, .string ⟨y.toArray⟩] w (RuPost x y p w) := by
  have H := toHid (fun w1 (hb : Below w.heap.size w w1) => renamed170 x y hP w1 hsh (fun q hq => ⟨Nat.lt_of_lt_of_le (hS q hq) hb.size, hb.block q (hS q hq)⟩))
  have HBD := toHid (show ∀ (a : Option Addr) (l c : Nat) (w1 w2 : World), Below w.heap.size w w1 → PIs w2 (fun q => w1.heap.size ≤ q ∧ q < w2.heap.size) (renP x y p) a l c → Below w1.heap.size w1 w2 → Calls Tryz.prog 62 #[.agg #[.int .i64 ((renP x y p).k : Int), .string ⟨((renP x y p).nm).toArray⟩, .int .i64 ((renP x y p).n : Int), .slice a l c]] w2 (RuPost x y p w1) from fun a l c w1 w2 hb hp hb2 => by
    have hb3 := hb.trans (hb2.mono hb.size)
    refine (bounded15 (renP x y p) a l c w2 hp (fun q hq => hq.2) (hE.next hb3) hG hl).mono ?_
    rintro e w' ⟨hb4, h⟩
    refine ⟨hb2.trans (hb4.mono hb2.size), ?_⟩
    rcases h with ⟨h1, h2⟩ | ⟨h1, h2⟩
    · exact Or.inl ⟨h1, h2⟩
    · exact Or.inr ⟨h1, a, l, c, h2, (hp.next fun q hq => hb4.block q hq.2).wide fun q hq => ⟨hq.1, Nat.lt_of_lt_of_le hq.2 hb4.size⟩⟩)
  clear hP hS hsh hE hG hl
  go_enter Tryz.func200, Tryz.ntmps200
  go_wp2_with (first | (go_at_call 222; refine (H.out _ (below2 _ _ _)).mono ?_; rintro e w1 ⟨a', l', c', rfl, hp1, hb1⟩) | (go_at_call 62; refine (HBD.out _ _ _ _ _ (below2 _ _ _) hp1 hb1).mono ?_; rintro e w3 ⟨hb3, ⟨h1, rfl⟩ | ⟨h1, a2, l2, c2, rfl, hp2⟩⟩ <;> refine Hid.out ?_))
  · obtain ⟨⟨k0, k1, k2, k3⟩, ⟨f0, f1, f2, f3⟩, hsz⟩ := row4 ((hb3.block (w.heap.size + 1) (by simp)).trans (alloc2_new' w _ _ _))
    have HB := toHid hb3
    have H1 := toHid h1
    clear hb3 h1 hb1 hp1 H HBD
    refine toHid ?_
    go_wp2
    refine bodyPost_ret (v := .tuple #[.agg #[.int .i64 0, .string ⟨#[]⟩, .int .i64 0, .slice none 0 0], .int .i64 7]) (by simp [results, Tryz.results200, go_sem, k0, k1, k2, k3]) rfl ?_
    refine ⟨?_, Or.inl ⟨H1.out, rfl⟩⟩
    exact ((((((below2 w _ _).trans (HB.out.mono (by simp; omega))).setCell (p := ⟨w.heap.size + 1, 0, none⟩) (by show w.heap.size ≤ w.heap.size + 1; omega) _).setCell (p := ⟨w.heap.size + 1, 1, none⟩) (by show w.heap.size ≤ w.heap.size + 1; omega) _).setCell (p := ⟨w.heap.size + 1, 2, none⟩) (by show w.heap.size ≤ w.heap.size + 1; omega) _).setCell (p := ⟨w.heap.size + 1, 3, none⟩) (by show w.heap.size ≤ w.heap.size + 1; omega) _)
  · obtain ⟨⟨k0, k1, k2, k3⟩, ⟨f0, f1, f2, f3⟩, hsz⟩ := row4 ((hb3.block (w.heap.size + 1) (by simp)).trans (alloc2_new' w _ _ _))
    have HB := toHid hb3
    have H1 := toHid h1
    have HP2 := toHid hp2
    clear hb3 h1 hb1 hp1 H HBD hp2
    refine toHid ?_
    go_wp2
    refine bodyPost_ret (v := .tuple #[.agg #[.int .i64 ((renP x y p).k : Int), .string ⟨((renP x y p).nm).toArray⟩, .int .i64 ((renP x y p).n : Int), .slice a2 l2 c2], .int .i64 0]) (by simp [results, Tryz.results200, go_sem, k0, k1, k2, k3]) rfl ?_
    refine ⟨?_, Or.inr ⟨H1.out, a2, l2, c2, rfl, (HP2.out.next fun q hq => heap4 w3 (w.heap.size + 1) _ _ _ _ (by have := hq.1; simp at this; omega)).wide fun q hq => ⟨by have := hq.1; simp at this; omega, by simpa using hq.2⟩⟩⟩
    exact ((((((below2 w _ _).trans (HB.out.mono (by simp; omega))).setCell (p := ⟨w.heap.size + 1, 0, none⟩) (by show w.heap.size ≤ w.heap.size + 1; omega) _).setCell (p := ⟨w.heap.size + 1, 1, none⟩) (by show w.heap.size ≤ w.heap.size + 1; omega) _).setCell (p := ⟨w.heap.size + 1, 2, none⟩) (by show w.heap.size ≤ w.heap.size + 1; omega) _).setCell (p := ⟨w.heap.size + 1, 3, none⟩) (by show w.heap.size ≤ w.heap.size + 1; omega) _)

end Go.Proofs.YtihgojcfpnhelaaGreatDoor
namespace Go.Proofs.YtihgojcfpnhelaaGreatDoor
open Go.RowKit

/-- A field: its name, its rule, what it is worth. -/
structure Fd where
  nm : By
  p : Pt
  v : Vl

/-- A field lies in a block; its rule in blocks of S, which are never written again. -/
def FdAt (w : World) (S : Nat → Prop) (b : Nat) (f : Fd) : Prop :=
  ¬ S b ∧ Shape f.p ∧ Good f.p ∧ (txt f.p).length ≤ 100 ∧ ∃ (a : Option Addr) (l c : Nat), w.heap[b]? = some (.cells #[.string ⟨f.nm.toArray⟩, .int .i64 (f.p.k : Int), .string ⟨f.p.nm.toArray⟩, .int .i64 (f.p.n : Int), .slice a l c, .int .i64 f.v.1, .int .i64 f.v.2] 223 (0, 0)) ∧ PIs w S f.p a l c

/-- A list of fields: pointers in a row, in a block of S. -/
structure Sh (w : World) (S : Nat → Prop) (a : Option Addr) (fs : List (Nat × Fd)) : Prop where
  still : ∀ q, S q → q < w.heap.size
  ptr : ∀ j (h : j < fs.length), ∃ g o, a = some ⟨g, o, none⟩ ∧ S g ∧ w.cell? ⟨g, o + j, none⟩ = some (.pointer (some ⟨(fs[j]).1, 0, none⟩))
  fld : ∀ x, x ∈ fs → FdAt w S x.1 x.2

theorem FdAt.lt {w : World} {S : Nat → Prop} {b : Nat} {f : Fd} (h : FdAt w S b f) : b < w.heap.size := by
  obtain ⟨_, _, _, _, a, l, c, hb, _⟩ := h
  exact (Array.getElem?_eq_some_iff.1 hb).1

theorem FdAt.next {w w' : World} {S : Nat → Prop} {b : Nat} {f : Fd} (h : FdAt w S b f) (hS : ∀ q, S q → q < w.heap.size) (hb : Below w.heap.size w w') : FdAt w' S b f := by
  have hlt := h.lt
  obtain ⟨h1, h2, h3, h4, a, l, c, hh, hp⟩ := h
  exact ⟨h1, h2, h3, h4, a, l, c, (hb.block b hlt).trans hh, hp.next fun q hq => hb.block q (hS q hq)⟩

theorem Sh.next {w w' : World} {S : Nat → Prop} {a : Option Addr} {fs : List (Nat × Fd)} (h : Sh w S a fs) (hb : Below w.heap.size w w') : Sh w' S a fs := by
  refine ⟨fun q hq => Nat.lt_of_lt_of_le (h.still q hq) hb.size, fun j hj => ?_, fun x hx => (h.fld x hx).next h.still hb⟩
  obtain ⟨g, o, h1, h2, h3⟩ := h.ptr j hj
  exact ⟨g, o, h1, h2, (hb.cell (p := ⟨g, o + j, none⟩) (h.still g h2)).trans h3⟩

theorem row7 {w : World} {q : Nat} {v0 v1 v2 v3 v4 v5 v6 : Value} {t : TypeId} (h : w.heap[q]? = some (.cells #[v0, v1, v2, v3, v4, v5, v6] t (0, 0))) :
    (w.cell? ⟨q, 0, none⟩ = some v0 ∧ w.cell? ⟨q, 1, none⟩ = some v1 ∧ w.cell? ⟨q, 2, none⟩ = some v2 ∧ w.cell? ⟨q, 3, none⟩ = some v3 ∧ w.cell? ⟨q, 4, none⟩ = some v4 ∧ w.cell? ⟨q, 5, none⟩ = some v5 ∧ w.cell? ⟨q, 6, none⟩ = some v6) ∧ (∀ j, w.frozen? ⟨q, j, none⟩ = false) ∧ q < w.heap.size :=
  ⟨⟨(cell_of_row w q 0 _ _ _ h).trans rfl, (cell_of_row w q 1 _ _ _ h).trans rfl, (cell_of_row w q 2 _ _ _ h).trans rfl, (cell_of_row w q 3 _ _ _ h).trans rfl, (cell_of_row w q 4 _ _ _ h).trans rfl, (cell_of_row w q 5 _ _ _ h).trans rfl, (cell_of_row w q 6 _ _ _ h).trans rfl⟩, fun j => fz_of_row h j, (Array.getElem?_eq_some_iff.1 h).1⟩

def findF (fs : List (Nat × Fd)) (x : By) : Option (Nat × Fd) := fs.find? fun f => f.2.nm == x
def findB (fs : List (Nat × Fd)) (x : By) : Option Addr := (findF fs x).map fun f => ⟨f.1, 0, none⟩

theorem findF_at (fs : List (Nat × Fd)) (x : By) (k : Nat) (h : k < fs.length) (h1 : ∀ j (hj : j < fs.length), j < k → (fs[j]).2.nm ≠ x) (h2 : (fs[k]).2.nm = x) : findF fs x = some fs[k] := by
  induction fs generalizing k with
  | nil => simp at h
  | cons f fs ih =>
    cases k with
    | zero =>
      simp at h2
      simp [findF, h2]
    | succ k =>
      have h0 : f.2.nm ≠ x := h1 0 (by simp) (by omega)
      have := ih k (by simpa using h) (fun j hj hjk => h1 (j + 1) (by simpa using hj) (by omega)) (by simpa using h2)
      simp only [findF] at *
      rw [List.find?_cons_of_neg (by simpa using h0)]
      simpa using this

theorem findF_none (fs : List (Nat × Fd)) (x : By) (h1 : ∀ j (hj : j < fs.length), (fs[j]).2.nm ≠ x) : findF fs x = none := by
  simp only [findF, List.find?_eq_none]
  intro f hf
  obtain ⟨j, hj, rfl⟩ := List.getElem_of_mem hf
  simpa using h1 j hj

set_option maxRecDepth 100000 in
set_option maxHeartbeats 4000000 in
theorem find101 (x : By) {S : Nat → Prop} (e c : Nat) (a : Option Addr) (fs : List (Nat × Fd)) (w : World) (hs : Sh w S a fs) (hc : w.cell? ⟨e, 0, none⟩ = some (.slice a fs.length c)) (hl : fs.length ≤ 1000) :
    Calls Tryz.prog 137 #[.pointer (some ⟨e, 0, none⟩), .string ⟨x.toArray⟩] w fun r w' => r = .returned (.pointer (findB fs x)) ∧ w = w' := by
  have HS := toHid hs
  clear hs
  go_enter Tryz.func137, Tryz.ntmps137
  go_wp2_with fail
  go_loopg [6, 12] fs.length (fun gk _ s12 wr => wr = w ∧ ∃ j : Nat, j ≤ fs.length ∧ fs.length ≤ j + gk ∧ s12 = .int .i64 (j : Int) ∧ Hid (∀ i (hi : i < fs.length), i < j → (fs[i]).2.nm ≠ x))
  case atStart => exact ⟨rfl, 0, Nat.zero_le _, by omega, rfl, fun i hi h => by omega⟩
  case round =>
    obtain ⟨rfl, j, hj, hgk, rfl, HF⟩ := hrel
    by_cases hlt : j < fs.length
    · obtain ⟨g, o, rfl, hg, hp⟩ := HS.out.ptr j hlt
      obtain ⟨_, _, _, _, a1, l1, c1, hb, _⟩ := HS.out.fld fs[j] (List.getElem_mem hlt)
      obtain ⟨⟨k0, _⟩, hfz, hsz⟩ := row7 hb
      have hltz : (j : Int) < (fs.length : Int) := by omega
      by_cases he : (fs[j]).2.nm = x
      · have heb : ((fs[j]).2.nm == x) = true := by simp [he]
        have HR := toHid (findF_at fs x j hlt (fun i hi h => HF.out i hi h) he)
        clear he hb hfz HF
        generalize hq : (fs[j]).1 = q at *
        have HQ := toHid hq
        clear hq
        generalize (fs[j]).2.nm = y at *
        go_wp2
        go_ret
        exact ⟨by rw [findB, HR.out, ← HQ.out]; rfl, rfl⟩
      · have heb : ((fs[j]).2.nm == x) = false := beq_eq_false_iff_ne.2 he
        have HF2 := toHid (show ∀ i (hi : i < fs.length), i < j + 1 → (fs[i]).2.nm ≠ x from fun i hi h => by
          by_cases e : i = j
          · subst e; exact he
          · exact HF.out i hi (by omega))
        clear he hb hfz
        generalize (fs[j]).1 = q at *
        generalize (fs[j]).2.nm = y at *
        go_wp2
        go_roundg (fs.length - (j + 1))
        case measure => omega
        case rel => exact ⟨rfl, j + 1, by omega, by omega, by go_num, HF2⟩
    · have hltz : ¬ (j : Int) < (fs.length : Int) := by omega
      go_wp2
      go_ret
      refine ⟨?_, rfl⟩
      rw [findB, findF_none fs x fun i hi => HF.out i hi (by omega)]
      rfl

/-- What a name is worth to the rules. -/
def rho (fs : List (Nat × Fd)) (x : By) : Vl := match findF fs x with | some f => f.2.v | none => (3, 3)

theorem findF_mem {fs : List (Nat × Fd)} {x : By} {f : Nat × Fd} (h : findF fs x = some f) : f ∈ fs ∧ f.2.nm = x := by
  simp only [findF] at h
  exact ⟨List.mem_of_find?_eq_some h, by simpa using List.find?_some h⟩

set_option maxRecDepth 100000 in
set_option maxHeartbeats 4000000 in
theorem worth172 (x : By) {S : Nat → Prop} (e c : Nat) (a : Option Addr) (fs : List (Nat × Fd)) (w : World) (hs : Sh w S a fs) (hc : w.cell? ⟨e, 0, none⟩ = some (.slice a fs.length c)) (he : e < w.heap.size) (hl : fs.length ≤ 1000) :
    Calls Tryz.prog 198 #[.pointer (some ⟨e, 0, none⟩), .string ⟨x.toArray⟩] w (VPost (rho fs x) w) := by
  have H := toHid (fun W (hb : Below w.heap.size w W) => find101 x e c a fs W (hs.next hb) ((hb.cell (p := ⟨e, 0, none⟩) he).trans hc) hl)
  have HS := toHid hs
  clear hs
  unfold rho
  cases hf : findF fs x with
  | some f =>
    have hfb : findB fs x = some ⟨f.1, 0, none⟩ := by simp [findB, hf]
    rw [hfb] at H
    obtain ⟨_, _, _, _, a1, l1, c1, hb, _⟩ := HS.out.fld f (findF_mem hf).1
    have HR := toHid hb
    clear hb
    go_enter Tryz.func198, Tryz.ntmps198
    go_wp2_with (first | (go_at_call 137; refine (H.out _ ((Below.refl _ _).alloc (Nat.le_refl _) _)).mono ?_; rintro r w1 ⟨rfl, rfl⟩; refine Hid.out ?_))
    obtain ⟨⟨k0, k1, k2, k3, k4, k5, k6⟩, hfz, hsz⟩ := row7 ((Below.heap_alloc w (.cells #[.int .i64 0, .int .i64 0] 177) _ (HS.out.fld f (findF_mem hf).1).lt).trans HR.out)
    have hne : f.1 ≠ w.heap.size := by have := (HS.out.fld f (findF_mem hf).1).lt; omega
    have hne' : w.heap.size ≠ f.1 := fun h => hne h.symm
    generalize f.2.v = vv at *
    generalize f.1 = q at *
    clear hfz H hf hfb
    refine toHid ?_
    go_wp2
    refine bodyPost_ret (v := .agg #[.int .i64 vv.1, .int .i64 vv.2]) (by simp [results, Tryz.results198, go_sem]) rfl ?_
    exact ⟨rfl, (Below.refl _ _).alloc (Nat.le_refl _) _⟩
  | none =>
    have hfb : findB fs x = none := by simp [findB, hf]
    rw [hfb] at H
    go_enter Tryz.func198, Tryz.ntmps198
    go_wp2_with (first | (go_at_call 137; refine (H.out _ ((Below.refl _ _).alloc (Nat.le_refl _) _)).mono ?_; rintro r w1 ⟨rfl, rfl⟩))
    refine bodyPost_ret (v := .agg #[.int .i64 3, .int .i64 3]) (by simp [results, Tryz.results198, go_sem]) rfl ?_
    exact ⟨rfl, (Below.refl _ _).alloc (Nat.le_refl _) _⟩
end Go.Proofs.YtihgojcfpnhelaaGreatDoor
