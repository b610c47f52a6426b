import Derived.Test.YtihgojcfpnhelaaGreatDoorHj
import Derived.Test.YtihgojcfpnhelaaGreatDoorBo
import Derived.Test.YtihgojcfpnhelaaGreatDoorHh
import Derived.Test.YtihgojcfpnhelaaGreatDoorRb
set_option linter.unusedVariables false
set_option linter.unusedSimpArgs false
namespace Go.Proofs.YtihgojcfpnhelaaGreatDoor
open Go.RowKit

variable {S S' S1 O : Nat → Prop} {e : Nat} {D D' : Nat → Prop} {σ σ0 σ1 : Sta} {v0 v1 v2 v3 v4 v5 v v' : Value} {te : TypeId} {w w' W w1 w2 w3 : World} {bs : List (List Wr)} {N : Nat → Nat} {cs : Nat → Array Value} {M : Nat} {dv uv gv : Value} {dn ud gr : List (List Wr)} {op : Bool} {N1 : Nat} {cs1 : Array Value} {us : List Wr}

set_option maxRecDepth 100000 in
set_option maxHeartbeats 4000000 in
/-- 'turn' where a group is open. -/
theorem turnOpen (of : Nat) (af : Option Addr) (lf cf : Nat) (to_ : Value) (h4 : w.cell? ⟨e, 4, none⟩ = some (.bool true)) (hf : w.cell? ⟨e, of, none⟩ = some (.slice af lf cf)) :
    Calls Tryz.prog 101 #[.pointer (some ⟨e, 1, none⟩), .pointer (some ⟨e, of, none⟩), to_] w fun r w' => r = .returned (.int .i64 9) ∧ w' = w := by
  go_enter Tryz.func101, Tryz.ntmps101
  go_wp2
  refine bodyPost_ret (v := .int .i64 9) (by simp [results, Tryz.results101, go_sem]) (by simp [go_sem]) ?_
  exact ⟨rfl, rfl⟩

set_option maxRecDepth 100000 in
set_option maxHeartbeats 4000000 in
/-- 'turn' of nothing. -/
theorem turnNone (of : Nat) (af : Option Addr) (cf : Nat) (to_ : Value) (h4 : w.cell? ⟨e, 4, none⟩ = some (.bool false)) (hf : w.cell? ⟨e, of, none⟩ = some (.slice af 0 cf)) :
    Calls Tryz.prog 101 #[.pointer (some ⟨e, 1, none⟩), .pointer (some ⟨e, of, none⟩), to_] w fun r w' => r = .returned (.int .i64 11) ∧ w' = w := by
  go_enter Tryz.func101, Tryz.ntmps101
  go_wp2
  refine bodyPost_ret (v := .int .i64 11) (by simp [results, Tryz.results101, go_sem]) (by simp [go_sem]) ?_
  exact ⟨rfl, rfl⟩

set_option maxRecDepth 100000 in
set_option maxHeartbeats 4000000 in
theorem undoWalk (er : Int) (Q : World → Prop) (h : Calls Tryz.prog 101 #[.pointer (some ⟨e, 1, none⟩), .pointer (some ⟨e, 2, none⟩), .pointer (some ⟨e, 3, none⟩)] w.drew fun r w' => r = .returned (.int .i64 er) ∧ Q w') :
    Calls Tryz.prog 68 #[.pointer (some ⟨e, 1, none⟩)] w fun r w' => r = .returned (.int .i64 er) ∧ Q w' := by
  have H := toHid h
  clear h
  go_enter Tryz.func68, Tryz.ntmps68
  go_wp2_with fail
  go_region_with (first | (go_at_call 101; refine H.out.mono ?_; rintro r w1 ⟨rfl, hq⟩; have HQ := toHid hq; clear hq))
  all_goals go_wp2
  all_goals refine bodyPost_ret (v := .int .i64 er) (by simp [results, Tryz.results68, go_sem]) (by simp [go_sem]) ?_
  all_goals exact ⟨rfl, HQ.out⟩

set_option maxRecDepth 100000 in
set_option maxHeartbeats 4000000 in
theorem redoWalk (er : Int) (Q : World → Prop) (h : Calls Tryz.prog 101 #[.pointer (some ⟨e, 1, none⟩), .pointer (some ⟨e, 3, none⟩), .pointer (some ⟨e, 2, none⟩)] w.drew fun r w' => r = .returned (.int .i64 er) ∧ Q w') :
    Calls Tryz.prog 69 #[.pointer (some ⟨e, 1, none⟩)] w fun r w' => r = .returned (.int .i64 er) ∧ Q w' := by
  have H := toHid h
  clear h
  go_enter Tryz.func69, Tryz.ntmps69
  go_wp2_with fail
  go_region_with (first | (go_at_call 101; refine H.out.mono ?_; rintro r w1 ⟨rfl, hq⟩; have HQ := toHid hq; clear hq))
  all_goals go_wp2
  all_goals refine bodyPost_ret (v := .int .i64 er) (by simp [results, Tryz.results69, go_sem]) (by simp [go_sem]) ?_
  all_goals exact ⟨rfl, HQ.out⟩

/-- What 'undo' makes of an editor's state. -/
structure HSt where
  σ : Sta
  dn : List (List Wr)
  ud : List (List Wr)
  gr : List (List Wr)
  op : Bool

def undoH (s : HSt) : Nat × HSt := if s.op = true then (9, s) else match s.dn.getLast? with
  | none => (11, s)
  | some us => (0, ⟨runW us s.σ, s.dn.dropLast, s.ud ++ [invW us s.σ], s.gr, false⟩)
def redoH (s : HSt) : Nat × HSt := if s.op = true then (9, s) else match s.ud.getLast? with
  | none => (11, s)
  | some us => (0, ⟨runW us s.σ, s.dn ++ [invW us s.σ], s.ud.dropLast, s.gr, false⟩)

theorem EdTo.undrew {F Wt : Nat → Prop} {σ' : Sta} {dn' ud' gr' : List (List Wr)} {op' : Bool} (h : EdTo e F Wt σ' M dn' ud' gr' op' w.drew w') : EdTo e F Wt σ' M dn' ud' gr' op' w w' :=
  h.trans (fun _ h => Or.inl h) (fun _ h => Or.inl h) (Ks.of (Below.refl _ _).drew)

/-- 'Undo', by what it must answer. -/
theorem undoS (h : EdX w e S D σ M dv uv gv dn ud gr op) :
    Calls Tryz.prog 68 #[.pointer (some ⟨e, 1, none⟩)] w fun r w' => r = .returned (.int .i64 ((undoH ⟨σ, dn, ud, gr, op⟩).1 : Int)) ∧ EdTo e (Ft S e D dv uv gv) (EdW e D dv uv gv) (undoH ⟨σ, dn, ud, gr, op⟩).2.σ M (undoH ⟨σ, dn, ud, gr, op⟩).2.dn (undoH ⟨σ, dn, ud, gr, op⟩).2.ud (undoH ⟨σ, dn, ud, gr, op⟩).2.gr (undoH ⟨σ, dn, ud, gr, op⟩).2.op w w' := by
  replace h := h.next (Below.refl _ _).drew
  obtain ⟨a, c, r1, r2, r3, he⟩ := h.ph.row
  obtain ⟨⟨e0, e1, e2, e3, e4, e5⟩, _, _⟩ := row6 he
  obtain ⟨Nf, csf, hf⟩ := h.rd
  obtain ⟨Nt, cst, ht⟩ := h.ru
  obtain ⟨af, cf, rfl⟩ := own_len hf.own
  obtain ⟨at_, ct, rfl⟩ := own_len ht.own
  unfold undoH
  cases op with
  | true =>
    simp only [if_true]
    refine undoWalk 9 _ ((turnOpen 2 af _ cf _ e4 e2).mono ?_)
    rintro r w' ⟨rfl, rfl⟩
    exact ⟨rfl, (h.self (Below.refl _ _)).undrew⟩
  | false =>
    simp only [Bool.false_eq_true, if_false]
    cases hl : dn.getLast? with
    | none =>
      have hd : dn = [] := List.getLast?_eq_none_iff.1 hl
      subst hd
      refine undoWalk 11 _ ((turnNone 2 af cf _ e4 e2).mono ?_)
      rintro r w' ⟨rfl, rfl⟩
      exact ⟨rfl, (h.self (Below.refl _ _)).undrew⟩
    | some us =>
      obtain ⟨l, rfl⟩ := List.getLast?_eq_some_iff.1 hl
      obtain ⟨gf, cap, e', _, _⟩ := hf.own.form (by simp)
      cases e'
      have := turnUndoW (us := us) l ud gf cf ct at_ (by simpa using h)
      simp only [List.dropLast_concat, List.length_append, List.length_singleton]
      exact undoWalk 0 _ (this.mono fun r w' h => ⟨h.1, h.2.undrew⟩)

/-- 'Redo', by what it must answer. -/
theorem redoS (h : EdX w e S D σ M dv uv gv dn ud gr op) :
    Calls Tryz.prog 69 #[.pointer (some ⟨e, 1, none⟩)] w fun r w' => r = .returned (.int .i64 ((redoH ⟨σ, dn, ud, gr, op⟩).1 : Int)) ∧ EdTo e (Ft S e D dv uv gv) (EdW e D dv uv gv) (redoH ⟨σ, dn, ud, gr, op⟩).2.σ M (redoH ⟨σ, dn, ud, gr, op⟩).2.dn (redoH ⟨σ, dn, ud, gr, op⟩).2.ud (redoH ⟨σ, dn, ud, gr, op⟩).2.gr (redoH ⟨σ, dn, ud, gr, op⟩).2.op w w' := by
  replace h := h.next (Below.refl _ _).drew
  obtain ⟨a, c, r1, r2, r3, he⟩ := h.ph.row
  obtain ⟨⟨e0, e1, e2, e3, e4, e5⟩, _, _⟩ := row6 he
  obtain ⟨Nf, csf, hf⟩ := h.ru
  obtain ⟨Nt, cst, ht⟩ := h.rd
  obtain ⟨af, cf, rfl⟩ := own_len hf.own
  obtain ⟨at_, ct, rfl⟩ := own_len ht.own
  unfold redoH
  cases op with
  | true =>
    simp only [if_true]
    refine redoWalk 9 _ ((turnOpen 3 af _ cf _ e4 e3).mono ?_)
    rintro r w' ⟨rfl, rfl⟩
    exact ⟨rfl, (h.self (Below.refl _ _)).undrew⟩
  | false =>
    simp only [Bool.false_eq_true, if_false]
    cases hl : ud.getLast? with
    | none =>
      have hd : ud = [] := List.getLast?_eq_none_iff.1 hl
      subst hd
      refine redoWalk 11 _ ((turnNone 3 af cf _ e4 e3).mono ?_)
      rintro r w' ⟨rfl, rfl⟩
      exact ⟨rfl, (h.self (Below.refl _ _)).undrew⟩
    | some us =>
      obtain ⟨l, rfl⟩ := List.getLast?_eq_some_iff.1 hl
      obtain ⟨gf, cap, e', _, _⟩ := hf.own.form (by simp)
      cases e'
      have := turnRedoW (us := us) l dn gf cf ct at_ (by simpa using h)
      simp only [List.dropLast_concat, List.length_append, List.length_singleton]
      exact redoWalk 0 _ (this.mono fun r w' h => ⟨h.1, h.2.undrew⟩)
end Go.Proofs.YtihgojcfpnhelaaGreatDoor
namespace Go.Proofs.YtihgojcfpnhelaaGreatDoor
open Go.RowKit

/-- An editor as the document has it: the fields, what can be taken back, what can be done again, and what was when a group began. -/
structure Ab where
  M : Nat
  fs : List Fd
  past : List (List Fd)
  fut : List (List Fd)
  grp : Option (List Fd)

def Agree (D : Nat → Prop) (σ τ : Sta) : Prop := σ.ord = τ.ord ∧ ∀ q, D q → σ.mem q = τ.mem q
def WrIn (D : Nat → Prop) : Wr → Prop
  | .ord l => ∀ b, b ∈ l → D b
  | .nm b _ => D b
  | .rl b _ => D b
  | .vl b _ => D b

theorem BkAt.wrin {e : Nat} {D : Nat → Prop} {w : World} {S : Nat → Prop} {N : Nat} {cs : Array Value} {us : List Wr} (h : BkAt e D w S N cs us) : ∀ u, u ∈ us → WrIn D u := by
  induction h with
  | ord g1 g2 a c l h1 h2 h3 h4 h5 h6 h7 h8 => intro u hu; rw [List.mem_singleton.1 hu]; exact h8
  | nm g1 g2 b x h1 h2 h3 h4 h5 => intro u hu; rw [List.mem_singleton.1 hu]; exact h5
  | rl g1 g2 b p a l c h1 h2 h3 h4 h5 h6 h7 h8 h9 => intro u hu; rw [List.mem_singleton.1 hu]; exact h9
  | vl g1 g2 b v h1 h2 h3 h4 h5 => intro u hu; rw [List.mem_singleton.1 hu]; exact h5
  | all g a n c N cs us h1 h2 h3 h4 h5 h6 _ ih =>
    intro u hu
    obtain ⟨i, hi, hu'⟩ := List.mem_flatMap.1 hu
    exact ih i (List.mem_range.1 (List.mem_reverse.1 hi)) u hu'

theorem WrIn.wide {D D' : Nat → Prop} (hD : ∀ q, D q → D' q) : ∀ {u : Wr}, WrIn D u → WrIn D' u
  | .ord _, h => fun b hb => hD b (h b hb)
  | .nm _ _, h => hD _ h
  | .rl _ _, h => hD _ h
  | .vl _ _, h => hD _ h

theorem put_agree {D : Nat → Prop} {σ τ : Sta} (h : Agree D σ τ) (b : Nat) (f g : Fd) (hfg : f = g) : Agree D (σ.put b f) (τ.put b g) := by
  subst hfg
  refine ⟨h.1, fun q hq => ?_⟩
  by_cases e : q = b
  · subst e; rw [put_mem, put_mem]
  · rw [put_mem_ne _ _ _ _ e, put_mem_ne _ _ _ _ e]; exact h.2 q hq

theorem wr1_agree {D : Nat → Prop} {σ τ : Sta} (h : Agree D σ τ) (u : Wr) (hu : WrIn D u) : Agree D (wr1 σ u) (wr1 τ u) := by
  cases u with
  | ord l => exact ⟨rfl, h.2⟩
  | nm b x => exact put_agree h b _ _ (by rw [h.2 b hu])
  | rl b x => exact put_agree h b _ _ (by rw [h.2 b hu])
  | vl b x => exact put_agree h b _ _ (by rw [h.2 b hu])

theorem runW_agree {D : Nat → Prop} : ∀ (us : List Wr) {σ τ : Sta}, Agree D σ τ → (∀ u, u ∈ us → WrIn D u) → Agree D (runW us σ) (runW us τ)
  | [], _, _, h, _ => h
  | u :: r, _, _, h, hu => runW_agree r (wr1_agree h u (hu u (by simp))) fun v hv => hu v (by simp [hv])

theorem Agree.fs {D : Nat → Prop} {σ τ : Sta} (h : Agree D σ τ) (hs : ∀ b, b ∈ σ.ord → D b) : σ.fs = τ.fs := by
  unfold Sta.fs
  rw [← h.1]
  exact List.map_congr_left fun q hq => by rw [h.2 q (hs q hq)]

/-- A sheet is as it must be. -/
structure GSt (D : Nat → Prop) (σ : Sta) : Prop where
  nd : σ.ord.Nodup
  sub : ∀ b, b ∈ σ.ord → D b
  gf : GF (σ.fs.map Prod.snd)
  len : σ.ord.length ≤ 10
  nmo : ∀ f, f ∈ σ.fs.map Prod.snd → f.nm ≠ [] ∧ f.nm.length ≤ 6

theorem GSt.agree {D D' : Nat → Prop} {σ τ : Sta} (h : GSt D σ) (ha : Agree D σ τ) (hD : ∀ q, D q → D' q) : GSt D' τ := by
  have hf := ha.fs h.sub
  exact ⟨ha.1 ▸ h.nd, fun b hb => hD b (h.sub b (ha.1.symm ▸ hb)), hf ▸ h.gf, ha.1 ▸ h.len, hf ▸ h.nmo⟩

/-- What is kept leads from state to state. -/
def ChA (D : Nat → Prop) : Sta → List (List Wr) → List (List Fd) → Prop
  | _, [], [] => True
  | σ, us :: r, o :: p => (∀ u, u ∈ us → WrIn D u) ∧ (runW us σ).fs.map Prod.snd = o ∧ GSt D (runW us σ) ∧ ChA D (runW us σ) r p
  | _, _, _ => False

theorem ChA.agree {D D' : Nat → Prop} (hD : ∀ q, D q → D' q) : ∀ {l : List (List Wr)} {p : List (List Fd)} {σ τ : Sta}, ChA D σ l p → Agree D σ τ → ChA D' τ l p
  | [], [], _, _, _, _ => trivial
  | us :: r, o :: p, σ, τ, h, ha => by
    obtain ⟨h1, h2, h3, h4⟩ := h
    have ha' := runW_agree us ha h1
    exact ⟨fun u hu => (h1 u hu).wide hD, by rw [← ha'.fs h3.sub]; exact h2, h3.agree ha' hD, h4.agree hD ha'⟩
  | [], _ :: _, _, _, h, _ => h.elim
  | _ :: _, [], _, _, h, _ => h.elim

theorem ChA.take {D : Nat → Prop} : ∀ (n : Nat) {l : List (List Wr)} {p : List (List Fd)} {σ : Sta}, ChA D σ l p → ChA D σ (l.take n) (p.take n)
  | 0, _, _, _, _ => trivial
  | n + 1, [], [], _, _ => trivial
  | n + 1, us :: r, o :: p, σ, h => ⟨h.1, h.2.1, h.2.2.1, h.2.2.2.take n⟩
  | _ + 1, [], _ :: _, _, h => h.elim
  | _ + 1, _ :: _, [], _, h => h.elim

/-- What lies in memory is that editor. -/
structure Rep (a : Ab) (D : Nat → Prop) (σ : Sta) (dn ud gr : List (List Wr)) : Prop where
  gs : GSt D σ
  fs : a.fs = σ.fs.map Prod.snd
  gw : ∀ u, u ∈ gall gr → WrIn D u
  ok : match a.grp with
    | none => gr = [] ∧ ChA D σ dn.reverse a.past ∧ ChA D σ ud.reverse a.fut
    | some g => GSt D (runW (gall gr) σ) ∧ g = (runW (gall gr) σ).fs.map Prod.snd ∧ ChA D (runW (gall gr) σ) dn.reverse a.past ∧ ChA D (runW (gall gr) σ) ud.reverse a.fut

theorem keepL_rev (M : Nat) (dn : List (List Wr)) (us : List Wr) (h : dn.length ≤ M) : (keepL M dn us).reverse = (us :: dn.reverse).take M := by
  unfold keepL
  split
  · rename_i h1
    have hM : dn.length = M := by omega
    cases dn with
    | nil =>
      simp at hM
      subst hM
      rfl
    | cons d r =>
      simp only [List.cons_append, List.eraseIdx_cons_zero, List.reverse_append, List.reverse_cons, List.reverse_nil, List.nil_append]
      rw [← hM]
      simp
  · rename_i h1
    rw [List.take_of_length_le (by simp; omega)]
    simp

/-- An edit, done: the new sheet, and what takes it back. -/
theorem Rep.edited {a : Ab} {D D' : Nat → Prop} {σ σ1 : Sta} {dn ud gr : List (List Wr)} {ws : List Wr} (h : Rep a D σ dn ud gr) (hD : ∀ q, D q → D' q) (ha : Agree D σ σ1) (hg : GSt D' (runW ws σ1)) (hw : ∀ u, u ∈ invW ws σ1 → WrIn D' u) (hl : dn.length ≤ a.M) :
    (a.grp = none → Rep ⟨a.M, (runW ws σ1).fs.map Prod.snd, (a.fs :: a.past).take a.M, [], none⟩ D' (runW ws σ1) (keepL a.M dn (invW ws σ1)) [] gr) ∧ (∀ g, a.grp = some g → Rep ⟨a.M, (runW ws σ1).fs.map Prod.snd, a.past, a.fut, some g⟩ D' (runW ws σ1) dn ud (gr ++ [invW ws σ1])) := by
  have hok := h.ok
  have hf := ha.fs h.gs.sub
  have hs1 : GSt D' σ1 := h.gs.agree ha hD
  refine ⟨fun hn => ?_, fun g hs => ?_⟩
  · rw [hn] at hok
    obtain ⟨h1, h2, h3⟩ := hok
    refine ⟨hg, rfl, by rw [h1]; simp [gall], h1, ?_, trivial⟩
    rw [keepL_rev a.M dn _ hl]
    refine ChA.take a.M ⟨hw, ?_, ?_, ?_⟩
    · rw [run_inv, ← hf, h.fs]
    · rw [run_inv]; exact hs1
    · rw [run_inv]; exact h2.agree hD ha
  · rw [hs] at hok
    obtain ⟨h1, h2, h3, h4⟩ := hok
    have e1 : gall (gr ++ [invW ws σ1]) = invW ws σ1 ++ gall gr := by simp [gall]
    have e2 : runW (gall (gr ++ [invW ws σ1])) (runW ws σ1) = runW (gall gr) σ1 := by rw [e1, runW_app, run_inv]
    have hag : Agree D (runW (gall gr) σ) (runW (gall gr) σ1) := runW_agree _ ha h.gw
    refine ⟨hg, rfl, fun u hu => ?_, ?_, ?_, ?_, ?_⟩
    · rw [e1] at hu
      rcases List.mem_append.1 hu with h5 | h5
      · exact hw u h5
      · exact (h.gw u h5).wide hD
    · rw [e2]; exact h1.agree hag hD
    · rw [e2, ← hag.fs h1.sub]; exact h2
    · rw [e2]; exact h3.agree hD hag
    · rw [e2]; exact h4.agree hD hag

/-- What 'undo' makes of an editor. -/
def undoA (a : Ab) : Nat × Ab := match a.grp with
  | some _ => (9, a)
  | none => match a.past with
    | [] => (11, a)
    | o :: p => (0, ⟨a.M, o, p, a.fs :: a.fut, none⟩)
def redoA (a : Ab) : Nat × Ab := match a.grp with
  | some _ => (9, a)
  | none => match a.fut with
    | [] => (11, a)
    | o :: p => (0, ⟨a.M, o, a.fs :: a.past, p, none⟩)

theorem invW_wrin {D : Nat → Prop} : ∀ (us : List Wr) (σ : Sta), (∀ u, u ∈ us → WrIn D u) → (∀ b, b ∈ σ.ord → D b) → ∀ u, u ∈ invW us σ → WrIn D u
  | [], _, _, _, u, hu => by simp [invW] at hu
  | v :: r, σ, hv, hs, u, hu => by
    simp only [invW] at hu
    have hv1 := hv v (by simp)
    rcases List.mem_append.1 hu with h | h
    · refine invW_wrin r (wr1 σ v) (fun x hx => hv x (by simp [hx])) ?_ u h
      cases v with
      | ord l => exact hv1
      | nm b x => exact hs
      | rl b x => exact hs
      | vl b x => exact hs
    · rw [List.mem_singleton.1 h]
      cases v with
      | ord l => exact hs
      | nm b x => exact hv1
      | rl b x => exact hv1
      | vl b x => exact hv1

theorem Rep.undo {a : Ab} {D : Nat → Prop} {σ : Sta} {dn ud gr : List (List Wr)} (h : Rep a D σ dn ud gr) : (undoH ⟨σ, dn, ud, gr, a.grp.isSome⟩).1 = (undoA a).1 ∧ (undoA a).2.M = a.M ∧ (undoA a).2.grp = a.grp ∧ (undoH ⟨σ, dn, ud, gr, a.grp.isSome⟩).2.op = (undoA a).2.grp.isSome ∧ Rep (undoA a).2 D (undoH ⟨σ, dn, ud, gr, a.grp.isSome⟩).2.σ (undoH ⟨σ, dn, ud, gr, a.grp.isSome⟩).2.dn (undoH ⟨σ, dn, ud, gr, a.grp.isSome⟩).2.ud (undoH ⟨σ, dn, ud, gr, a.grp.isSome⟩).2.gr := by
  unfold undoH undoA
  cases hg : a.grp with
  | some g => simp [hg]; exact h
  | none =>
    have hok := h.ok
    rw [hg] at hok
    obtain ⟨h1, h2, h3⟩ := hok
    simp only [Option.isSome_none, Bool.false_eq_true, if_false]
    cases hl : dn.getLast? with
    | none =>
      have hd : dn = [] := List.getLast?_eq_none_iff.1 hl
      subst hd
      cases hp : a.past with
      | nil => simp [hg]; exact h
      | cons o p => rw [hp] at h2; exact h2.elim
    | some us =>
      obtain ⟨l, rfl⟩ := List.getLast?_eq_some_iff.1 hl
      rw [List.reverse_append] at h2
      cases hp : a.past with
      | nil => rw [hp] at h2; exact h2.elim
      | cons o p =>
        rw [hp] at h2
        obtain ⟨k1, k2, k3, k4⟩ := h2
        refine ⟨rfl, rfl, rfl, rfl, k3, k2.symm, by rw [h1]; simp [gall], h1, ?_, ?_⟩
        · simp only [List.dropLast_concat]
          exact k4
        · simp only [List.reverse_append, List.reverse_cons, List.reverse_nil, List.nil_append, List.singleton_append]
          refine ⟨invW_wrin us σ k1 h.gs.sub, ?_, ?_, ?_⟩
          · rw [run_inv, h.fs]
          · rw [run_inv]; exact h.gs
          · rw [run_inv]; exact h3

theorem Rep.redo {a : Ab} {D : Nat → Prop} {σ : Sta} {dn ud gr : List (List Wr)} (h : Rep a D σ dn ud gr) : (redoH ⟨σ, dn, ud, gr, a.grp.isSome⟩).1 = (redoA a).1 ∧ (redoA a).2.M = a.M ∧ (redoA a).2.grp = a.grp ∧ (redoH ⟨σ, dn, ud, gr, a.grp.isSome⟩).2.op = (redoA a).2.grp.isSome ∧ Rep (redoA a).2 D (redoH ⟨σ, dn, ud, gr, a.grp.isSome⟩).2.σ (redoH ⟨σ, dn, ud, gr, a.grp.isSome⟩).2.dn (redoH ⟨σ, dn, ud, gr, a.grp.isSome⟩).2.ud (redoH ⟨σ, dn, ud, gr, a.grp.isSome⟩).2.gr := by
  unfold redoH redoA
  cases hg : a.grp with
  | some g => simp [hg]; exact h
  | none =>
    have hok := h.ok
    rw [hg] at hok
    obtain ⟨h1, h3, h2⟩ := hok
    simp only [Option.isSome_none, Bool.false_eq_true, if_false]
    cases hl : ud.getLast? with
    | none =>
      have hd : ud = [] := List.getLast?_eq_none_iff.1 hl
      subst hd
      cases hp : a.fut with
      | nil => simp [hg]; exact h
      | cons o p => rw [hp] at h2; exact h2.elim
    | some us =>
      obtain ⟨l, rfl⟩ := List.getLast?_eq_some_iff.1 hl
      rw [List.reverse_append] at h2
      cases hp : a.fut with
      | nil => rw [hp] at h2; exact h2.elim
      | cons o p =>
        rw [hp] at h2
        obtain ⟨k1, k2, k3, k4⟩ := h2
        refine ⟨rfl, rfl, rfl, rfl, k3, k2.symm, by rw [h1]; simp [gall], h1, ?_, ?_⟩
        · simp only [List.reverse_append, List.reverse_cons, List.reverse_nil, List.nil_append, List.singleton_append]
          refine ⟨invW_wrin us σ k1 h.gs.sub, ?_, ?_, ?_⟩
          · rw [run_inv, h.fs]
          · rw [run_inv]; exact h.gs
          · rw [run_inv]; exact h3
        · simp only [List.dropLast_concat]
          exact k4

theorem Rep.begin {a : Ab} {D : Nat → Prop} {σ : Sta} {dn ud gr : List (List Wr)} (h : Rep a D σ dn ud gr) (hg : a.grp = none) : Rep ⟨a.M, a.fs, a.past, a.fut, some a.fs⟩ D σ dn ud gr := by
  have hok := h.ok
  rw [hg] at hok
  obtain ⟨h1, h2, h3⟩ := hok
  subst h1
  exact ⟨h.gs, h.fs, h.gw, h.gs, h.fs, h2, h3⟩

theorem Rep.commit {a : Ab} {D : Nat → Prop} {σ : Sta} {dn ud gr : List (List Wr)} {g : List Fd} (h : Rep a D σ dn ud gr) (hg : a.grp = some g) (hl : dn.length ≤ a.M) : Rep ⟨a.M, a.fs, (g :: a.past).take a.M, [], none⟩ D σ (keepL a.M dn (gall gr)) [] [] := by
  have hok := h.ok
  rw [hg] at hok
  obtain ⟨h1, h2, h3, h4⟩ := hok
  refine ⟨h.gs, h.fs, by simp [gall], rfl, ?_, trivial⟩
  rw [keepL_rev a.M dn _ hl]
  exact ChA.take a.M ⟨h.gw, h2.symm, h1, h3⟩

theorem Rep.cancel {a : Ab} {D : Nat → Prop} {σ : Sta} {dn ud gr : List (List Wr)} {g : List Fd} (h : Rep a D σ dn ud gr) (hg : a.grp = some g) : Rep ⟨a.M, g, a.past, a.fut, none⟩ D (runW (gall gr) σ) dn ud [] := by
  have hok := h.ok
  rw [hg] at hok
  obtain ⟨h1, h2, h3, h4⟩ := hok
  exact ⟨h1, h2, by simp [gall], rfl, h3, h4⟩
end Go.Proofs.YtihgojcfpnhelaaGreatDoor
namespace Go.Proofs.YtihgojcfpnhelaaGreatDoor
open Go.RowKit

theorem runW_sub {D : Nat → Prop} : ∀ (us : List Wr) {σ : Sta}, (∀ b, b ∈ σ.ord → D b) → (∀ u, u ∈ us → WrIn D u) → ∀ b, b ∈ (runW us σ).ord → D b
  | [], _, h, _ => h
  | u :: r, σ, h, hu => runW_sub r (σ := wr1 σ u) (by
      have h1 := hu u (by simp)
      cases u with
      | ord l => exact h1
      | nm b x => exact h
      | rl b x => exact h
      | vl b x => exact h) fun v hv => hu v (by simp [hv])

theorem GSt.other {D D' : Nat → Prop} {σ : Sta} (h : GSt D σ) (hs : ∀ b, b ∈ σ.ord → D' b) : GSt D' σ := ⟨h.nd, hs, h.gf, h.len, h.nmo⟩

theorem ChA.other {D D' : Nat → Prop} : ∀ {l : List (List Wr)} {p : List (List Fd)} {σ : Sta}, ChA D σ l p → (∀ b, b ∈ σ.ord → D' b) → (∀ us, us ∈ l → ∀ u, u ∈ us → WrIn D' u) → ChA D' σ l p
  | [], [], _, _, _, _ => trivial
  | us :: r, o :: p, σ, h, hs, hw => by
    obtain ⟨h1, h2, h3, h4⟩ := h
    have hs' := runW_sub us hs (hw us (by simp))
    exact ⟨hw us (by simp), h2, h3.other hs', h4.other hs' fun vs hv => hw vs (by simp [hv])⟩
  | [], _ :: _, _, h, _, _ => h.elim
  | _ :: _, [], _, h, _, _ => h.elim

theorem gall_mem {gr : List (List Wr)} {u : Wr} (h : u ∈ gall gr) : ∃ us, us ∈ gr ∧ u ∈ us := by
  unfold gall at h
  obtain ⟨us, h1, h2⟩ := List.mem_flatten.1 h
  exact ⟨us, List.mem_reverse.1 h1, h2⟩

theorem Rep.other {a : Ab} {D D' : Nat → Prop} {σ : Sta} {dn ud gr : List (List Wr)} (h : Rep a D σ dn ud gr) (hs : ∀ b, b ∈ σ.ord → D' b) (hd : ∀ us, us ∈ dn → ∀ u, u ∈ us → WrIn D' u) (hu : ∀ us, us ∈ ud → ∀ u, u ∈ us → WrIn D' u) (hg : ∀ us, us ∈ gr → ∀ u, u ∈ us → WrIn D' u) : Rep a D' σ dn ud gr := by
  have hgw : ∀ u, u ∈ gall gr → WrIn D' u := fun u h1 => by
    obtain ⟨us, h2, h3⟩ := gall_mem h1
    exact hg us h2 u h3
  refine ⟨h.gs.other hs, h.fs, hgw, ?_⟩
  have hok := h.ok
  cases hc : a.grp with
  | none =>
    rw [hc] at hok
    obtain ⟨h1, h2, h3⟩ := hok
    exact ⟨h1, h2.other hs fun us h => hd us (List.mem_reverse.1 h), h3.other hs fun us h => hu us (List.mem_reverse.1 h)⟩
  | some g =>
    rw [hc] at hok
    obtain ⟨h1, h2, h3, h4⟩ := hok
    have hs' := runW_sub (gall gr) hs hgw
    exact ⟨h1.other hs', h2, h3.other hs' fun us h => hd us (List.mem_reverse.1 h), h4.other hs' fun us h => hu us (List.mem_reverse.1 h)⟩

variable {S S' S1 O : Nat → Prop} {e k : Nat} {D D' F F' P R T : Nat → Prop} {σ σ0 σ1 : Sta} {v0 v1 v2 v3 v4 v5 v v' : Value} {te : TypeId} {w w' W w1 w2 w3 : World} {bs : List (List Wr)} {N : Nat → Nat} {cs : Nat → Array Value} {M : Nat} {dv uv gv : Value} {dn ud gr : List (List Wr)} {op : Bool} {N1 : Nat} {cs1 : Array Value} {us : List Wr} {a : Ab}

theorem RowB.wrin (h : RowB w S e D v bs N cs) : ∀ us, us ∈ bs → ∀ u, u ∈ us → WrIn D u := fun us hus u hu => by
  obtain ⟨i, hi, rfl⟩ := List.getElem_of_mem hus
  have := (h.bk i hi).wrin u
  rw [List.getD_eq_getElem?_getD, List.getElem?_eq_getElem hi] at this
  exact this hu

/-- What stands for an editor, stands so in the blocks that it is laid in. -/
theorem EdX.rep (h : EdX w e S D σ M dv uv gv dn ud gr op) (hr : Rep a D' σ dn ud gr) : Rep a D σ dn ud gr := by
  obtain ⟨_, _, h1⟩ := h.rd
  obtain ⟨_, _, h2⟩ := h.ru
  obtain ⟨_, _, h3⟩ := h.rg
  exact hr.other h.ph.sub h1.wrin h2.wrin h3.wrin

/-- An editor in block e, within the blocks of F. -/
def EdA (w : World) (e : Nat) (F : Nat → Prop) (k : Nat) (a : Ab) : Prop :=
  ∃ S D σ dv uv gv dn ud gr, EdX w e S D σ a.M dv uv gv dn ud gr a.grp.isSome ∧ Rep a D σ dn ud gr ∧ gr.length ≤ k ∧ (∀ q, Ft S e D dv uv gv q → F q) ∧ ∀ q, F q → q < w.heap.size

theorem EdA.keep (h : EdA w e F k a) (hk : Ks P w w') (hP : ∀ q, F q → ¬ P q) : EdA w' e F k a := by
  obtain ⟨S, D, σ, dv, uv, gv, dn, ud, gr, h1, h2, h3, h4, h5⟩ := h
  exact ⟨S, D, σ, dv, uv, gv, dn, ud, gr, h1.keep hk (fun q hq => hP q (h4 q (Or.inl hq))) fun q hq => hP q (h4 q (Or.inr hq)), h2, h3, h4, fun q hq => Nat.lt_of_lt_of_le (h5 q hq) hk.size⟩

theorem EdA.next (h : EdA w e F k a) (hb : Below w.heap.size w w') : EdA w' e F k a := h.keep (P := fun _ => False) (Ks.of hb) fun _ _ h => h
theorem EdA.lt (h : EdA w e F k a) : ∀ q, F q → q < w.heap.size := by obtain ⟨S, D, σ, dv, uv, gv, dn, ud, gr, h1, h2, h3, h4, h5⟩ := h; exact h5
theorem EdA.more {k' : Nat} (h : EdA w e F k a) (hk : k ≤ k') : EdA w e F k' a := by
  obtain ⟨S, D, σ, dv, uv, gv, dn, ud, gr, h1, h2, h3, h4, h5⟩ := h
  exact ⟨S, D, σ, dv, uv, gv, dn, ud, gr, h1, h2, by omega, h4, h5⟩

/-- An editor that became another. -/
theorem EdTo.at {F1 W1 : Nat → Prop} {dn' ud' gr' : List (List Wr)} {op' : Bool} {σ' : Sta} (h : EdTo e F1 W1 σ' a.M dn' ud' gr' op' w w') (hop : op' = a.grp.isSome) (hr : Rep a D σ' dn' ud' gr') (hg : gr'.length ≤ k) : Ks W1 w w' ∧ ∃ F', EdA w' e F' k a ∧ ∀ q, F' q → F1 q ∨ w.heap.size ≤ q := by
  obtain ⟨S', D', dv', uv', gv', h1, h2, h3⟩ := h
  subst hop
  exact ⟨h3, Ft S' e D' dv' uv' gv', ⟨S', D', σ', dv', uv', gv', dn', ud', gr', h1, h1.rep hr, hg, fun _ h => h, h1.ftLt⟩, h2⟩

/-- What a line that edits leaves: the editor, within F and new blocks but none of T; and the names that it tells. -/
def Res (F T : Nat → Prop) (e k : Nat) (a : Ab) (nm : List By) (w : World) (bn : Option Addr) (ln cn : Nat) (w' : World) : Prop :=
  ln = nm.length ∧ Ks F w w' ∧ w'.ownsRow w.heap.size 9 1 (.slice bn ln cn) ln (strs nm) ∧ ∃ F', EdA w' e F' k a ∧ (∀ q, F' q → F q ∨ w.heap.size ≤ q) ∧ (∀ q, (Value.slice bn ln cn).ownBlock = some q → ¬ F' q ∧ ¬ T q) ∧ ∀ q, T q → ¬ F' q

variable {nm : List By} {bn : Option Addr} {ln cn : Nat}

theorem Res.set (h : Res F T e k a nm w bn ln cn w') {t : Nat} (ht : T t) (hw : w.heap.size ≤ t) (j : Nat) (u : Value) : Res F T e k a nm w bn ln cn (w'.setCell ⟨t, j, none⟩ u) := by
  obtain ⟨h1, h2, h3, F', h4, h5, h6, h7⟩ := h
  have hk : Ks (fun q => q = t) w' (w'.setCell ⟨t, j, none⟩ u) := (Ks.refl _ _).set t j u rfl
  refine ⟨h1, ⟨hk.os.trans h2.os, hk.tape.trans h2.tape, hk.output.trans h2.output, Nat.le_trans h2.size hk.size, fun q hq hn => (hk.block q (by have := h2.size; omega) (by omega)).trans (h2.block q hq hn)⟩, own_ke h3 hk fun q hq e' => (h6 q hq).2 (e' ▸ ht), F', h4.keep hk fun q hq e' => h7 t ht (e' ▸ hq), h5, h6, h7⟩

theorem Res.less {T' : Nat → Prop} (h : Res F T e k a nm w bn ln cn w') (hT : ∀ q, T' q → T q) : Res F T' e k a nm w bn ln cn w' := by
  obtain ⟨h1, h2, h3, F', h4, h5, h6, h7⟩ := h
  exact ⟨h1, h2, h3, F', h4, h5, fun q hq => ⟨(h6 q hq).1, fun ht => (h6 q hq).2 (hT q ht)⟩, fun q hq => h7 q (hT q hq)⟩

theorem Res.base (h : Res P T e k a nm w bn ln cn w') {w0 : World} (hb : Below w0.heap.size w0 w) (hF : ∀ q, P q → F q ∨ w0.heap.size ≤ q) : Res F T e k a nm w0 bn ln cn w' := by
  obtain ⟨h1, h2, h3, F', h4, h5, h6, h7⟩ := h
  refine ⟨h1, ⟨h2.os.trans hb.os, h2.tape.trans hb.tape, h2.output.trans hb.output, Nat.le_trans hb.size h2.size, fun q hq hn => (h2.block q (by have := hb.size; omega) fun hp => ?_).trans (hb.block q hq)⟩, own_base h3 hb.size, F', h4, fun q hq => ?_, h6, h7⟩
  · rcases hF q hp with h8 | h8
    · exact hn h8
    · omega
  · rcases h5 q hq with h8 | h8
    · exact hF q h8
    · exact Or.inr (Nat.le_trans hb.size h8)

/-- What is left of an editor where a line that edits has an error. -/
def failA (a : Ab) : Ab := match a.grp with
  | none => a
  | some g => ⟨a.M, g, a.past, a.fut, none⟩
def doneA (a : Ab) (fs : List Fd) : Ab := match a.grp with
  | none => ⟨a.M, fs, (a.fs :: a.past).take a.M, [], none⟩
  | some g => ⟨a.M, fs, a.past, a.fut, some g⟩
/-- What a line that edits makes of an editor. -/
def editA (a : Ab) : AR → Ab
  | .ok fs _ => doneA a fs
  | .err _ _ => failA a
def AR.code : AR → Nat
  | .ok _ _ => 0
  | .err c _ => c
def AR.names : AR → List By
  | .ok _ n => n
  | .err _ n => n
/-- The same, ahead of the group's end. -/
def midA (a : Ab) : AR → Ab
  | .ok fs _ => doneA a fs
  | .err _ _ => a

theorem EdA.cancel (h : EdA w e F k a) (hk : k < 1000000000000) : Calls Tryz.prog 49 #[.pointer (some ⟨e, 1, none⟩)] w fun r w' => (∃ x, r = .returned (.int .i64 x)) ∧ Ks F w w' ∧ ∃ F', EdA w' e F' k (failA a) ∧ ∀ q, F' q → F q ∨ w.heap.size ≤ q := by
  obtain ⟨S, D, σ, dv, uv, gv, dn, ud, gr, h1, h2, h3, h4, h5⟩ := h
  unfold failA
  cases hg : a.grp with
  | none =>
    rw [hg] at h1
    refine (cancelShut h1).mono ?_
    rintro r w' ⟨rfl, h6⟩
    obtain ⟨h7, F', h8, h9⟩ := h6.at (k := k) (by rw [hg]; rfl) h2 h3
    exact ⟨⟨_, rfl⟩, h7.wide fun q hq => h4 q (Or.inr hq), F', h8, fun q hq => (h9 q hq).imp_left (h4 q)⟩
  | some g =>
    rw [hg] at h1
    refine (cancelOpen h1 (by omega)).mono ?_
    rintro r w' ⟨rfl, h6⟩
    obtain ⟨h7, F', h8, h9⟩ := EdTo.at (a := ⟨a.M, g, a.past, a.fut, none⟩) (k := k) h6 rfl (h2.cancel hg) (by simp)
    exact ⟨⟨_, rfl⟩, h7.wide fun q hq => h4 q (Or.inr hq), F', h8, fun q hq => (h9 q hq).imp_left (h4 q)⟩

theorem Res.cancel {w0 : World} (h : Res F T e k a nm w0 bn ln cn w) (hk : k < 1000000000000) (hT : ∀ q, T q → q < w.heap.size) : Calls Tryz.prog 49 #[.pointer (some ⟨e, 1, none⟩)] w fun r w' => (∃ x, r = .returned (.int .i64 x)) ∧ (∀ q, T q → w'.heap[q]? = w.heap[q]?) ∧ Res F T e k (failA a) nm w0 bn ln cn w' := by
  obtain ⟨h1, h2, h3, F', h4, h5, h6, h7⟩ := h
  refine (h4.cancel hk).mono ?_
  rintro r w' ⟨h8, h9, F2, h10, h11⟩
  have hsz := h2.size
  refine ⟨h8, fun q hq => h9.block q (hT q hq) (h7 q hq), h1, ⟨h9.os.trans h2.os, h9.tape.trans h2.tape, h9.output.trans h2.output, Nat.le_trans h2.size h9.size, fun q hq hn => (h9.block q (by omega) fun hp => ?_).trans (h2.block q hq hn)⟩, own_ke h3 h9 fun q hq => (h6 q hq).1, F2, h10, fun q hq => ?_, fun q hq => ⟨fun h => ?_, (h6 q hq).2⟩, fun q hq h => ?_⟩
  · rcases h5 q hp with h12 | h12
    · exact hn h12
    · omega
  · rcases h11 q hq with h12 | h12
    · exact h5 q h12
    · exact Or.inr (by omega)
  · rcases h11 q h with h12 | h12
    · exact (h6 q hq).1 h12
    · have := (h3.lt q hq).2; omega
  · rcases h11 q h with h12 | h12
    · exact h7 q hq h12
    · have := hT q hq; omega
end Go.Proofs.YtihgojcfpnhelaaGreatDoor
namespace Go.Proofs.YtihgojcfpnhelaaGreatDoor
open Go.RowKit

set_option maxRecDepth 100000 in
set_option maxHeartbeats 1000000 in
theorem verbEdits (vb : Int) (w : World) : Calls Tryz.prog 48 #[.int .i64 vb] w fun r w' => r = .returned (.bool (vb == 1 || (vb == 2 || vb == 3))) ∧ w' = w := by
  by_cases h1 : vb = 1
  · subst h1
    go_enter Tryz.func48, Tryz.ntmps48
    go_wp2
    go_ret
    simp
  · have b1 : (vb == 1) = false := by simpa using h1
    by_cases h2 : vb = 2
    · subst h2
      go_enter Tryz.func48, Tryz.ntmps48
      go_wp2
      go_ret
      simp
    · have b2 : (vb == 2) = false := by simpa using h2
      go_enter Tryz.func48, Tryz.ntmps48
      go_wp2
      go_ret
      simp [b1, b2]

/-- A state that may be written beside. -/
structure Aside (Z : World → Prop) (q g : Nat) : Prop where
  a : ∀ W j u, Z W → Z (W.setCell ⟨q, j, none⟩ u)
  b : ∀ W j u, Z W → Z (W.setCell ⟨g, j, none⟩ u)

def edV (vb : Int) : Bool := vb == 1 || (vb == 2 || vb == 3)

/-- What ends a line: where it is an edit with an error the group is closed. -/
def DoEnd (e q g : Nat) (Z : World → Prop) (vb er : Int) (Q : World → Prop) : Prop :=
  (∀ W j u, Q W → Q (W.setCell ⟨q, j, none⟩ u)) ∧ if er ≠ 0 ∧ edV vb = true then ∀ W, Z W → Calls Tryz.prog 49 #[.pointer (some ⟨e, 1, none⟩)] W fun r w' => (∃ x, r = .returned (.int .i64 x)) ∧ w'.heap[q]? = W.heap[q]? ∧ w'.heap[g]? = W.heap[g]? ∧ Q w' else ∀ W, Z W → Q W

def FolAny (Q : Int → Int → By → Option Addr → Nat → Nat → Int → Int → World → Prop) (e q g vb_ : Nat) (lo : Obj) (vb : Int) (r : Ending) (w2 : World) : Prop :=
  ∃ er at_ tx bn ln cn kd nn Z, r = .returned (rpV er at_ tx bn ln cn kd nn) ∧ w2.heap[q]? = some zRep ∧ w2.heap[g]? = some zRep ∧ w2.heap[vb_]? = some lo ∧ Aside Z q g ∧ Z w2 ∧ DoEnd e q g Z vb er (Q er at_ tx bn ln cn kd nn)

def RdAny (Q : Int → Int → By → Option Addr → Nat → Nat → Int → Int → World → Prop) (e : Nat) (w : World) (r : Ending) (w1 : World) : Prop :=
  Below (w.heap.size + 1) (w.alloc zRep) w1 ∧ ∃ vb an ln cn k nm n ar lr cr, r = .returned (.tuple #[lineV vb an ln cn k nm n ar lr cr, .int .i64 0, .int .i64 0]) ∧
    Calls Tryz.prog 47 #[.pointer (some ⟨e, 0, none⟩), lineV vb an ln cn k nm n ar lr cr] ((w1.alloc (lineO vb an ln cn k nm n ar lr cr)).alloc zRep) (FolAny Q e w.heap.size (w1.heap.size + 1) w1.heap.size (lineO vb an ln cn k nm n ar lr cr) vb)

set_option maxRecDepth 100000 in
set_option maxHeartbeats 4000000 in
/-- 'Do' of a line that can be read. -/
theorem doFol (e : Nat) (s : By) (w : World) (Q : Int → Int → By → Option Addr → Nat → Nat → Int → Int → World → Prop)
    (hR : Calls Tryz.prog 46 #[.string ⟨s.toArray⟩] (w.alloc zRep) (RdAny Q e w)) :
    Calls Tryz.prog 20 #[.pointer (some ⟨e, 0, none⟩), .string ⟨s.toArray⟩] w fun r w' => ∃ er at_ tx bn ln cn kd nn, r = .returned (rpV er at_ tx bn ln cn kd nn) ∧ Q er at_ tx bn ln cn kd nn w' := by
  have HR := toHid hR
  clear hR
  unfold zRep at HR
  go_enter Tryz.func20, Tryz.ntmps20
  go_wp2_with (first | (go_at_call 46; refine HR.out.mono ?_; rintro r w1 ⟨hb1, vb, an, ln, cn, k, nm, n, ar, lr, cr, hr, hf⟩; unfold lineV at hr; subst hr; refine Hid.out ?_))
  have hs1 : w.heap.size < w1.heap.size := by have := hb1.size; simp at this; omega
  have HF := toHid hf
  unfold lineV zRep at HF
  have HF2 := toHid (show Calls Tryz.prog 47 #[.pointer (some ⟨e, 0, none⟩), .agg #[.int .i64 vb, .slice an ln cn, .int .i64 k, .string ⟨nm.toArray⟩, .int .i64 n, .slice ar lr cr]] ((w1.alloc (.cells #[.int .i64 vb, .slice an ln cn, .int .i64 k, .string ⟨nm.toArray⟩, .int .i64 n, .slice ar lr cr] 97 (0, 0))).alloc (.cells #[.int .i64 0, .int .i64 0, .string ⟨#[]⟩, .slice none 0 0, .int .i64 0, .int .i64 0] 39 (0, 0))) (FolAny Q e w.heap.size (w1.heap.size + 1) w1.heap.size (lineO vb an ln cn k nm n ar lr cr) vb) from HF.out)
  clear hb1 hf HR HF
  refine toHid ?_
  go_wp2_with (first | (go_at_call 47; refine HF2.out.mono ?_; rintro r w2 ⟨er, at_, tx, bn, ln', cn', kd, nn, Z, hr, h1, h2, h3, hA, hZ, hE⟩; unfold rpV at hr; subst hr; refine Hid.out ?_))
  obtain ⟨⟨k0, k1, k2, k3, k4, k5⟩, ⟨f0, f1, f2, f3, f4, f5⟩, hsz⟩ := row6 h1
  obtain ⟨⟨j0, j1, j2, j3, j4, j5⟩, ⟨g0, g1, g2, g3, g4, g5⟩, hsz2⟩ := row6 h2
  obtain ⟨⟨l0, l1, l2, l3, l4, l5⟩, ⟨m0, m1, m2, m3, m4, m5⟩, hsz3⟩ := row6 h3
  have hne : w.heap.size ≠ w1.heap.size + 1 := by omega
  have hne' : w1.heap.size + 1 ≠ w.heap.size := by omega
  have hne2 : w.heap.size ≠ w1.heap.size := by omega
  have hne2' : w1.heap.size ≠ w.heap.size := by omega
  have HA := toHid hA
  have HZ := toHid hZ
  have HEN := toHid hE
  have H1 := toHid h1
  have H2 := toHid h2
  clear h1 h2 h3 hA hZ hE HF2
  refine toHid ?_
  have HRW := toHid (show ∀ W : World, W.heap[w1.heap.size + 1]? = some zRep → ((((((W.setCell ⟨w1.heap.size + 1, 0, none⟩ (.int .i64 er)).setCell ⟨w1.heap.size + 1, 1, none⟩ (.int .i64 at_)).setCell ⟨w1.heap.size + 1, 2, none⟩ (.string ⟨tx.toArray⟩)).setCell ⟨w1.heap.size + 1, 3, none⟩ (.slice bn ln' cn')).setCell ⟨w1.heap.size + 1, 4, none⟩ (.int .i64 kd)).setCell ⟨w1.heap.size + 1, 5, none⟩ (.int .i64 nn)).heap[w1.heap.size + 1]? = some (.cells #[.int .i64 er, .int .i64 at_, .string ⟨tx.toArray⟩, .slice bn ln' cn', .int .i64 kd, .int .i64 nn] 39 (0, 0)) from fun W hW => (setCell_block (setCell_block (setCell_block (setCell_block (setCell_block (setCell_block hW 0 _) 1 _) 2 _) 3 _) 4 _) 5 _).trans rfl)
  have HRQ := toHid (show ∀ W : World, W.heap[w.heap.size]? = some zRep → ((((((W.setCell ⟨w1.heap.size + 1, 0, none⟩ (.int .i64 er)).setCell ⟨w1.heap.size + 1, 1, none⟩ (.int .i64 at_)).setCell ⟨w1.heap.size + 1, 2, none⟩ (.string ⟨tx.toArray⟩)).setCell ⟨w1.heap.size + 1, 3, none⟩ (.slice bn ln' cn')).setCell ⟨w1.heap.size + 1, 4, none⟩ (.int .i64 kd)).setCell ⟨w1.heap.size + 1, 5, none⟩ (.int .i64 nn)).heap[w.heap.size]? = some zRep from fun W hW => by
    rw [Below.heap_setCell _ _ _ _ hne, Below.heap_setCell _ _ _ _ hne, Below.heap_setCell _ _ _ _ hne, Below.heap_setCell _ _ _ _ hne, Below.heap_setCell _ _ _ _ hne, Below.heap_setCell _ _ _ _ hne]
    exact hW)
  have hZ6 := HA.out.b _ 5 (.int .i64 nn) (HA.out.b _ 4 (.int .i64 kd) (HA.out.b _ 3 (.slice bn ln' cn') (HA.out.b _ 2 (.string ⟨tx.toArray⟩) (HA.out.b _ 1 (.int .i64 at_) (HA.out.b _ 0 (.int .i64 er) HZ.out)))))
  have HZ6 := toHid hZ6
  have r6g := HRW.out w2 H2.out
  have r6q := HRQ.out w2 H1.out
  have R6G := toHid r6g
  have R6Q := toHid r6q
  clear hZ6 r6g r6q HRW HRQ
  have HQS := toHid HEN.out.1
  have plain : (¬ (er ≠ 0 ∧ edV vb = true)) → Hid (∀ W, Z W → Q er at_ tx bn ln' cn' kd nn W) := fun h0 => by
    have := HEN.out.2
    rw [if_neg h0] at this
    exact toHid this
  have PL := toHid plain
  clear plain
  by_cases her : er = 0
  · subst her
    go_wp2
    refine bodyPost_ret (v := .agg #[.int .i64 0, .int .i64 at_, .string ⟨tx.toArray⟩, .slice bn ln' cn', .int .i64 kd, .int .i64 nn]) (by simp [results, Tryz.results20, go_sem, k0, k1, k2, k3, k4, k5, hsz, hne]) (by simp [go_sem]) ?_
    refine ⟨0, at_, tx, bn, ln', cn', kd, nn, rfl, (PL.out (fun h => h.1 rfl)).out _ ?_⟩
    exact HA.out.a _ _ _ (HA.out.a _ _ _ (HA.out.a _ _ _ (HA.out.a _ _ _ (HA.out.a _ _ _ (HA.out.a _ _ _ HZ6.out)))))
  · have her' : (er == 0) = false := by simpa using her
    by_cases hed : edV vb = true
    · have hed' : (vb == 1 || (vb == 2 || vb == 3)) = true := hed
      have HVE := toHid (fun W => verbEdits vb W)
      rw [hed'] at HVE
      have hcan := HEN.out.2
      rw [if_pos ⟨her, hed⟩] at hcan
      have HCN := toHid (hcan _ HZ6.out)
      clear hcan hed hed' PL HEN HA HZ
      have HW6 := toHid (Eq.refl ((((((w2.setCell ⟨w1.heap.size + 1, 0, none⟩ (.int .i64 er)).setCell ⟨w1.heap.size + 1, 1, none⟩ (.int .i64 at_)).setCell ⟨w1.heap.size + 1, 2, none⟩ (.string ⟨tx.toArray⟩)).setCell ⟨w1.heap.size + 1, 3, none⟩ (.slice bn ln' cn')).setCell ⟨w1.heap.size + 1, 4, none⟩ (.int .i64 kd)).setCell ⟨w1.heap.size + 1, 5, none⟩ (.int .i64 nn)))
      go_wp2_with (first | (go_at_call 48; refine (HVE.out _).mono ?_; rintro r w3 ⟨rfl, rfl⟩; refine Hid.out ?_))
      obtain ⟨⟨q0, q1, q2, q3, q4, q5⟩, ⟨s0, s1, s2, s3, s4, s5⟩, hszq⟩ := row6 R6Q.out
      obtain ⟨⟨u0, u1, u2, u3, u4, u5⟩, ⟨t0, t1, t2, t3, t4, t5⟩, hszg⟩ := row6 R6G.out
      generalize hw6 : ((((((w2.setCell ⟨w1.heap.size + 1, 0, none⟩ (.int .i64 er)).setCell ⟨w1.heap.size + 1, 1, none⟩ (.int .i64 at_)).setCell ⟨w1.heap.size + 1, 2, none⟩ (.string ⟨tx.toArray⟩)).setCell ⟨w1.heap.size + 1, 3, none⟩ (.slice bn ln' cn')).setCell ⟨w1.heap.size + 1, 4, none⟩ (.int .i64 kd)).setCell ⟨w1.heap.size + 1, 5, none⟩ (.int .i64 nn)) = w6 at *
      clear hw6 HW6 HVE
      refine toHid ?_
      go_wp2_with (first | (go_at_call 49; refine HCN.out.mono ?_; rintro r w3 ⟨⟨x, rfl⟩, hq3, hg3, hqq⟩; refine Hid.out ?_))
      obtain ⟨⟨k0, k1, k2, k3, k4, k5⟩, ⟨f0, f1, f2, f3, f4, f5⟩, hsz⟩ := row6 (hq3.trans R6Q.out)
      obtain ⟨⟨j0, j1, j2, j3, j4, j5⟩, ⟨g0, g1, g2, g3, g4, g5⟩, hsz2⟩ := row6 (hg3.trans R6G.out)
      have HQQ := toHid hqq
      clear hq3 hg3 hqq
      refine toHid ?_
      go_wp2
      refine bodyPost_ret (v := .agg #[.int .i64 er, .int .i64 at_, .string ⟨tx.toArray⟩, .slice bn ln' cn', .int .i64 kd, .int .i64 nn]) (by simp [results, Tryz.results20, go_sem, k0, k1, k2, k3, k4, k5, hsz, hne]) (by simp [go_sem]) ?_
      refine ⟨er, at_, tx, bn, ln', cn', kd, nn, rfl, ?_⟩
      exact HQS.out _ _ _ (HQS.out _ _ _ (HQS.out _ _ _ (HQS.out _ _ _ (HQS.out _ _ _ (HQS.out _ _ _ HQQ.out)))))
    · have hed' : (vb == 1 || (vb == 2 || vb == 3)) = false := by simpa [edV] using hed
      have HVE := toHid (fun W => verbEdits vb W)
      rw [hed'] at HVE
      have PL2 := toHid ((PL.out (fun h => hed h.2)).out)
      clear hed hed' PL HEN HZ
      go_wp2_with (first | (go_at_call 48; refine (HVE.out _).mono ?_; rintro r w3 ⟨rfl, rfl⟩))
      refine bodyPost_ret (v := .agg #[.int .i64 er, .int .i64 at_, .string ⟨tx.toArray⟩, .slice bn ln' cn', .int .i64 kd, .int .i64 nn]) (by simp [results, Tryz.results20, go_sem, k0, k1, k2, k3, k4, k5, hsz, hne]) (by simp [go_sem]) ?_
      refine ⟨er, at_, tx, bn, ln', cn', kd, nn, rfl, PL2.out _ ?_⟩
      exact HA.out.a _ _ _ (HA.out.a _ _ _ (HA.out.a _ _ _ (HA.out.a _ _ _ (HA.out.a _ _ _ (HA.out.a _ _ _ HZ6.out)))))
end Go.Proofs.YtihgojcfpnhelaaGreatDoor
namespace Go.Proofs.YtihgojcfpnhelaaGreatDoor
open Go.RowKit

def erRep (er at_ : Int) : Obj := .cells #[.int .i64 er, .int .i64 at_, .string ⟨#[]⟩, .slice none 0 0, .int .i64 0, .int .i64 0] 39 (0, 0)

def RdErr (Q : Int → Int → World → Prop) (e : Nat) (w : World) (r : Ending) (w1 : World) : Prop :=
  Below (w.heap.size + 1) (w.alloc zRep) w1 ∧ ∃ vb er at_ Z, er ≠ 0 ∧ r = .returned (.tuple #[lineV vb none 0 0 0 [] 0 none 0 0, .int .i64 er, .int .i64 at_]) ∧ (∀ W j u, Z W → Z (W.setCell ⟨w.heap.size, j, none⟩ u)) ∧
    Z ((w1.alloc (lineO vb none 0 0 0 [] 0 none 0 0)).alloc (erRep er at_)) ∧ DoEnd e w.heap.size (w1.heap.size + 1) Z vb er (Q er at_)

set_option maxRecDepth 100000 in
set_option maxHeartbeats 4000000 in
/-- 'Do' of a line that can't be read. -/
theorem doErr (e : Nat) (s : By) (w : World) (Q : Int → Int → World → Prop)
    (hR : Calls Tryz.prog 46 #[.string ⟨s.toArray⟩] (w.alloc zRep) (RdErr Q e w)) :
    Calls Tryz.prog 20 #[.pointer (some ⟨e, 0, none⟩), .string ⟨s.toArray⟩] w fun r w' => ∃ er at_, r = .returned (rpV er at_ [] none 0 0 0 0) ∧ Q er at_ w' := by
  have HR := toHid hR
  clear hR
  unfold zRep at HR
  go_enter Tryz.func20, Tryz.ntmps20
  go_wp2_with (first | (go_at_call 46; refine HR.out.mono ?_; rintro r w1 ⟨hb1, vb, er, at_, Z, her, hr, hA, hZ, hE⟩; unfold lineV at hr; subst hr; refine Hid.out ?_))
  have hs1 : w.heap.size < w1.heap.size := by have := hb1.size; simp at this; omega
  have her' : (er == 0) = false := by simpa using her
  have hq1 : w1.heap[w.heap.size]? = some zRep := (hb1.block _ (by omega)).trans (heap_alloc_new w zRep)
  have r6q : ((w1.alloc (lineO vb none 0 0 0 [] 0 none 0 0)).alloc (erRep er at_)).heap[w.heap.size]? = some zRep := by
    rw [Below.heap_alloc _ _ _ (by simp; omega), Below.heap_alloc _ _ _ hs1]
    exact hq1
  have r6g : ((w1.alloc (lineO vb none 0 0 0 [] 0 none 0 0)).alloc (erRep er at_)).heap[w1.heap.size + 1]? = some (erRep er at_) := by
    have := heap_alloc_new (w1.alloc (lineO vb none 0 0 0 [] 0 none 0 0)) (erRep er at_)
    simpa using this
  have r6l : ((w1.alloc (lineO vb none 0 0 0 [] 0 none 0 0)).alloc (erRep er at_)).heap[w1.heap.size]? = some (lineO vb none 0 0 0 [] 0 none 0 0) := by
    rw [Below.heap_alloc _ _ _ (by simp)]
    exact heap_alloc_new w1 _
  have R6Q := toHid r6q
  have R6G := toHid r6g
  have R6L := toHid r6l
  have HA := toHid hA
  have HZ := toHid hZ
  have HEN := toHid hE
  have HQS := toHid hE.1
  obtain ⟨⟨k0, k1, k2, k3, k4, k5⟩, ⟨f0, f1, f2, f3, f4, f5⟩, hsz⟩ := row6 hq1
  have hne : w.heap.size ≠ w1.heap.size + 1 := by omega
  have hne' : w1.heap.size + 1 ≠ w.heap.size := by omega
  have hne2 : w.heap.size ≠ w1.heap.size := by omega
  have hne2' : w1.heap.size ≠ w.heap.size := by omega
  clear hb1 hA hZ hE HR r6q r6g r6l hq1
  refine toHid ?_
  by_cases hed : edV vb = true
  · have hed' : (vb == 1 || (vb == 2 || vb == 3)) = true := hed
    have HVE := toHid (fun W => verbEdits vb W)
    rw [hed'] at HVE
    have hcan := HEN.out.2
    rw [if_pos ⟨her, hed⟩] at hcan
    have HCN := toHid (hcan _ HZ.out)
    clear hcan hed hed' HEN HA HZ
    go_wp2_with (first | (go_at_call 48; refine (HVE.out _).mono ?_; rintro r w3 ⟨rfl, rfl⟩; refine Hid.out ?_))
    obtain ⟨⟨q0, q1, q2, q3, q4, q5⟩, ⟨s0, s1, s2, s3, s4, s5⟩, hszq⟩ := row6 R6Q.out
    obtain ⟨⟨u0, u1, u2, u3, u4, u5⟩, ⟨t0, t1, t2, t3, t4, t5⟩, hszg⟩ := row6 R6G.out
    have e1 : lineO vb none 0 0 0 [] 0 none 0 0 = .cells #[.int .i64 vb, .slice none 0 0, .int .i64 0, .string ⟨#[]⟩, .int .i64 0, .slice none 0 0] 97 (0, 0) := rfl
    have e2 : erRep er at_ = .cells #[.int .i64 er, .int .i64 at_, .string ⟨#[]⟩, .slice none 0 0, .int .i64 0, .int .i64 0] 39 (0, 0) := rfl
    rw [e1, e2] at q0 q1 q2 q3 q4 q5 s0 s1 s2 s3 s4 s5 hszq u0 u1 u2 u3 u4 u5 t0 t1 t2 t3 t4 t5 hszg R6Q R6G R6L HCN
    generalize hw6 : ((w1.alloc (.cells #[.int .i64 vb, .slice none 0 0, .int .i64 0, .string ⟨#[]⟩, .int .i64 0, .slice none 0 0] 97 (0, 0))).alloc (.cells #[.int .i64 er, .int .i64 at_, .string ⟨#[]⟩, .slice none 0 0, .int .i64 0, .int .i64 0] 39 (0, 0))) = w6 at *
    clear hw6 HVE e1 e2
    refine toHid ?_
    go_wp2_with (first | (go_at_call 49; refine HCN.out.mono ?_; rintro r w3 ⟨⟨x, rfl⟩, hq3, hg3, hqq⟩; refine Hid.out ?_))
    obtain ⟨⟨k0, k1, k2, k3, k4, k5⟩, ⟨f0, f1, f2, f3, f4, f5⟩, hsz⟩ := row6 (hq3.trans R6Q.out)
    obtain ⟨⟨j0, j1, j2, j3, j4, j5⟩, ⟨g0, g1, g2, g3, g4, g5⟩, hsz2⟩ := row6 (hg3.trans R6G.out)
    have HQQ := toHid hqq
    clear hq3 hg3 hqq
    refine toHid ?_
    go_wp2
    refine bodyPost_ret (v := .agg #[.int .i64 er, .int .i64 at_, .string ⟨#[]⟩, .slice none 0 0, .int .i64 0, .int .i64 0]) (by simp [results, Tryz.results20, go_sem, k0, k1, k2, k3, k4, k5, hsz, hne]) (by simp [go_sem]) ?_
    refine ⟨er, at_, rfl, ?_⟩
    exact HQS.out _ _ _ (HQS.out _ _ _ (HQS.out _ _ _ (HQS.out _ _ _ (HQS.out _ _ _ (HQS.out _ _ _ HQQ.out)))))
  · have hed' : (vb == 1 || (vb == 2 || vb == 3)) = false := by simpa [edV] using hed
    have HVE := toHid (fun W => verbEdits vb W)
    rw [hed'] at HVE
    have hpl := HEN.out.2
    rw [if_neg (fun h => hed h.2)] at hpl
    have PL := toHid hpl
    clear hpl hed hed' HEN
    go_wp2_with (first | (go_at_call 48; refine (HVE.out _).mono ?_; rintro r w3 ⟨rfl, rfl⟩; refine Hid.out ?_))
    obtain ⟨⟨q0, q1, q2, q3, q4, q5⟩, ⟨s0, s1, s2, s3, s4, s5⟩, hszq⟩ := row6 R6Q.out
    obtain ⟨⟨u0, u1, u2, u3, u4, u5⟩, ⟨t0, t1, t2, t3, t4, t5⟩, hszg⟩ := row6 R6G.out
    have e1 : lineO vb none 0 0 0 [] 0 none 0 0 = .cells #[.int .i64 vb, .slice none 0 0, .int .i64 0, .string ⟨#[]⟩, .int .i64 0, .slice none 0 0] 97 (0, 0) := rfl
    have e2 : erRep er at_ = .cells #[.int .i64 er, .int .i64 at_, .string ⟨#[]⟩, .slice none 0 0, .int .i64 0, .int .i64 0] 39 (0, 0) := rfl
    rw [e1, e2] at q0 q1 q2 q3 q4 q5 s0 s1 s2 s3 s4 s5 hszq u0 u1 u2 u3 u4 u5 t0 t1 t2 t3 t4 t5 hszg R6Q R6G R6L HZ
    generalize hw6 : ((w1.alloc (.cells #[.int .i64 vb, .slice none 0 0, .int .i64 0, .string ⟨#[]⟩, .int .i64 0, .slice none 0 0] 97 (0, 0))).alloc (.cells #[.int .i64 er, .int .i64 at_, .string ⟨#[]⟩, .slice none 0 0, .int .i64 0, .int .i64 0] 39 (0, 0))) = w6 at *
    clear hw6 HVE e1 e2
    refine toHid ?_
    go_wp2
    refine bodyPost_ret (v := .agg #[.int .i64 er, .int .i64 at_, .string ⟨#[]⟩, .slice none 0 0, .int .i64 0, .int .i64 0]) (by simp [results, Tryz.results20, go_sem, q0, q1, q2, q3, q4, q5, hszq, hne]) (by simp [go_sem]) ?_
    refine ⟨er, at_, rfl, PL.out _ ?_⟩
    exact HA.out _ _ _ (HA.out _ _ _ (HA.out _ _ _ (HA.out _ _ _ (HA.out _ _ _ (HA.out _ _ _ HZ.out)))))
end Go.Proofs.YtihgojcfpnhelaaGreatDoor
