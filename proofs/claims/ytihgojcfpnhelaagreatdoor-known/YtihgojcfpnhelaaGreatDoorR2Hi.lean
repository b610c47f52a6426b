import Derived.Test.YtihgojcfpnhelaaGreatDoorR2Hh
set_option maxRecDepth 100000
set_option maxHeartbeats 4000000
set_option linter.unusedVariables false
set_option linter.unusedSimpArgs false
namespace Go.Proofs.YtihgojcfpnhelaaGreatDoor
open Go.RowKit
section
variable {S S' S1 O : Nat → Prop} {e : Nat} {D D' : Nat → Prop} {σ σ0 σ1 : Sta} {v0 v1 v2 v3 v4 v5 v v' : Value} {te : TypeId} {w w' W w1 w2 w3 : World} {bs : List (List Wr)} {N : Nat → Nat} {cs : Nat → Array Value} {M : Nat} {dv uv gv : Value} {dn gr : List (List Wr)} {op : Bool} {N1 : Nat} {cs1 : Array Value} {us : List Wr}
theorem wrap64_small (n : Nat) (h : n ≤ 100) : wrap64 ((n : Int) + 1 - 1) = (n : Int) ∧ wrap64 ((n : Int) + 1) = (n : Int) + 1 := by
 unfold wrap64
 omega
theorem turnUndoW (l ud : List (List Wr)) (gf cf ct : Nat) (at_ : Option Addr) (h : EdX w e S D σ M (.slice (some ⟨gf, 0, none⟩) (l.length + 1) cf) (.slice at_ ud.length ct) gv (l ++ [us]) ud gr false) :
  Calls Tryz.prog 101 #[.pointer (some ⟨e, 1, none⟩), .pointer (some ⟨e, 2, none⟩), .pointer (some ⟨e, 3, none⟩)] w fun r w' => r = .returned (.int .i64 0) ∧ EdTo e (Ft S e D (.slice (some ⟨gf, 0, none⟩) (l.length + 1) cf) (.slice at_ ud.length ct) gv) (EdW e D (.slice (some ⟨gf, 0, none⟩) (l.length + 1) cf) (.slice at_ ud.length ct) gv) (runW us σ) M l (ud ++ [invW us σ]) gr false w w' := by
 obtain ⟨a, c, r1, r2, r3, he⟩ := h.ph.row
 obtain ⟨⟨e0, e1, e2, e3, e4, e5⟩, ⟨z0, z1, z2, z3, z4, z5⟩, hel⟩ := row6 he
 obtain ⟨i1, gi, gz0, gz1, gz2⟩ := info_parts infoBack
 obtain ⟨Nf, csf, hf⟩ := h.rd
 obtain ⟨Nt, cst, ht⟩ := h.ru
 have hM := h.hM
 have hll := h.len
 simp only [List.length_append, List.length_singleton] at hll
 have hbk : BkAt e D w S (Nf l.length) (csf l.length) us := by
  have := hf.bk l.length (by simp)
  rw [List.getD_eq_getElem?_getD, List.getElem?_append_right (Nat.le_refl _)] at this
  simpa using this
 have hfo : w.ownsRow 0 151 1 (.slice (some ⟨gf, 0, none⟩) (l.length + 1) cf) (l.length + 1) ((List.range (l.length + 1)).map fun j => fnV (Nf j) (csf j)) := by
  have := hf.own
  rw [List.length_append, List.length_singleton] at this
  exact this
 have hcl : w.cell? ⟨gf, l.length, none⟩ = some (.func (.func (Nf l.length)) #[] (csf l.length)) := by
  have := hfo.cellAt l.length (by simp)
  rw [this, List.getElem?_map, List.getElem?_range (by simp)]
  rfl
 have heg := hbk.enters
 have hge : gf ≠ e := (hf.ob gf rfl).2.1
 have hgtf : at_ ≠ none → (Value.slice at_ ud.length ct).ownBlock ≠ some gf := fun _ h1 => h.du gf rfl h1
 have hgfl := hf.lt gf rfl
 have HFIN := tZ (show ∀ (N' : Nat) (cs' : Array Value) (w2 : World), (∃ S' : Nat → Prop, (∀ q, S q → S' q) ∧ (∀ q, S' q → S q ∨ w.heap.size ≤ q) ∧ EdX w2 e S' D (runW us σ) M (.slice (some ⟨gf, 0, none⟩) (l.length + 1) cf) (.slice at_ ud.length ct) gv (l ++ [us]) ud gr false ∧ BkAt e D w2 S' N' cs' (invW us σ) ∧ Ks (fun q => q = e ∨ D q) w w2) → ∀ (g' cap' : Nat) (w3 : World), w3.ownsRow 0 151 1 (.slice (some ⟨g', 0, none⟩) (ud.length + 1) cap') (ud.length + 1) (((List.range ud.length).map fun j => fnV (Nt j) (cst j)) ++ [.func (.func N') #[] cs']) → (w2.alloc (.cells #[.func (.func N') #[] cs'] 151)).grownBy w3 (Value.slice at_ ud.length ct).ownBlock → ((Value.slice at_ ud.length ct).ownBlock = some g' ∨ g' = w2.heap.size + 1) → w2.ownsRow 0 151 1 (.slice at_ ud.length ct) ud.length ((List.range ud.length).map fun j => fnV (Nt j) (cst j)) →
   ∃ a2 c2, w3.heap[e]? = some (.cells #[.slice a2 (runW us σ).ord.length c2, .int .i64 (M : Int), (.slice (some ⟨gf, 0, none⟩) (l.length + 1) cf), (.slice at_ ud.length ct), .bool false, gv] 108 (0, 0)) ∧ (∀ q, q ≠ e → True) ∧ Calls Tryz.prog 136 #[.slice (some ⟨gf, 0, none⟩) (l.length + 1) cf, .int .i64 (l.length : Int), .int .i64 ((l.length : Int) + 1)] (w3.setCell ⟨e, 3, none⟩ (.slice (some ⟨g', 0, none⟩) (ud.length + 1) cap')) fun r w5 => r = .returned (.slice (some ⟨gf, 0, none⟩) l.length cf) ∧ Hid (w5.heap[e]? = some (.cells #[.slice a2 (runW us σ).ord.length c2, .int .i64 (M : Int), (.slice (some ⟨gf, 0, none⟩) (l.length + 1) cf), (.slice (some ⟨g', 0, none⟩) (ud.length + 1) cap'), .bool false, gv] 108 (0, 0))) ∧ Hid (EdTo e (Ft S e D (.slice (some ⟨gf, 0, none⟩) (l.length + 1) cf) (.slice at_ ud.length ct) gv) (EdW e D (.slice (some ⟨gf, 0, none⟩) (l.length + 1) cf) (.slice at_ ud.length ct) gv) (runW us σ) M l (ud ++ [invW us σ]) gr false w (w5.setCell ⟨e, 2, none⟩ (.slice (some ⟨gf, 0, none⟩) l.length cf))) from by
  rintro N' cs' w2 ⟨S', s0, s1, hX, hbk', hk⟩ g' cap' w3 hown hgr hat ho2
  obtain ⟨a2, c2, k1, k2, k3, k4⟩ := hX.ph.row
  have hsz2 := hk.size
  have hsz3 := hgr.size
  simp at hsz3
  have hk3 : Ks (fun q => (Value.slice at_ ud.length ct).ownBlock = some q) w2 w3 := by
   refine ⟨hgr.os, hgr.tape, hgr.output, by omega, fun q hq hn => ?_⟩
   rw [hgr.block q (by simp; omega) (fun h => hn h.symm), Below.heap_alloc _ _ _ hq]
  have hnp : ∀ q, S q → ¬ (q = e ∨ D q) := h.ph.notP
  have blk02 : ∀ q, S q → w2.heap[q]? = w.heap[q]? := fun q hq => hk.block q (h.ph.still q hq) (hnp q hq)
  have mv : ∀ {v : Value} {bs : List (List Wr)} {N : Nat → Nat} {cs : Nat → Array Value}, RowB w S e D v bs N cs → RowB w2 S' e D v bs N cs := fun {v bs N cs} hr => (hr.keep hk blk02 fun q hq h2 => by
   rcases h2 with h2 | h2
   ·exact (hr.ob q hq).2.1 h2
   ·exact (hr.ob q hq).2.2 h2).wide s0 (fun _ h => h) fun q hq => ⟨fun hs => by
    rcases s1 q hs with h2 | h2
    ·exact (hr.ob q hq).1 h2
    ·have := hr.lt q hq; omega, (hr.ob q hq).2.2⟩
  have ht2 := mv ht
  have hf2 := mv hf
  obtain ⟨Ng, csg, hg⟩ := h.rg
  have hg2 := mv hg
  have hS' : ∀ q, S' q → q ≠ e := fun q hq e' => hX.ph.eS (e' ▸ hq)
  have hte : (Value.slice at_ ud.length ct).ownBlock ≠ some e := fun h1 => (ht.ob e h1).2.1 rfl
  have hel2 : e < w2.heap.size := by omega
  have hv : (Value.slice at_ ud.length ct).ownBlock = (Value.slice (some ⟨g', 0, none⟩) (ud.length + 1) cap').ownBlock ∨ ∃ q, (Value.slice (some ⟨g', 0, none⟩) (ud.length + 1) cap').ownBlock = some q ∧ w2.heap.size ≤ q := by
   rcases hat with h1 | h1
   ·exact Or.inl h1
   ·exact Or.inr ⟨g', rfl, by omega⟩
  have htf : (Value.slice at_ ud.length ct).ownBlock ≠ some gf := fun h1 => h.du gf rfl h1
  have hg'f : g' ≠ gf := fun h1 => by
   rcases hat with h2 | h2
   ·exact htf (by rw [h2, h1])
   ·omega
  have hg'g : gv.ownBlock ≠ some g' := fun h1 => by
   rcases hat with h2 | h2
   ·exact h.ug g' h2 h1
   ·have := hg2.lt g' h1; omega
  have he3 : w3.heap[e]? = some (.cells #[.slice a2 (runW us σ).ord.length c2, .int .i64 (M : Int), (.slice (some ⟨gf, 0, none⟩) (l.length + 1) cf), (.slice at_ ud.length ct), .bool false, gv] 108 (0, 0)) := (hk3.block e hel2 hte).trans k4
  have blk23 : ∀ q, S' q → w3.heap[q]? = w2.heap[q]? := fun q hq => hk3.block q (hX.ph.still q hq) fun h1 => (ht2.ob q h1).1 hq
  have ht3 := (ht2.snoc hbk' hX.ph.still hel2 (fun q hq => (hX.ph.fld q hq).lt) hgr hown hv).atE hS' 3 (.slice (some ⟨g', 0, none⟩) (ud.length + 1) cap')
  have hf4 := (hf2.keep hk3 blk23 (fun q hq h1 => by simp [Value.ownBlock] at hq; subst hq; exact htf h1)).atE hS' 3 (.slice (some ⟨g', 0, none⟩) (ud.length + 1) cap')
  have hg4 := (hg2.keep hk3 blk23 (fun q hq h1 => h.ug q h1 hq)).atE hS' 3 (.slice (some ⟨g', 0, none⟩) (ud.length + 1) cap')
  have hp3 : PhS w3 S' e D (runW us σ) (.int .i64 (M : Int)) (.slice (some ⟨gf, 0, none⟩) (l.length + 1) cf) (.slice at_ ud.length ct) (.bool false) gv 108 := hX.ph.same (by
   rintro q (h1 | rfl | h1)
   ·exact blk23 q h1
   ·exact hk3.block _ hel2 hte
   ·exact hk3.block q (hX.ph.fld q h1).lt fun h2 => (ht2.ob q h2).2.2 h1) hk3.size
  have hk4 : Ks (fun q => q = e) w3 (w3.setCell ⟨e, 3, none⟩ (.slice (some ⟨g', 0, none⟩) (ud.length + 1) cap')) := (Ks.refl (fun q => q = e) w3).set e 3 _ rfl
  have hp4 : PhS (w3.setCell ⟨e, 3, none⟩ (.slice (some ⟨g', 0, none⟩) (ud.length + 1) cap')) S' e D (runW us σ) (.int .i64 (M : Int)) (.slice (some ⟨gf, 0, none⟩) (l.length + 1) cf) (.slice (some ⟨g', 0, none⟩) (ud.length + 1) cap') (.bool false) gv 108 := hp3.beside hk4 fun a c h1 => (setCell_block h1 3 _).trans rfl
  have he4 : (w3.setCell ⟨e, 3, none⟩ (.slice (some ⟨g', 0, none⟩) (ud.length + 1) cap')).heap[e]? = some (.cells #[.slice a2 (runW us σ).ord.length c2, .int .i64 (M : Int), (.slice (some ⟨gf, 0, none⟩) (l.length + 1) cf), (.slice (some ⟨g', 0, none⟩) (ud.length + 1) cap'), .bool false, gv] 108 (0, 0)) := (setCell_block he3 3 _).trans rfl
  generalize hw4 : w3.setCell ⟨e, 3, none⟩ (.slice (some ⟨g', 0, none⟩) (ud.length + 1) cap') = w4 at *
  refine ⟨a2, c2, he3, fun _ _ => trivial, ?_⟩
  have hfo4 : w4.ownsRow 0 151 1 (.slice (some ⟨gf, 0, none⟩) (l.length + 1) cf) (l.length + 1) ((List.range (l.length + 1)).map fun j => fnV (Nf j) (csf j)) := by
   have := hf4.own
   rw [List.length_append, List.length_singleton] at this
   exact this
  refine (deleteAt 0 gf cf l.length l.length _ w4 hfo4 (Nat.le_refl _) (by omega) (fun v hv => by
   obtain ⟨j, _, rfl⟩ := List.mem_map.1 hv
   rfl)).mono ?_
  rintro r w5 ⟨rfl, hk5, ho5⟩
  have hel4 : e < w4.heap.size := (Array.getElem?_eq_some_iff.1 he4).1
  have he5 := (hk5.block e hel4 (fun h1 => hge h1.symm)).trans he4
  have blk45 : ∀ q, S' q → w5.heap[q]? = w4.heap[q]? := fun q hq => hk5.block q (hp4.still q hq) fun h1 => (hf4.ob gf rfl).1 (h1 ▸ hq)
  have hp5 : PhS w5 S' e D (runW us σ) (.int .i64 (M : Int)) (.slice (some ⟨gf, 0, none⟩) (l.length + 1) cf) (.slice (some ⟨g', 0, none⟩) (ud.length + 1) cap') (.bool false) gv 108 := hp4.same (by
   rintro q (h1 | rfl | h1)
   ·exact blk45 q h1
   ·exact hk5.block _ hel4 (fun h1 => hge h1.symm)
   ·exact hk5.block q (hp4.fld q h1).lt fun h2 => (hf4.ob gf rfl).2.2 (h2 ▸ h1)) hk5.size
  have hk6 : Ks (fun q => q = e) w5 (w5.setCell ⟨e, 2, none⟩ (.slice (some ⟨gf, 0, none⟩) l.length cf)) := (Ks.refl (fun q => q = e) w5).set e 2 _ rfl
  have her : (l ++ [us]).eraseIdx l.length = l := by simp [List.eraseIdx_append_of_length_le]
  have hf6 := (hf4.erase (w2 := w5) (v' := .slice (some ⟨gf, 0, none⟩) l.length cf) (i := l.length) (by simp) blk45 (by
   rw [List.length_append, List.length_singleton, Nat.add_sub_cancel]
   exact ho5) rfl).atE hS' 2 (.slice (some ⟨gf, 0, none⟩) l.length cf)
  rw [her] at hf6
  have ht6 := (ht3.keep hk5 blk45 (fun q hq h1 => by simp [Value.ownBlock] at hq; subst hq; exact hg'f h1)).atE hS' 2 (.slice (some ⟨gf, 0, none⟩) l.length cf)
  have hg6 := (hg4.keep hk5 blk45 (fun q hq h1 => h.dg q (by rw [h1]; rfl) hq)).atE hS' 2 (.slice (some ⟨gf, 0, none⟩) l.length cf)
  refine ⟨rfl, he5, S', D, (.slice (some ⟨gf, 0, none⟩) l.length cf), (.slice (some ⟨g', 0, none⟩) (ud.length + 1) cap'), gv, ⟨hp5.beside hk6 fun a c h1 => (setCell_block h1 2 _).trans rfl, ⟨_, _, hf6⟩, ⟨_, _, ht6⟩, ⟨_, _, hg6⟩, fun q hq h1 => ?_, fun q hq h1 => ?_, fun q hq h1 => ?_, hM, by simp; omega⟩, ?_, ?_⟩
  ·simp [Value.ownBlock] at hq h1
   exact hg'f (by omega)
  ·exact h.dg q hq h1
  ·simp [Value.ownBlock] at hq
   subst hq
   exact hg'g h1
  ·rintro q (h1 | h1 | h1 | h1 | h1 | h1)
   ·exact (s1 q h1).imp (fun h2 => Or.inl h2) id
   ·exact Or.inl (Or.inr (Or.inl h1))
   ·exact Or.inl (Or.inr (Or.inr (Or.inl h1)))
   ·exact Or.inl (Or.inr (Or.inr (Or.inr (Or.inl h1))))
   ·rcases hv with h2 | ⟨x, h2, h3⟩
    ·exact Or.inl (Or.inr (Or.inr (Or.inr (Or.inr (Or.inl (by rw [h2]; exact h1))))))
    ·rw [h2] at h1; cases h1; exact Or.inr (by omega)
   ·exact Or.inl (Or.inr (Or.inr (Or.inr (Or.inr (Or.inr h1)))))
  ·have kk : Ks (EdW e D (.slice (some ⟨gf, 0, none⟩) (l.length + 1) cf) (.slice at_ ud.length ct) gv) w w3 := (hk.wide fun q hq => by
    rcases hq with h1 | h1
    ·exact Or.inl h1
    ·exact Or.inr (Or.inl h1)).trans (hk3.wide fun q hq => Or.inr (Or.inr (Or.inr (Or.inl hq))))
   have kk4 : Ks (EdW e D (.slice (some ⟨gf, 0, none⟩) (l.length + 1) cf) (.slice at_ ud.length ct) gv) w w4 := by rw [← hw4]; exact kk.trans (((Ks.refl (fun q => q = e) w3).set e 3 _ rfl).wide fun q hq => Or.inl hq)
   exact (kk4.trans (hk5.wide fun q hq => Or.inr (Or.inr (Or.inl (by rw [show q = gf from hq]; rfl))))).trans (hk6.wide fun q hq => Or.inl hq))
 have HCA := tZ (h.called hbk w.drew (Below.refl _ _).drew)
 have HT := tZ ht
 have HXX := tZ h
 have HFO := tZ hfo
 have hl6 : l.length ≤ 6 := by omega
 have ho6 : ud.length ≤ 6 := by omega
 have hwl : wrap64 ((l.length : Int) + 1 - 1) = (l.length : Int) := (wrap64_small l.length (by omega)).1
 have hwl2 : wrap64 ((l.length : Int) + 1) = (l.length : Int) + 1 := (wrap64_small l.length (by omega)).2
 have hil : (l.length : Int) < (l.length : Int) + 1 := Int.lt_succ _
 have hnn : ¬ (l.length : Int) < 0 := Int.not_lt.2 (Int.natCast_nonneg _)
 have HE := tZ he
 generalize hNf : Nf l.length = N1 at *
 generalize hcsf : csf l.length = cs1 at *
 clear h hf ht hbk hfo r1 r2 r3 he hll hgtf hM
 go_enter Tryz.func101, Tryz.ntmps101
 go_wp2_with fail
 have HC2 := tZ (HCA.out.mono (R' := fun r w2 => ∃ N' cs', r = .returned (.func (.func N') #[] cs') ∧ Hid (∃ S' : Nat → Prop, (∀ q, S q → S' q) ∧ (∀ q, S' q → S q ∨ w.heap.size ≤ q) ∧ EdX w2 e S' D (runW us σ) M (.slice (some ⟨gf, 0, none⟩) (l.length + 1) cf) (.slice at_ ud.length ct) gv (l ++ [us]) ud gr false ∧ BkAt e D w2 S' N' cs' (invW us σ) ∧ Ks (fun q => q = e ∨ D q) w w2) ∧ Hid (w2.ownsRow 0 151 1 (.slice at_ ud.length ct) ud.length ((List.range ud.length).map fun j => fnV (Nt j) (cst j))) ∧ Hid (w2.cell? ⟨e, 2, none⟩ = some (.slice (some ⟨gf, 0, none⟩) (l.length + 1) cf) ∧ w2.cell? ⟨e, 3, none⟩ = some (.slice at_ ud.length ct)) ∧ w2.cell? ⟨gf, l.length, none⟩ = some (.func (.func N1) #[] cs1) ∧ w.heap.size ≤ w2.heap.size) (by
  rintro r w2 ⟨N', cs', S', rfl, q0, q1, q2, q3, q4⟩
  have hk : Ks (fun q => q = e ∨ D q) w w2 := (Ks.of (Below.refl _ _).drew).trans q4
  obtain ⟨a2, c2, _, _, _, k4⟩ := q2.ph.row
  refine ⟨N', cs', rfl, ⟨S', q0, q1, q2, q3, hk⟩, own_ke HT.out.own hk fun q hq h2 => ?_, ⟨(row6 k4).1.2.2.1, (row6 k4).1.2.2.2.1⟩, ?_, hk.size⟩
  ·rcases h2 with h2 | h2
   ·exact (HT.out.ob q hq).2.1 h2
   ·exact (HT.out.ob q hq).2.2 h2
  ·refine (World.cell?_of_block (a := ⟨gf, l.length, none⟩) (hk.block gf hgfl ?_)).trans hcl
   rintro (h2 | h2)
   ·exact hge h2
   ·obtain ⟨N, cs, hr⟩ := HXX.out.rd
    exact (hr.ob gf rfl).2.2 h2))
 clear HCA HFO
 go_region_law (first | (refine step_append_lies _ (by rfl) (.tmp 24) (.tmp 32) 104 (by rfl) 0 151 i1 .nilFunc 1 8 Tryz.underlying104 gi gz0 gz1 gz2 rfl (by decide) (.slice at_ ud.length ct) ud.length _ (by rfl) (B2.out.alloc _) ⟨w2.heap.size, 0, none⟩ 1 1 [.func (.func N') #[] cs'] (by rfl) rfl (fun q u hq => cells_new w2 [.func (.func N') #[] cs'] 151 q u hq) (fun u hu => by simp at hu; subst hu; rfl) (by omega) (by unfold maxLen; omega) (by omega) (by omega) (w2.heap.size + 1) (by simp) ?_; intro g' cap' w3 hown hgrow hat hltg; obtain ⟨a2, c2, he3, _, hdel⟩ := HFIN.out N' cs' w2 B1.out g' cap' w3 hown hgrow hat B2.out; obtain ⟨⟨p0, p1, p2, p3, p4, p5⟩, ⟨x0, x1, x2, x3, x4, x5⟩, hel3⟩ := row6 he3; have DEL := tZ hdel; clear hown hgrow hat hdel he3) | (go_simp; go_at_fn N1; refine HC2.out.mono ?_; rintro r w2 ⟨N', cs', rfl, B1, B2, B3, n2, hs2⟩; obtain ⟨m2, m3⟩ := B3.out; have hel2 := Nat.lt_of_lt_of_le hel hs2))
 all_goals go_wp2_with (first | (go_at_call 136; refine DEL.out.mono ?_; rintro r w5 ⟨rfl, E5, F5⟩; obtain ⟨⟨k0, k1, k2, k3, k4, k5⟩, ⟨t0, t1, t2, t3, t4, t5⟩, hel5⟩ := row6 E5.out))
 all_goals refine bodyPost_ret (v := .int .i64 0) (by simp [results, Tryz.results101, go_sem]) (by simp [go_sem]) ?_
 all_goals exact ⟨rfl, F5.out⟩
end
end Go.Proofs.YtihgojcfpnhelaaGreatDoor
