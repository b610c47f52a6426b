import Derived.Test.YtihgojcfpnhelabGreatDoorS2Hi
set_option maxRecDepth 100000
set_option maxHeartbeats 4000000
set_option linter.unusedVariables false
set_option linter.unusedSimpArgs false
namespace Go.Proofs.YtihgojcfpnhelabGreatDoor
open Go.RowKit
section
variable {S S' S1 O : Nat → Prop} {e : Nat} {D D' : Nat → Prop} {σ σ0 σ1 : Sta} {v0 v1 v2 v3 v4 v5 v v' : Value} {te : TypeId} {w w' W w1 w2 w3 : World} {bs : List (List Wr)} {N : Nat → Nat} {cs : Nat → Array Value} {M : Nat} {dv uv gv : Value} {gr : List (List Wr)} {op : Bool} {N1 : Nat} {cs1 : Array Value} {us : List Wr}
theorem turnRedoW (l dn : List (List Wr)) (gf cf ct : Nat) (at_ : Option Addr) (h : EdX w e S D σ M (.slice at_ dn.length ct) (.slice (some ⟨gf, 0, none⟩) (l.length + 1) cf) gv dn (l ++ [us]) gr false) :
  Calls Tryz.prog 39 #[.pointer (some ⟨e, 1, none⟩), .pointer (some ⟨e, 3, none⟩), .pointer (some ⟨e, 2, none⟩)] w fun r w' => r = .returned (.int .i64 0) ∧ EdTo e (Ft S e D (.slice at_ dn.length ct) (.slice (some ⟨gf, 0, none⟩) (l.length + 1) cf) gv) (EdW e D (.slice at_ dn.length ct) (.slice (some ⟨gf, 0, none⟩) (l.length + 1) cf) gv) (runW us σ) M (dn ++ [invW us σ]) l gr false w w' := by
 obtain ⟨a, c, r1, r2, r3, he⟩ := h.ph.row
 obtain ⟨⟨e0, e1, e2, e3, e4, e5⟩, ⟨z0, z1, z2, z3, z4, z5⟩, hel⟩ := row6 he
 obtain ⟨i1, gi, gz0, gz1, gz2⟩ := info_parts infoBack
 obtain ⟨Nf, csf, hf⟩ := h.ru
 obtain ⟨Nt, cst, ht⟩ := h.rd
 have hM := h.hM
 have hll := h.len
 simp only [List.length_append, List.length_singleton] at hll
 have hbk : BkAt e D w S (Nf l.length) (csf l.length) us := by
  have := hf.bk l.length (by simp)
  rw [List.getD_eq_getElem?_getD, List.getElem?_append_right (Nat.le_refl _)] at this
  simpa using this
 have hfo : w.ownsRow 0 84 1 (.slice (some ⟨gf, 0, none⟩) (l.length + 1) cf) (l.length + 1) ((List.range (l.length + 1)).map fun j => fnV (Nf j) (csf j)) := by
  have := hf.own
  rw [List.length_append, List.length_singleton] at this
  exact this
 have hcl : w.cell? ⟨gf, l.length, none⟩ = some (.func (.func (Nf l.length)) #[] (csf l.length)) := by
  have := hfo.cellAt l.length (by simp)
  rw [this, List.getElem?_map, List.getElem?_range (by simp)]
  rfl
 have heg := hbk.enters
 have hge : gf ≠ e := (hf.ob gf rfl).2.1
 have hgtf : at_ ≠ none → (Value.slice at_ dn.length ct).ownBlock ≠ some gf := fun _ h1 => h.du gf h1 rfl
 have hgfl := hf.lt gf rfl
 have HFIN := tZ (show ∀ (N' : Nat) (cs' : Array Value) (w2 : World), (∃ S' : Nat → Prop, (∀ q, S q → S' q) ∧ (∀ q, S' q → S q ∨ w.heap.size ≤ q) ∧ EdX w2 e S' D (runW us σ) M (.slice at_ dn.length ct) (.slice (some ⟨gf, 0, none⟩) (l.length + 1) cf) gv dn (l ++ [us]) gr false ∧ BkAt e D w2 S' N' cs' (invW us σ) ∧ Ks (fun q => q = e ∨ D q) w w2) → ∀ (g' cap' : Nat) (w3 : World), w3.ownsRow 0 84 1 (.slice (some ⟨g', 0, none⟩) (dn.length + 1) cap') (dn.length + 1) (((List.range dn.length).map fun j => fnV (Nt j) (cst j)) ++ [.func (.func N') #[] cs']) → (w2.alloc (.cells #[.func (.func N') #[] cs'] 84)).grownBy w3 (Value.slice at_ dn.length ct).ownBlock → ((Value.slice at_ dn.length ct).ownBlock = some g' ∨ g' = w2.heap.size + 1) → w2.ownsRow 0 84 1 (.slice at_ dn.length ct) dn.length ((List.range dn.length).map fun j => fnV (Nt j) (cst j)) →
   ∃ a2 c2, w3.heap[e]? = some (.cells #[.slice a2 (runW us σ).ord.length c2, .int .i64 (M : Int), (.slice at_ dn.length ct), (.slice (some ⟨gf, 0, none⟩) (l.length + 1) cf), .bool false, gv] 65 (0, 0)) ∧ (∀ q, q ≠ e → True) ∧ Calls Tryz.prog 57 #[.slice (some ⟨gf, 0, none⟩) (l.length + 1) cf, .int .i64 (l.length : Int), .int .i64 ((l.length : Int) + 1)] (w3.setCell ⟨e, 2, none⟩ (.slice (some ⟨g', 0, none⟩) (dn.length + 1) cap')) fun r w5 => r = .returned (.slice (some ⟨gf, 0, none⟩) l.length cf) ∧ Hid (w5.heap[e]? = some (.cells #[.slice a2 (runW us σ).ord.length c2, .int .i64 (M : Int), (.slice (some ⟨g', 0, none⟩) (dn.length + 1) cap'), (.slice (some ⟨gf, 0, none⟩) (l.length + 1) cf), .bool false, gv] 65 (0, 0))) ∧ Hid (EdTo e (Ft S e D (.slice at_ dn.length ct) (.slice (some ⟨gf, 0, none⟩) (l.length + 1) cf) gv) (EdW e D (.slice at_ dn.length ct) (.slice (some ⟨gf, 0, none⟩) (l.length + 1) cf) gv) (runW us σ) M (dn ++ [invW us σ]) l gr false w (w5.setCell ⟨e, 3, none⟩ (.slice (some ⟨gf, 0, none⟩) l.length cf))) from by
  rintro N' cs' w2 ⟨S', s0, s1, hX, hbk', hk⟩ g' cap' w3 hown hgr hat ho2
  obtain ⟨a2, c2, k1, k2, k3, k4⟩ := hX.ph.row
  have hsz2 := hk.size
  have hsz3 := hgr.size
  simp at hsz3
  have hk3 : Ks (fun q => (Value.slice at_ dn.length ct).ownBlock = some q) w2 w3 := by
   refine ⟨hgr.os, hgr.tape, hgr.output, by omega, fun q hq hn => ?_⟩
   rw [hgr.block q (by simp; omega) (fun h => hn h.symm), Below.heap_alloc _ _ _ hq]
  have hnp : ∀ q, S q → ¬ (q = e ∨ D q) := h.ph.notP
  have blk02 : ∀ q, S q → w2.heap[q]? = w.heap[q]? := fun q hq => hk.block q (h.ph.still q hq) (hnp q hq)
  have mv : ∀ {v : Value} {bs : List (List Wr)} {N : Nat → Nat} {cs : Nat → Array Value}, RowB w S e D v bs N cs → RowB w2 S' e D v bs N cs := fun {v bs N cs} hr => (hr.keep hk blk02 fun q hq h2 => by
   rcases h2 with h2 | h2
   ·exact (hr.ob q hq).2.1 h2
   ·exact (hr.ob q hq).2.2 h2).wide s0 (fun _ h => h) fun q hq => ⟨fun hs => by
    rcases s1 q hs with h2 | h2
    ·exact (hr.ob q hq).1 h2
    ·have := hr.lt q hq; omega, (hr.ob q hq).2.2⟩
  have ht2 := mv ht
  have hf2 := mv hf
  obtain ⟨Ng, csg, hg⟩ := h.rg
  have hg2 := mv hg
  have hS' : ∀ q, S' q → q ≠ e := fun q hq e' => hX.ph.eS (e' ▸ hq)
  have hte : (Value.slice at_ dn.length ct).ownBlock ≠ some e := fun h1 => (ht.ob e h1).2.1 rfl
  have hel2 : e < w2.heap.size := by omega
  have hv : (Value.slice at_ dn.length ct).ownBlock = (Value.slice (some ⟨g', 0, none⟩) (dn.length + 1) cap').ownBlock ∨ ∃ q, (Value.slice (some ⟨g', 0, none⟩) (dn.length + 1) cap').ownBlock = some q ∧ w2.heap.size ≤ q := by
   rcases hat with h1 | h1
   ·exact Or.inl h1
   ·exact Or.inr ⟨g', rfl, by omega⟩
  have htf : (Value.slice at_ dn.length ct).ownBlock ≠ some gf := fun h1 => h.du gf h1 rfl
  have hg'f : g' ≠ gf := fun h1 => by
   rcases hat with h2 | h2
   ·exact htf (by rw [h2, h1])
   ·omega
  have hg'g : gv.ownBlock ≠ some g' := fun h1 => by
   rcases hat with h2 | h2
   ·exact h.dg g' h2 h1
   ·have := hg2.lt g' h1; omega
  have he3 : w3.heap[e]? = some (.cells #[.slice a2 (runW us σ).ord.length c2, .int .i64 (M : Int), (.slice at_ dn.length ct), (.slice (some ⟨gf, 0, none⟩) (l.length + 1) cf), .bool false, gv] 65 (0, 0)) := (hk3.block e hel2 hte).trans k4
  have blk23 : ∀ q, S' q → w3.heap[q]? = w2.heap[q]? := fun q hq => hk3.block q (hX.ph.still q hq) fun h1 => (ht2.ob q h1).1 hq
  have ht3 := (ht2.snoc hbk' hX.ph.still hel2 (fun q hq => (hX.ph.fld q hq).lt) hgr hown hv).atE hS' 2 (.slice (some ⟨g', 0, none⟩) (dn.length + 1) cap')
  have hf4 := (hf2.keep hk3 blk23 (fun q hq h1 => by simp [Value.ownBlock] at hq; subst hq; exact htf h1)).atE hS' 2 (.slice (some ⟨g', 0, none⟩) (dn.length + 1) cap')
  have hg4 := (hg2.keep hk3 blk23 (fun q hq h1 => h.dg q h1 hq)).atE hS' 2 (.slice (some ⟨g', 0, none⟩) (dn.length + 1) cap')
  have hp3 : PhS w3 S' e D (runW us σ) (.int .i64 (M : Int)) (.slice at_ dn.length ct) (.slice (some ⟨gf, 0, none⟩) (l.length + 1) cf) (.bool false) gv 65 := hX.ph.same (by
   rintro q (h1 | rfl | h1)
   ·exact blk23 q h1
   ·exact hk3.block _ hel2 hte
   ·exact hk3.block q (hX.ph.fld q h1).lt fun h2 => (ht2.ob q h2).2.2 h1) hk3.size
  have hk4 : Ks (fun q => q = e) w3 (w3.setCell ⟨e, 2, none⟩ (.slice (some ⟨g', 0, none⟩) (dn.length + 1) cap')) := (Ks.refl (fun q => q = e) w3).set e 2 _ rfl
  have hp4 : PhS (w3.setCell ⟨e, 2, none⟩ (.slice (some ⟨g', 0, none⟩) (dn.length + 1) cap')) S' e D (runW us σ) (.int .i64 (M : Int)) (.slice (some ⟨g', 0, none⟩) (dn.length + 1) cap') (.slice (some ⟨gf, 0, none⟩) (l.length + 1) cf) (.bool false) gv 65 := hp3.beside hk4 fun a c h1 => (setCell_block h1 2 _).trans rfl
  have he4 : (w3.setCell ⟨e, 2, none⟩ (.slice (some ⟨g', 0, none⟩) (dn.length + 1) cap')).heap[e]? = some (.cells #[.slice a2 (runW us σ).ord.length c2, .int .i64 (M : Int), (.slice (some ⟨g', 0, none⟩) (dn.length + 1) cap'), (.slice (some ⟨gf, 0, none⟩) (l.length + 1) cf), .bool false, gv] 65 (0, 0)) := (setCell_block he3 2 _).trans rfl
  generalize hw4 : w3.setCell ⟨e, 2, none⟩ (.slice (some ⟨g', 0, none⟩) (dn.length + 1) cap') = w4 at *
  refine ⟨a2, c2, he3, fun _ _ => trivial, ?_⟩
  have hfo4 : w4.ownsRow 0 84 1 (.slice (some ⟨gf, 0, none⟩) (l.length + 1) cf) (l.length + 1) ((List.range (l.length + 1)).map fun j => fnV (Nf j) (csf j)) := by
   have := hf4.own
   rw [List.length_append, List.length_singleton] at this
   exact this
  refine (deleteAt 0 gf cf l.length l.length _ w4 hfo4 (Nat.le_refl _) (by omega) (fun v hv => by
   obtain ⟨j, _, rfl⟩ := List.mem_map.1 hv
   rfl)).mono ?_
  rintro r w5 ⟨rfl, hk5, ho5⟩
  have hel4 : e < w4.heap.size := (Array.getElem?_eq_some_iff.1 he4).1
  have he5 := (hk5.block e hel4 (fun h1 => hge h1.symm)).trans he4
  have blk45 : ∀ q, S' q → w5.heap[q]? = w4.heap[q]? := fun q hq => hk5.block q (hp4.still q hq) fun h1 => (hf4.ob gf rfl).1 (h1 ▸ hq)
  have hp5 : PhS w5 S' e D (runW us σ) (.int .i64 (M : Int)) (.slice (some ⟨g', 0, none⟩) (dn.length + 1) cap') (.slice (some ⟨gf, 0, none⟩) (l.length + 1) cf) (.bool false) gv 65 := hp4.same (by
   rintro q (h1 | rfl | h1)
   ·exact blk45 q h1
   ·exact hk5.block _ hel4 (fun h1 => hge h1.symm)
   ·exact hk5.block q (hp4.fld q h1).lt fun h2 => (hf4.ob gf rfl).2.2 (h2 ▸ h1)) hk5.size
  have hk6 : Ks (fun q => q = e) w5 (w5.setCell ⟨e, 3, none⟩ (.slice (some ⟨gf, 0, none⟩) l.length cf)) := (Ks.refl (fun q => q = e) w5).set e 3 _ rfl
  have her : (l ++ [us]).eraseIdx l.length = l := by simp [List.eraseIdx_append_of_length_le]
  have hf6 := (hf4.erase (w2 := w5) (v' := .slice (some ⟨gf, 0, none⟩) l.length cf) (i := l.length) (by simp) blk45 (by
   rw [List.length_append, List.length_singleton, Nat.add_sub_cancel]
   exact ho5) rfl).atE hS' 3 (.slice (some ⟨gf, 0, none⟩) l.length cf)
  rw [her] at hf6
  have ht6 := (ht3.keep hk5 blk45 (fun q hq h1 => by simp [Value.ownBlock] at hq; subst hq; exact hg'f h1)).atE hS' 3 (.slice (some ⟨gf, 0, none⟩) l.length cf)
  have hg6 := (hg4.keep hk5 blk45 (fun q hq h1 => h.ug q (by rw [h1]; rfl) hq)).atE hS' 3 (.slice (some ⟨gf, 0, none⟩) l.length cf)
  refine ⟨rfl, he5, S', D, (.slice (some ⟨g', 0, none⟩) (dn.length + 1) cap'), (.slice (some ⟨gf, 0, none⟩) l.length cf), gv, ⟨hp5.beside hk6 fun a c h1 => (setCell_block h1 3 _).trans rfl, ⟨_, _, ht6⟩, ⟨_, _, hf6⟩, ⟨_, _, hg6⟩, fun q hq h1 => ?_, fun q hq h1 => ?_, fun q hq h1 => ?_, hM, by simp; omega⟩, ?_, ?_⟩
  ·simp [Value.ownBlock] at hq h1
   exact hg'f (by omega)
  ·simp [Value.ownBlock] at hq
   subst hq
   exact hg'g h1
  ·exact h.ug q hq h1
  ·rintro q (h1 | h1 | h1 | h1 | h1 | h1)
   ·exact (s1 q h1).imp (fun h2 => Or.inl h2) id
   ·exact Or.inl (Or.inr (Or.inl h1))
   ·exact Or.inl (Or.inr (Or.inr (Or.inl h1)))
   ·rcases hv with h2 | ⟨x, h2, h3⟩
    ·exact Or.inl (Or.inr (Or.inr (Or.inr (Or.inl (by rw [h2]; exact h1)))))
    ·rw [h2] at h1; cases h1; exact Or.inr (by omega)
   ·exact Or.inl (Or.inr (Or.inr (Or.inr (Or.inr (Or.inl h1)))))
   ·exact Or.inl (Or.inr (Or.inr (Or.inr (Or.inr (Or.inr h1)))))
  ·have kk : Ks (EdW e D (.slice at_ dn.length ct) (.slice (some ⟨gf, 0, none⟩) (l.length + 1) cf) gv) w w3 := (hk.wide fun q hq => by
    rcases hq with h1 | h1
    ·exact Or.inl h1
    ·exact Or.inr (Or.inl h1)).trans (hk3.wide fun q hq => Or.inr (Or.inr (Or.inl hq)))
   have kk4 : Ks (EdW e D (.slice at_ dn.length ct) (.slice (some ⟨gf, 0, none⟩) (l.length + 1) cf) gv) w w4 := by rw [← hw4]; exact kk.trans (((Ks.refl (fun q => q = e) w3).set e 2 _ rfl).wide fun q hq => Or.inl hq)
   exact (kk4.trans (hk5.wide fun q hq => Or.inr (Or.inr (Or.inr (Or.inl (by rw [show q = gf from hq]; rfl)))))).trans (hk6.wide fun q hq => Or.inl hq))
 have HCA := tZ (h.called hbk w.drew (Below.refl _ _).drew)
 have HT := tZ ht
 have HXX := tZ h
 have HFO := tZ hfo
 have hl6 : l.length ≤ 6 := by omega
 have ho6 : dn.length ≤ 6 := by omega
 have hwl : wrap64 ((l.length : Int) + 1 - 1) = (l.length : Int) := (wrap64_small l.length (by omega)).1
 have hwl2 : wrap64 ((l.length : Int) + 1) = (l.length : Int) + 1 := (wrap64_small l.length (by omega)).2
 have hil : (l.length : Int) < (l.length : Int) + 1 := Int.lt_succ _
 have hnn : ¬ (l.length : Int) < 0 := Int.not_lt.2 (Int.natCast_nonneg _)
 have HE := tZ he
 generalize hNf : Nf l.length = N1 at *
 generalize hcsf : csf l.length = cs1 at *
 clear h hf ht hbk hfo r1 r2 r3 he hll hgtf hM
 go_enter Tryz.func39, Tryz.ntmps39
 go_wp2_with fail
 have HC2 := tZ (HCA.out.mono (R' := fun r w2 => ∃ N' cs', r = .returned (.func (.func N') #[] cs') ∧ Hid (∃ S' : Nat → Prop, (∀ q, S q → S' q) ∧ (∀ q, S' q → S q ∨ w.heap.size ≤ q) ∧ EdX w2 e S' D (runW us σ) M (.slice at_ dn.length ct) (.slice (some ⟨gf, 0, none⟩) (l.length + 1) cf) gv dn (l ++ [us]) gr false ∧ BkAt e D w2 S' N' cs' (invW us σ) ∧ Ks (fun q => q = e ∨ D q) w w2) ∧ Hid (w2.ownsRow 0 84 1 (.slice at_ dn.length ct) dn.length ((List.range dn.length).map fun j => fnV (Nt j) (cst j))) ∧ Hid (w2.cell? ⟨e, 2, none⟩ = some (.slice at_ dn.length ct) ∧ w2.cell? ⟨e, 3, none⟩ = some (.slice (some ⟨gf, 0, none⟩) (l.length + 1) cf)) ∧ w2.cell? ⟨gf, l.length, none⟩ = some (.func (.func N1) #[] cs1) ∧ w.heap.size ≤ w2.heap.size) (by
  rintro r w2 ⟨N', cs', S', rfl, q0, q1, q2, q3, q4⟩
  have hk : Ks (fun q => q = e ∨ D q) w w2 := (Ks.of (Below.refl _ _).drew).trans q4
  obtain ⟨a2, c2, _, _, _, k4⟩ := q2.ph.row
  refine ⟨N', cs', rfl, ⟨S', q0, q1, q2, q3, hk⟩, own_ke HT.out.own hk fun q hq h2 => ?_, ⟨(row6 k4).1.2.2.1, (row6 k4).1.2.2.2.1⟩, ?_, hk.size⟩
  ·rcases h2 with h2 | h2
   ·exact (HT.out.ob q hq).2.1 h2
   ·exact (HT.out.ob q hq).2.2 h2
  ·refine (World.cell?_of_block (a := ⟨gf, l.length, none⟩) (hk.block gf hgfl ?_)).trans hcl
   rintro (h2 | h2)
   ·exact hge h2
   ·obtain ⟨N, cs, hr⟩ := HXX.out.ru
    exact (hr.ob gf rfl).2.2 h2))
 clear HCA HFO
 go_region_law (first | (refine step_append_lies _ (by rfl) (.tmp 24) (.tmp 32) 61 (by rfl) 0 84 i1 .nilFunc 1 8 Tryz.underlying61 gi gz0 gz1 gz2 rfl (by decide) (.slice at_ dn.length ct) dn.length _ (by rfl) (B2.out.alloc _) ⟨w2.heap.size, 0, none⟩ 1 1 [.func (.func N') #[] cs'] (by rfl) rfl (fun q u hq => cells_new w2 [.func (.func N') #[] cs'] 84 q u hq) (fun u hu => by simp at hu; subst hu; rfl) (by omega) (by unfold maxLen; omega) (by omega) (by omega) (w2.heap.size + 1) (by simp) ?_; intro g' cap' w3 hown hgrow hat hltg; obtain ⟨a2, c2, he3, _, hdel⟩ := HFIN.out N' cs' w2 B1.out g' cap' w3 hown hgrow hat B2.out; obtain ⟨⟨p0, p1, p2, p3, p4, p5⟩, ⟨x0, x1, x2, x3, x4, x5⟩, hel3⟩ := row6 he3; have DEL := tZ hdel; clear hown hgrow hat hdel he3) | (go_simp; go_at_fn N1; refine HC2.out.mono ?_; rintro r w2 ⟨N', cs', rfl, B1, B2, B3, n2, hs2⟩; obtain ⟨m2, m3⟩ := B3.out; have hel2 := Nat.lt_of_lt_of_le hel hs2))
 all_goals go_wp2_with (first | (go_at_call 57; refine DEL.out.mono ?_; rintro r w5 ⟨rfl, E5, F5⟩; obtain ⟨⟨k0, k1, k2, k3, k4, k5⟩, ⟨t0, t1, t2, t3, t4, t5⟩, hel5⟩ := row6 E5.out))
 all_goals refine bodyPost_ret (v := .int .i64 0) (by simp [results, Tryz.results39, go_sem]) (by simp [go_sem]) ?_
 all_goals exact ⟨rfl, F5.out⟩
end
section
variable {S S' S1 O : Nat → Prop} {e : Nat} {D D' : Nat → Prop} {σ σ0 σ1 : Sta} {v0 v1 v2 v3 v4 v5 v v' : Value} {te : TypeId} {w w' W w1 w2 w3 : World} {bs : List (List Wr)} {N : Nat → Nat} {cs : Nat → Array Value} {M : Nat} {dv uv gv : Value} {dn ud gr : List (List Wr)} {op : Bool} {N1 : Nat} {cs1 : Array Value} {us : List Wr}
theorem turnOpen (of : Nat) (af : Option Addr) (lf cf : Nat) (to_ : Value) (h4 : w.cell? ⟨e, 4, none⟩ = some (.bool true)) (hf : w.cell? ⟨e, of, none⟩ = some (.slice af lf cf)) :
  Calls Tryz.prog 39 #[.pointer (some ⟨e, 1, none⟩), .pointer (some ⟨e, of, none⟩), to_] w fun r w' => r = .returned (.int .i64 9) ∧ w' = w := by
 go_enter Tryz.func39, Tryz.ntmps39
 go_wp2
 refine bodyPost_ret (v := .int .i64 9) (by simp [results, Tryz.results39, go_sem]) (by simp [go_sem]) ?_
 exact ⟨rfl, rfl⟩
theorem turnNone (of : Nat) (af : Option Addr) (cf : Nat) (to_ : Value) (h4 : w.cell? ⟨e, 4, none⟩ = some (.bool false)) (hf : w.cell? ⟨e, of, none⟩ = some (.slice af 0 cf)) :
  Calls Tryz.prog 39 #[.pointer (some ⟨e, 1, none⟩), .pointer (some ⟨e, of, none⟩), to_] w fun r w' => r = .returned (.int .i64 11) ∧ w' = w := by
 go_enter Tryz.func39, Tryz.ntmps39
 go_wp2
 refine bodyPost_ret (v := .int .i64 11) (by simp [results, Tryz.results39, go_sem]) (by simp [go_sem]) ?_
 exact ⟨rfl, rfl⟩
theorem undoWalk (er : Int) (Q : World → Prop) (h : Calls Tryz.prog 39 #[.pointer (some ⟨e, 1, none⟩), .pointer (some ⟨e, 2, none⟩), .pointer (some ⟨e, 3, none⟩)] w.drew fun r w' => r = .returned (.int .i64 er) ∧ Q w') :
  Calls Tryz.prog 27 #[.pointer (some ⟨e, 1, none⟩)] w fun r w' => r = .returned (.int .i64 er) ∧ Q w' := by
 have H := tZ h
 clear h
 go_enter Tryz.func27, Tryz.ntmps27
 go_wp2_with fail
 go_region_with (first | (go_at_call 39; refine H.out.mono ?_; rintro r w1 ⟨rfl, hq⟩; have HQ := tZ hq; clear hq))
 all_goals go_wp2
 all_goals refine bodyPost_ret (v := .int .i64 er) (by simp [results, Tryz.results27, go_sem]) (by simp [go_sem]) ?_
 all_goals exact ⟨rfl, HQ.out⟩
theorem redoWalk (er : Int) (Q : World → Prop) (h : Calls Tryz.prog 39 #[.pointer (some ⟨e, 1, none⟩), .pointer (some ⟨e, 3, none⟩), .pointer (some ⟨e, 2, none⟩)] w.drew fun r w' => r = .returned (.int .i64 er) ∧ Q w') :
  Calls Tryz.prog 28 #[.pointer (some ⟨e, 1, none⟩)] w fun r w' => r = .returned (.int .i64 er) ∧ Q w' := by
 have H := tZ h
 clear h
 go_enter Tryz.func28, Tryz.ntmps28
 go_wp2_with fail
 go_region_with (first | (go_at_call 39; refine H.out.mono ?_; rintro r w1 ⟨rfl, hq⟩; have HQ := tZ hq; clear hq))
 all_goals go_wp2
 all_goals refine bodyPost_ret (v := .int .i64 er) (by simp [results, Tryz.results28, go_sem]) (by simp [go_sem]) ?_
 all_goals exact ⟨rfl, HQ.out⟩
structure HSt where
 σ : Sta
 dn : List (List Wr)
 ud : List (List Wr)
 gr : List (List Wr)
 op : Bool
def undoH (s : HSt) : Nat × HSt := if s.op = true then (9, s) else match s.dn.getLast? with
 | none => (11, s)
 | some us => (0, ⟨runW us s.σ, s.dn.dropLast, s.ud ++ [invW us s.σ], s.gr, false⟩)
def redoH (s : HSt) : Nat × HSt := if s.op = true then (9, s) else match s.ud.getLast? with
 | none => (11, s)
 | some us => (0, ⟨runW us s.σ, s.dn ++ [invW us s.σ], s.ud.dropLast, s.gr, false⟩)
theorem EdTo.undrew {F Wt : Nat → Prop} {σ' : Sta} {dn' ud' gr' : List (List Wr)} {op' : Bool} (h : EdTo e F Wt σ' M dn' ud' gr' op' w.drew w') : EdTo e F Wt σ' M dn' ud' gr' op' w w' :=
 h.trans (fun _ h => Or.inl h) (fun _ h => Or.inl h) (Ks.of (Below.refl _ _).drew)
theorem undoS (h : EdX w e S D σ M dv uv gv dn ud gr op) :
  Calls Tryz.prog 27 #[.pointer (some ⟨e, 1, none⟩)] w fun r w' => r = .returned (.int .i64 ((undoH ⟨σ, dn, ud, gr, op⟩).1 : Int)) ∧ EdTo e (Ft S e D dv uv gv) (EdW e D dv uv gv) (undoH ⟨σ, dn, ud, gr, op⟩).2.σ M (undoH ⟨σ, dn, ud, gr, op⟩).2.dn (undoH ⟨σ, dn, ud, gr, op⟩).2.ud (undoH ⟨σ, dn, ud, gr, op⟩).2.gr (undoH ⟨σ, dn, ud, gr, op⟩).2.op w w' := by
 replace h := h.next (Below.refl _ _).drew
 obtain ⟨a, c, r1, r2, r3, he⟩ := h.ph.row
 obtain ⟨⟨e0, e1, e2, e3, e4, e5⟩, _, _⟩ := row6 he
 obtain ⟨Nf, csf, hf⟩ := h.rd
 obtain ⟨Nt, cst, ht⟩ := h.ru
 obtain ⟨af, cf, rfl⟩ := own_len hf.own
 obtain ⟨at_, ct, rfl⟩ := own_len ht.own
 unfold undoH
 cases op with
 | true =>
  simp only [if_true]
  refine undoWalk 9 _ ((turnOpen 2 af _ cf _ e4 e2).mono ?_)
  rintro r w' ⟨rfl, rfl⟩
  exact ⟨rfl, (h.self (Below.refl _ _)).undrew⟩
 | false =>
  simp only [Bool.false_eq_true, if_false]
  cases hl : dn.getLast? with
  | none =>
   have hd : dn = [] := List.getLast?_eq_none_iff.1 hl
   subst hd
   refine undoWalk 11 _ ((turnNone 2 af cf _ e4 e2).mono ?_)
   rintro r w' ⟨rfl, rfl⟩
   exact ⟨rfl, (h.self (Below.refl _ _)).undrew⟩
  | some us =>
   obtain ⟨l, rfl⟩ := List.getLast?_eq_some_iff.1 hl
   obtain ⟨gf, cap, e', _, _⟩ := hf.own.form (by simp)
   cases e'
   have := turnUndoW (us := us) l ud gf cf ct at_ (by simpa using h)
   simp only [List.dropLast_concat, List.length_append, List.length_singleton]
   exact undoWalk 0 _ (this.mono fun r w' h => ⟨h.1, h.2.undrew⟩)
theorem redoS (h : EdX w e S D σ M dv uv gv dn ud gr op) :
  Calls Tryz.prog 28 #[.pointer (some ⟨e, 1, none⟩)] w fun r w' => r = .returned (.int .i64 ((redoH ⟨σ, dn, ud, gr, op⟩).1 : Int)) ∧ EdTo e (Ft S e D dv uv gv) (EdW e D dv uv gv) (redoH ⟨σ, dn, ud, gr, op⟩).2.σ M (redoH ⟨σ, dn, ud, gr, op⟩).2.dn (redoH ⟨σ, dn, ud, gr, op⟩).2.ud (redoH ⟨σ, dn, ud, gr, op⟩).2.gr (redoH ⟨σ, dn, ud, gr, op⟩).2.op w w' := by
 replace h := h.next (Below.refl _ _).drew
 obtain ⟨a, c, r1, r2, r3, he⟩ := h.ph.row
 obtain ⟨⟨e0, e1, e2, e3, e4, e5⟩, _, _⟩ := row6 he
 obtain ⟨Nf, csf, hf⟩ := h.ru
 obtain ⟨Nt, cst, ht⟩ := h.rd
 obtain ⟨af, cf, rfl⟩ := own_len hf.own
 obtain ⟨at_, ct, rfl⟩ := own_len ht.own
 unfold redoH
 cases op with
 | true =>
  simp only [if_true]
  refine redoWalk 9 _ ((turnOpen 3 af _ cf _ e4 e3).mono ?_)
  rintro r w' ⟨rfl, rfl⟩
  exact ⟨rfl, (h.self (Below.refl _ _)).undrew⟩
 | false =>
  simp only [Bool.false_eq_true, if_false]
  cases hl : ud.getLast? with
  | none =>
   have hd : ud = [] := List.getLast?_eq_none_iff.1 hl
   subst hd
   refine redoWalk 11 _ ((turnNone 3 af cf _ e4 e3).mono ?_)
   rintro r w' ⟨rfl, rfl⟩
   exact ⟨rfl, (h.self (Below.refl _ _)).undrew⟩
  | some us =>
   obtain ⟨l, rfl⟩ := List.getLast?_eq_some_iff.1 hl
   obtain ⟨gf, cap, e', _, _⟩ := hf.own.form (by simp)
   cases e'
   have := turnRedoW (us := us) l dn gf cf ct at_ (by simpa using h)
   simp only [List.dropLast_concat, List.length_append, List.length_singleton]
   exact redoWalk 0 _ (this.mono fun r w' h => ⟨h.1, h.2.undrew⟩)
end
section
structure Ab where
 M : Nat
 fs : List Fd
 past : List (List Fd)
 fut : List (List Fd)
 grp : Option (List Fd)
def Agree (D : Nat → Prop) (σ τ : Sta) : Prop := σ.ord = τ.ord ∧ ∀ q, D q → σ.mem q = τ.mem q
def WrIn (D : Nat → Prop) : Wr → Prop
 | .ord l => ∀ b, b ∈ l → D b
 | .nm b _ => D b
 | .rl b _ => D b
 | .vl b _ => D b
theorem BkAt.wrin {e : Nat} {D : Nat → Prop} {w : World} {S : Nat → Prop} {N : Nat} {cs : Array Value} {us : List Wr} (h : BkAt e D w S N cs us) : ∀ u, u ∈ us → WrIn D u := by
 induction h with
 | ord g1 g2 a c l h1 h2 h3 h4 h5 h6 h7 h8 => intro u hu; rw [List.mem_singleton.1 hu]; exact h8
 | nm g1 g2 b x h1 h2 h3 h4 h5 => intro u hu; rw [List.mem_singleton.1 hu]; exact h5
 | rl g1 g2 b p a l c h1 h2 h3 h4 h5 h6 h7 h8 h9 => intro u hu; rw [List.mem_singleton.1 hu]; exact h9
 | vl g1 g2 b v h1 h2 h3 h4 h5 => intro u hu; rw [List.mem_singleton.1 hu]; exact h5
 | all g a n c N cs us h1 h2 h3 h4 h5 h6 _ ih =>
  intro u hu
  obtain ⟨i, hi, hu'⟩ := List.mem_flatMap.1 hu
  exact ih i (List.mem_range.1 (List.mem_reverse.1 hi)) u hu'
theorem WrIn.wide {D D' : Nat → Prop} (hD : ∀ q, D q → D' q) : ∀ {u : Wr}, WrIn D u → WrIn D' u
 | .ord _, h => fun b hb => hD b (h b hb)
 | .nm _ _, h => hD _ h
 | .rl _ _, h => hD _ h
 | .vl _ _, h => hD _ h
theorem put_agree {D : Nat → Prop} {σ τ : Sta} (h : Agree D σ τ) (b : Nat) (f g : Fd) (hfg : f = g) : Agree D (σ.put b f) (τ.put b g) := by
 subst hfg
 refine ⟨h.1, fun q hq => ?_⟩
 by_cases e : q = b
 ·subst e; rw [put_mem, put_mem]
 ·rw [put_mem_ne _ _ _ _ e, put_mem_ne _ _ _ _ e]; exact h.2 q hq
theorem wr1_agree {D : Nat → Prop} {σ τ : Sta} (h : Agree D σ τ) (u : Wr) (hu : WrIn D u) : Agree D (wr1 σ u) (wr1 τ u) := by
 cases u with
 | ord l => exact ⟨rfl, h.2⟩
 | nm b x => exact put_agree h b _ _ (by rw [h.2 b hu])
 | rl b x => exact put_agree h b _ _ (by rw [h.2 b hu])
 | vl b x => exact put_agree h b _ _ (by rw [h.2 b hu])
theorem runW_agree {D : Nat → Prop} : ∀ (us : List Wr) {σ τ : Sta}, Agree D σ τ → (∀ u, u ∈ us → WrIn D u) → Agree D (runW us σ) (runW us τ)
 | [], _, _, h, _ => h
 | u :: r, _, _, h, hu => runW_agree r (wr1_agree h u (hu u (by simp))) fun v hv => hu v (by simp [hv])
theorem Agree.fs {D : Nat → Prop} {σ τ : Sta} (h : Agree D σ τ) (hs : ∀ b, b ∈ σ.ord → D b) : σ.fs = τ.fs := by
 unfold Sta.fs
 rw [← h.1]
 exact List.map_congr_left fun q hq => by rw [h.2 q (hs q hq)]
structure GSt (D : Nat → Prop) (σ : Sta) : Prop where
 nd : σ.ord.Nodup
 sub : ∀ b, b ∈ σ.ord → D b
 gf : GF (σ.fs.map Prod.snd)
 len : σ.ord.length ≤ 10
 nmo : ∀ f, f ∈ σ.fs.map Prod.snd → f.nm ≠ [] ∧ f.nm.length ≤ 6
theorem GSt.agree {D D' : Nat → Prop} {σ τ : Sta} (h : GSt D σ) (ha : Agree D σ τ) (hD : ∀ q, D q → D' q) : GSt D' τ := by
 have hf := ha.fs h.sub
 exact ⟨ha.1 ▸ h.nd, fun b hb => hD b (h.sub b (ha.1.symm ▸ hb)), hf ▸ h.gf, ha.1 ▸ h.len, hf ▸ h.nmo⟩
def ChA (D : Nat → Prop) : Sta → List (List Wr) → List (List Fd) → Prop
 | _, [], [] => True
 | σ, us :: r, o :: p => (∀ u, u ∈ us → WrIn D u) ∧ (runW us σ).fs.map Prod.snd = o ∧ GSt D (runW us σ) ∧ ChA D (runW us σ) r p
 | _, _, _ => False
theorem ChA.agree {D D' : Nat → Prop} (hD : ∀ q, D q → D' q) : ∀ {l : List (List Wr)} {p : List (List Fd)} {σ τ : Sta}, ChA D σ l p → Agree D σ τ → ChA D' τ l p
 | [], [], _, _, _, _ => trivial
 | us :: r, o :: p, σ, τ, h, ha => by
  obtain ⟨h1, h2, h3, h4⟩ := h
  have ha' := runW_agree us ha h1
  exact ⟨fun u hu => (h1 u hu).wide hD, by rw [← ha'.fs h3.sub]; exact h2, h3.agree ha' hD, h4.agree hD ha'⟩
 | [], _ :: _, _, _, h, _ => h.elim
 | _ :: _, [], _, _, h, _ => h.elim
theorem ChA.take {D : Nat → Prop} : ∀ (n : Nat) {l : List (List Wr)} {p : List (List Fd)} {σ : Sta}, ChA D σ l p → ChA D σ (l.take n) (p.take n)
 | 0, _, _, _, _ => trivial
 | n + 1, [], [], _, _ => trivial
 | n + 1, us :: r, o :: p, σ, h => ⟨h.1, h.2.1, h.2.2.1, h.2.2.2.take n⟩
 | _ + 1, [], _ :: _, _, h => h.elim
 | _ + 1, _ :: _, [], _, h => h.elim
structure Rep (a : Ab) (D : Nat → Prop) (σ : Sta) (dn ud gr : List (List Wr)) : Prop where
 gs : GSt D σ
 fs : a.fs = σ.fs.map Prod.snd
 gw : ∀ u, u ∈ gall gr → WrIn D u
 ok : match a.grp with
  | none => gr = [] ∧ ChA D σ dn.reverse a.past ∧ ChA D σ ud.reverse a.fut
  | some g => GSt D (runW (gall gr) σ) ∧ g = (runW (gall gr) σ).fs.map Prod.snd ∧ ChA D (runW (gall gr) σ) dn.reverse a.past ∧ ChA D (runW (gall gr) σ) ud.reverse a.fut
theorem keepL_rev (M : Nat) (dn : List (List Wr)) (us : List Wr) (h : dn.length ≤ M) : (keepL M dn us).reverse = (us :: dn.reverse).take M := by
 unfold keepL
 split
 ·rename_i h1
  have hM : dn.length = M := by omega
  cases dn with
  | nil =>
   simp at hM
   subst hM
   rfl
  | cons d r =>
   simp only [List.cons_append, List.eraseIdx_cons_zero, List.reverse_append, List.reverse_cons, List.reverse_nil, List.nil_append]
   rw [← hM]
   simp
 ·rename_i h1
  rw [List.take_of_length_le (by simp; omega)]
  simp
theorem Rep.edited {a : Ab} {D D' : Nat → Prop} {σ σ1 : Sta} {dn ud gr : List (List Wr)} {ws : List Wr} (h : Rep a D σ dn ud gr) (hD : ∀ q, D q → D' q) (ha : Agree D σ σ1) (hg : GSt D' (runW ws σ1)) (hw : ∀ u, u ∈ invW ws σ1 → WrIn D' u) (hl : dn.length ≤ a.M) :
  (a.grp = none → Rep ⟨a.M, (runW ws σ1).fs.map Prod.snd, (a.fs :: a.past).take a.M, [], none⟩ D' (runW ws σ1) (keepL a.M dn (invW ws σ1)) [] gr) ∧ (∀ g, a.grp = some g → Rep ⟨a.M, (runW ws σ1).fs.map Prod.snd, a.past, a.fut, some g⟩ D' (runW ws σ1) dn ud (gr ++ [invW ws σ1])) := by
 have hok := h.ok
 have hf := ha.fs h.gs.sub
 have hs1 : GSt D' σ1 := h.gs.agree ha hD
 refine ⟨fun hn => ?_, fun g hs => ?_⟩
 ·rw [hn] at hok
  obtain ⟨h1, h2, h3⟩ := hok
  refine ⟨hg, rfl, by rw [h1]; simp [gall], h1, ?_, trivial⟩
  rw [keepL_rev a.M dn _ hl]
  refine ChA.take a.M ⟨hw, ?_, ?_, ?_⟩
  ·rw [run_inv, ← hf, h.fs]
  ·rw [run_inv]; exact hs1
  ·rw [run_inv]; exact h2.agree hD ha
 ·rw [hs] at hok
  obtain ⟨h1, h2, h3, h4⟩ := hok
  have e1 : gall (gr ++ [invW ws σ1]) = invW ws σ1 ++ gall gr := by simp [gall]
  have e2 : runW (gall (gr ++ [invW ws σ1])) (runW ws σ1) = runW (gall gr) σ1 := by rw [e1, runW_app, run_inv]
  have hag : Agree D (runW (gall gr) σ) (runW (gall gr) σ1) := runW_agree _ ha h.gw
  refine ⟨hg, rfl, fun u hu => ?_, ?_, ?_, ?_, ?_⟩
  ·rw [e1] at hu
   rcases List.mem_append.1 hu with h5 | h5
   ·exact hw u h5
   ·exact (h.gw u h5).wide hD
  ·rw [e2]; exact h1.agree hag hD
  ·rw [e2, ← hag.fs h1.sub]; exact h2
  ·rw [e2]; exact h3.agree hD hag
  ·rw [e2]; exact h4.agree hD hag
def undoA (a : Ab) : Nat × Ab := match a.grp with
 | some _ => (9, a)
 | none => match a.past with
  | [] => (11, a)
  | o :: p => (0, ⟨a.M, o, p, a.fs :: a.fut, none⟩)
def redoA (a : Ab) : Nat × Ab := match a.grp with
 | some _ => (9, a)
 | none => match a.fut with
  | [] => (11, a)
  | o :: p => (0, ⟨a.M, o, a.fs :: a.past, p, none⟩)
theorem invW_wrin {D : Nat → Prop} : ∀ (us : List Wr) (σ : Sta), (∀ u, u ∈ us → WrIn D u) → (∀ b, b ∈ σ.ord → D b) → ∀ u, u ∈ invW us σ → WrIn D u
 | [], _, _, _, u, hu => by simp [invW] at hu
 | v :: r, σ, hv, hs, u, hu => by
  simp only [invW] at hu
  have hv1 := hv v (by simp)
  rcases List.mem_append.1 hu with h | h
  ·refine invW_wrin r (wr1 σ v) (fun x hx => hv x (by simp [hx])) ?_ u h
   cases v with
   | ord l => exact hv1
   | nm b x => exact hs
   | rl b x => exact hs
   | vl b x => exact hs
  ·rw [List.mem_singleton.1 h]
   cases v with
   | ord l => exact hs
   | nm b x => exact hv1
   | rl b x => exact hv1
   | vl b x => exact hv1
theorem Rep.undo {a : Ab} {D : Nat → Prop} {σ : Sta} {dn ud gr : List (List Wr)} (h : Rep a D σ dn ud gr) : (undoH ⟨σ, dn, ud, gr, a.grp.isSome⟩).1 = (undoA a).1 ∧ (undoA a).2.M = a.M ∧ (undoA a).2.grp = a.grp ∧ (undoH ⟨σ, dn, ud, gr, a.grp.isSome⟩).2.op = (undoA a).2.grp.isSome ∧ Rep (undoA a).2 D (undoH ⟨σ, dn, ud, gr, a.grp.isSome⟩).2.σ (undoH ⟨σ, dn, ud, gr, a.grp.isSome⟩).2.dn (undoH ⟨σ, dn, ud, gr, a.grp.isSome⟩).2.ud (undoH ⟨σ, dn, ud, gr, a.grp.isSome⟩).2.gr := by
 unfold undoH undoA
 cases hg : a.grp with
 | some g => simp [hg]; exact h
 | none =>
  have hok := h.ok
  rw [hg] at hok
  obtain ⟨h1, h2, h3⟩ := hok
  simp only [Option.isSome_none, Bool.false_eq_true, if_false]
  cases hl : dn.getLast? with
  | none =>
   have hd : dn = [] := List.getLast?_eq_none_iff.1 hl
   subst hd
   cases hp : a.past with
   | nil => simp [hg]; exact h
   | cons o p => rw [hp] at h2; exact h2.elim
  | some us =>
   obtain ⟨l, rfl⟩ := List.getLast?_eq_some_iff.1 hl
   rw [List.reverse_append] at h2
   cases hp : a.past with
   | nil => rw [hp] at h2; exact h2.elim
   | cons o p =>
    rw [hp] at h2
    obtain ⟨k1, k2, k3, k4⟩ := h2
    refine ⟨rfl, rfl, rfl, rfl, k3, k2.symm, by rw [h1]; simp [gall], h1, ?_, ?_⟩
    ·simp only [List.dropLast_concat]
     exact k4
    ·simp only [List.reverse_append, List.reverse_cons, List.reverse_nil, List.nil_append, List.singleton_append]
     refine ⟨invW_wrin us σ k1 h.gs.sub, ?_, ?_, ?_⟩
     ·rw [run_inv, h.fs]
     ·rw [run_inv]; exact h.gs
     ·rw [run_inv]; exact h3
theorem Rep.redo {a : Ab} {D : Nat → Prop} {σ : Sta} {dn ud gr : List (List Wr)} (h : Rep a D σ dn ud gr) : (redoH ⟨σ, dn, ud, gr, a.grp.isSome⟩).1 = (redoA a).1 ∧ (redoA a).2.M = a.M ∧ (redoA a).2.grp = a.grp ∧ (redoH ⟨σ, dn, ud, gr, a.grp.isSome⟩).2.op = (redoA a).2.grp.isSome ∧ Rep (redoA a).2 D (redoH ⟨σ, dn, ud, gr, a.grp.isSome⟩).2.σ (redoH ⟨σ, dn, ud, gr, a.grp.isSome⟩).2.dn (redoH ⟨σ, dn, ud, gr, a.grp.isSome⟩).2.ud (redoH ⟨σ, dn, ud, gr, a.grp.isSome⟩).2.gr := by
 unfold redoH redoA
 cases hg : a.grp with
 | some g => simp [hg]; exact h
 | none =>
  have hok := h.ok
  rw [hg] at hok
  obtain ⟨h1, h3, h2⟩ := hok
  simp only [Option.isSome_none, Bool.false_eq_true, if_false]
  cases hl : ud.getLast? with
  | none =>
   have hd : ud = [] := List.getLast?_eq_none_iff.1 hl
   subst hd
   cases hp : a.fut with
   | nil => simp [hg]; exact h
   | cons o p => rw [hp] at h2; exact h2.elim
  | some us =>
   obtain ⟨l, rfl⟩ := List.getLast?_eq_some_iff.1 hl
   rw [List.reverse_append] at h2
   cases hp : a.fut with
   | nil => rw [hp] at h2; exact h2.elim
   | cons o p =>
    rw [hp] at h2
    obtain ⟨k1, k2, k3, k4⟩ := h2
    refine ⟨rfl, rfl, rfl, rfl, k3, k2.symm, by rw [h1]; simp [gall], h1, ?_, ?_⟩
    ·simp only [List.reverse_append, List.reverse_cons, List.reverse_nil, List.nil_append, List.singleton_append]
     refine ⟨invW_wrin us σ k1 h.gs.sub, ?_, ?_, ?_⟩
     ·rw [run_inv, h.fs]
     ·rw [run_inv]; exact h.gs
     ·rw [run_inv]; exact h3
    ·simp only [List.dropLast_concat]
     exact k4
theorem Rep.begin {a : Ab} {D : Nat → Prop} {σ : Sta} {dn ud gr : List (List Wr)} (h : Rep a D σ dn ud gr) (hg : a.grp = none) : Rep ⟨a.M, a.fs, a.past, a.fut, some a.fs⟩ D σ dn ud gr := by
 have hok := h.ok
 rw [hg] at hok
 obtain ⟨h1, h2, h3⟩ := hok
 subst h1
 exact ⟨h.gs, h.fs, h.gw, h.gs, h.fs, h2, h3⟩
theorem Rep.commit {a : Ab} {D : Nat → Prop} {σ : Sta} {dn ud gr : List (List Wr)} {g : List Fd} (h : Rep a D σ dn ud gr) (hg : a.grp = some g) (hl : dn.length ≤ a.M) : Rep ⟨a.M, a.fs, (g :: a.past).take a.M, [], none⟩ D σ (keepL a.M dn (gall gr)) [] [] := by
 have hok := h.ok
 rw [hg] at hok
 obtain ⟨h1, h2, h3, h4⟩ := hok
 refine ⟨h.gs, h.fs, by simp [gall], rfl, ?_, trivial⟩
 rw [keepL_rev a.M dn _ hl]
 exact ChA.take a.M ⟨h.gw, h2.symm, h1, h3⟩
theorem Rep.cancel {a : Ab} {D : Nat → Prop} {σ : Sta} {dn ud gr : List (List Wr)} {g : List Fd} (h : Rep a D σ dn ud gr) (hg : a.grp = some g) : Rep ⟨a.M, g, a.past, a.fut, none⟩ D (runW (gall gr) σ) dn ud [] := by
 have hok := h.ok
 rw [hg] at hok
 obtain ⟨h1, h2, h3, h4⟩ := hok
 exact ⟨h1, h2, by simp [gall], rfl, h3, h4⟩
end
section
theorem runW_sub {D : Nat → Prop} : ∀ (us : List Wr) {σ : Sta}, (∀ b, b ∈ σ.ord → D b) → (∀ u, u ∈ us → WrIn D u) → ∀ b, b ∈ (runW us σ).ord → D b
 | [], _, h, _ => h
 | u :: r, σ, h, hu => runW_sub r (σ := wr1 σ u) (by
   have h1 := hu u (by simp)
   cases u with
   | ord l => exact h1
   | nm b x => exact h
   | rl b x => exact h
   | vl b x => exact h) fun v hv => hu v (by simp [hv])
theorem GSt.other {D D' : Nat → Prop} {σ : Sta} (h : GSt D σ) (hs : ∀ b, b ∈ σ.ord → D' b) : GSt D' σ := ⟨h.nd, hs, h.gf, h.len, h.nmo⟩
theorem ChA.other {D D' : Nat → Prop} : ∀ {l : List (List Wr)} {p : List (List Fd)} {σ : Sta}, ChA D σ l p → (∀ b, b ∈ σ.ord → D' b) → (∀ us, us ∈ l → ∀ u, u ∈ us → WrIn D' u) → ChA D' σ l p
 | [], [], _, _, _, _ => trivial
 | us :: r, o :: p, σ, h, hs, hw => by
  obtain ⟨h1, h2, h3, h4⟩ := h
  have hs' := runW_sub us hs (hw us (by simp))
  exact ⟨hw us (by simp), h2, h3.other hs', h4.other hs' fun vs hv => hw vs (by simp [hv])⟩
 | [], _ :: _, _, h, _, _ => h.elim
 | _ :: _, [], _, h, _, _ => h.elim
theorem gall_mem {gr : List (List Wr)} {u : Wr} (h : u ∈ gall gr) : ∃ us, us ∈ gr ∧ u ∈ us := by
 unfold gall at h
 obtain ⟨us, h1, h2⟩ := List.mem_flatten.1 h
 exact ⟨us, List.mem_reverse.1 h1, h2⟩
theorem Rep.other {a : Ab} {D D' : Nat → Prop} {σ : Sta} {dn ud gr : List (List Wr)} (h : Rep a D σ dn ud gr) (hs : ∀ b, b ∈ σ.ord → D' b) (hd : ∀ us, us ∈ dn → ∀ u, u ∈ us → WrIn D' u) (hu : ∀ us, us ∈ ud → ∀ u, u ∈ us → WrIn D' u) (hg : ∀ us, us ∈ gr → ∀ u, u ∈ us → WrIn D' u) : Rep a D' σ dn ud gr := by
 have hgw : ∀ u, u ∈ gall gr → WrIn D' u := fun u h1 => by
  obtain ⟨us, h2, h3⟩ := gall_mem h1
  exact hg us h2 u h3
 refine ⟨h.gs.other hs, h.fs, hgw, ?_⟩
 have hok := h.ok
 cases hc : a.grp with
 | none =>
  rw [hc] at hok
  obtain ⟨h1, h2, h3⟩ := hok
  exact ⟨h1, h2.other hs fun us h => hd us (List.mem_reverse.1 h), h3.other hs fun us h => hu us (List.mem_reverse.1 h)⟩
 | some g =>
  rw [hc] at hok
  obtain ⟨h1, h2, h3, h4⟩ := hok
  have hs' := runW_sub (gall gr) hs hgw
  exact ⟨h1.other hs', h2, h3.other hs' fun us h => hd us (List.mem_reverse.1 h), h4.other hs' fun us h => hu us (List.mem_reverse.1 h)⟩
variable {S S' S1 O : Nat → Prop} {e k : Nat} {D D' F F' P R T : Nat → Prop} {σ σ0 σ1 : Sta} {v0 v1 v2 v3 v4 v5 v v' : Value} {te : TypeId} {w w' W w1 w2 w3 : World} {bs : List (List Wr)} {N : Nat → Nat} {cs : Nat → Array Value} {M : Nat} {dv uv gv : Value} {dn ud gr : List (List Wr)} {op : Bool} {N1 : Nat} {cs1 : Array Value} {us : List Wr} {a : Ab}
theorem RowB.wrin (h : RowB w S e D v bs N cs) : ∀ us, us ∈ bs → ∀ u, u ∈ us → WrIn D u := fun us hus u hu => by
 obtain ⟨i, hi, rfl⟩ := List.getElem_of_mem hus
 have := (h.bk i hi).wrin u
 rw [List.getD_eq_getElem?_getD, List.getElem?_eq_getElem hi] at this
 exact this hu
theorem EdX.rep (h : EdX w e S D σ M dv uv gv dn ud gr op) (hr : Rep a D' σ dn ud gr) : Rep a D σ dn ud gr := by
 obtain ⟨_, _, h1⟩ := h.rd
 obtain ⟨_, _, h2⟩ := h.ru
 obtain ⟨_, _, h3⟩ := h.rg
 exact hr.other h.ph.sub h1.wrin h2.wrin h3.wrin
def EdA (w : World) (e : Nat) (F : Nat → Prop) (k : Nat) (a : Ab) : Prop :=
 ∃ S D σ dv uv gv dn ud gr, EdX w e S D σ a.M dv uv gv dn ud gr a.grp.isSome ∧ Rep a D σ dn ud gr ∧ gr.length ≤ k ∧ (∀ q, Ft S e D dv uv gv q → F q) ∧ ∀ q, F q → q < w.heap.size
theorem EdA.keep (h : EdA w e F k a) (hk : Ks P w w') (hP : ∀ q, F q → ¬ P q) : EdA w' e F k a := by
 obtain ⟨S, D, σ, dv, uv, gv, dn, ud, gr, h1, h2, h3, h4, h5⟩ := h
 exact ⟨S, D, σ, dv, uv, gv, dn, ud, gr, h1.keep hk (fun q hq => hP q (h4 q (Or.inl hq))) fun q hq => hP q (h4 q (Or.inr hq)), h2, h3, h4, fun q hq => Nat.lt_of_lt_of_le (h5 q hq) hk.size⟩
theorem EdA.next (h : EdA w e F k a) (hb : Below w.heap.size w w') : EdA w' e F k a := h.keep (P := fun _ => False) (Ks.of hb) fun _ _ h => h
theorem EdA.lt (h : EdA w e F k a) : ∀ q, F q → q < w.heap.size := by obtain ⟨S, D, σ, dv, uv, gv, dn, ud, gr, h1, h2, h3, h4, h5⟩ := h; exact h5
theorem EdA.more {k' : Nat} (h : EdA w e F k a) (hk : k ≤ k') : EdA w e F k' a := by
 obtain ⟨S, D, σ, dv, uv, gv, dn, ud, gr, h1, h2, h3, h4, h5⟩ := h
 exact ⟨S, D, σ, dv, uv, gv, dn, ud, gr, h1, h2, by omega, h4, h5⟩
theorem EdTo.at {F1 W1 : Nat → Prop} {dn' ud' gr' : List (List Wr)} {op' : Bool} {σ' : Sta} (h : EdTo e F1 W1 σ' a.M dn' ud' gr' op' w w') (hop : op' = a.grp.isSome) (hr : Rep a D σ' dn' ud' gr') (hg : gr'.length ≤ k) : Ks W1 w w' ∧ ∃ F', EdA w' e F' k a ∧ ∀ q, F' q → F1 q ∨ w.heap.size ≤ q := by
 obtain ⟨S', D', dv', uv', gv', h1, h2, h3⟩ := h
 subst hop
 exact ⟨h3, Ft S' e D' dv' uv' gv', ⟨S', D', σ', dv', uv', gv', dn', ud', gr', h1, h1.rep hr, hg, fun _ h => h, h1.ftLt⟩, h2⟩
def Res (F T : Nat → Prop) (e k : Nat) (a : Ab) (nm : List By) (w : World) (bn : Option Addr) (ln cn : Nat) (w' : World) : Prop :=
 ln = nm.length ∧ Ks F w w' ∧ w'.ownsRow w.heap.size 9 1 (.slice bn ln cn) ln (strs nm) ∧ ∃ F', EdA w' e F' k a ∧ (∀ q, F' q → F q ∨ w.heap.size ≤ q) ∧ (∀ q, (Value.slice bn ln cn).ownBlock = some q → ¬ F' q ∧ ¬ T q) ∧ ∀ q, T q → ¬ F' q
variable {nm : List By} {bn : Option Addr} {ln cn : Nat}
theorem Res.set (h : Res F T e k a nm w bn ln cn w') {t : Nat} (ht : T t) (hw : w.heap.size ≤ t) (j : Nat) (u : Value) : Res F T e k a nm w bn ln cn (w'.setCell ⟨t, j, none⟩ u) := by
 obtain ⟨h1, h2, h3, F', h4, h5, h6, h7⟩ := h
 have hk : Ks (fun q => q = t) w' (w'.setCell ⟨t, j, none⟩ u) := (Ks.refl _ _).set t j u rfl
 refine ⟨h1, ⟨hk.os.trans h2.os, hk.tape.trans h2.tape, hk.output.trans h2.output, Nat.le_trans h2.size hk.size, fun q hq hn => (hk.block q (by have := h2.size; omega) (by omega)).trans (h2.block q hq hn)⟩, own_ke h3 hk fun q hq e' => (h6 q hq).2 (e' ▸ ht), F', h4.keep hk fun q hq e' => h7 t ht (e' ▸ hq), h5, h6, h7⟩
theorem Res.less {T' : Nat → Prop} (h : Res F T e k a nm w bn ln cn w') (hT : ∀ q, T' q → T q) : Res F T' e k a nm w bn ln cn w' := by
 obtain ⟨h1, h2, h3, F', h4, h5, h6, h7⟩ := h
 exact ⟨h1, h2, h3, F', h4, h5, fun q hq => ⟨(h6 q hq).1, fun ht => (h6 q hq).2 (hT q ht)⟩, fun q hq => h7 q (hT q hq)⟩
theorem Res.base (h : Res P T e k a nm w bn ln cn w') {w0 : World} (hb : Below w0.heap.size w0 w) (hF : ∀ q, P q → F q ∨ w0.heap.size ≤ q) : Res F T e k a nm w0 bn ln cn w' := by
 obtain ⟨h1, h2, h3, F', h4, h5, h6, h7⟩ := h
 refine ⟨h1, ⟨h2.os.trans hb.os, h2.tape.trans hb.tape, h2.output.trans hb.output, Nat.le_trans hb.size h2.size, fun q hq hn => (h2.block q (by have := hb.size; omega) fun hp => ?_).trans (hb.block q hq)⟩, own_base h3 hb.size, F', h4, fun q hq => ?_, h6, h7⟩
 ·rcases hF q hp with h8 | h8
  ·exact hn h8
  ·omega
 ·rcases h5 q hq with h8 | h8
  ·exact hF q h8
  ·exact Or.inr (Nat.le_trans hb.size h8)
def failA (a : Ab) : Ab := match a.grp with
 | none => a
 | some g => ⟨a.M, g, a.past, a.fut, none⟩
def doneA (a : Ab) (fs : List Fd) : Ab := match a.grp with
 | none => ⟨a.M, fs, (a.fs :: a.past).take a.M, [], none⟩
 | some g => ⟨a.M, fs, a.past, a.fut, some g⟩
def editA (a : Ab) : AR → Ab
 | .ok fs _ => doneA a fs
 | .err _ _ => failA a
def AR.code : AR → Nat
 | .ok _ _ => 0
 | .err c _ => c
def AR.names : AR → List By
 | .ok _ n => n
 | .err _ n => n
def midA (a : Ab) : AR → Ab
 | .ok fs _ => doneA a fs
 | .err _ _ => a
theorem EdA.cancel (h : EdA w e F k a) (hk : k < 1000000000000) : Calls Tryz.prog 17 #[.pointer (some ⟨e, 1, none⟩)] w fun r w' => (∃ x, r = .returned (.int .i64 x)) ∧ Ks F w w' ∧ ∃ F', EdA w' e F' k (failA a) ∧ ∀ q, F' q → F q ∨ w.heap.size ≤ q := by
 obtain ⟨S, D, σ, dv, uv, gv, dn, ud, gr, h1, h2, h3, h4, h5⟩ := h
 unfold failA
 cases hg : a.grp with
 | none =>
  rw [hg] at h1
  refine (cancelShut h1).mono ?_
  rintro r w' ⟨rfl, h6⟩
  obtain ⟨h7, F', h8, h9⟩ := h6.at (k := k) (by rw [hg]; rfl) h2 h3
  exact ⟨⟨_, rfl⟩, h7.wide fun q hq => h4 q (Or.inr hq), F', h8, fun q hq => (h9 q hq).imp_left (h4 q)⟩
 | some g =>
  rw [hg] at h1
  refine (cancelOpen h1 (by omega)).mono ?_
  rintro r w' ⟨rfl, h6⟩
  obtain ⟨h7, F', h8, h9⟩ := EdTo.at (a := ⟨a.M, g, a.past, a.fut, none⟩) (k := k) h6 rfl (h2.cancel hg) (by simp)
  exact ⟨⟨_, rfl⟩, h7.wide fun q hq => h4 q (Or.inr hq), F', h8, fun q hq => (h9 q hq).imp_left (h4 q)⟩
theorem Res.cancel {w0 : World} (h : Res F T e k a nm w0 bn ln cn w) (hk : k < 1000000000000) (hT : ∀ q, T q → q < w.heap.size) : Calls Tryz.prog 17 #[.pointer (some ⟨e, 1, none⟩)] w fun r w' => (∃ x, r = .returned (.int .i64 x)) ∧ (∀ q, T q → w'.heap[q]? = w.heap[q]?) ∧ Res F T e k (failA a) nm w0 bn ln cn w' := by
 obtain ⟨h1, h2, h3, F', h4, h5, h6, h7⟩ := h
 refine (h4.cancel hk).mono ?_
 rintro r w' ⟨h8, h9, F2, h10, h11⟩
 have hsz := h2.size
 refine ⟨h8, fun q hq => h9.block q (hT q hq) (h7 q hq), h1, ⟨h9.os.trans h2.os, h9.tape.trans h2.tape, h9.output.trans h2.output, Nat.le_trans h2.size h9.size, fun q hq hn => (h9.block q (by omega) fun hp => ?_).trans (h2.block q hq hn)⟩, own_ke h3 h9 fun q hq => (h6 q hq).1, F2, h10, fun q hq => ?_, fun q hq => ⟨fun h => ?_, (h6 q hq).2⟩, fun q hq h => ?_⟩
 ·rcases h5 q hp with h12 | h12
  ·exact hn h12
  ·omega
 ·rcases h11 q hq with h12 | h12
  ·exact h5 q h12
  ·exact Or.inr (by omega)
 ·rcases h11 q h with h12 | h12
  ·exact (h6 q hq).1 h12
  ·have := (h3.lt q hq).2; omega
 ·rcases h11 q h with h12 | h12
  ·exact h7 q hq h12
  ·have := hT q hq; omega
end
end Go.Proofs.YtihgojcfpnhelabGreatDoor
