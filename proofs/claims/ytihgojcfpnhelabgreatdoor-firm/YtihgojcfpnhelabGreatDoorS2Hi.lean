import Derived.Test.YtihgojcfpnhelabGreatDoorS2Hb
set_option maxRecDepth 100000
set_option maxHeartbeats 4000000
set_option linter.unusedVariables false
set_option linter.unusedSimpArgs false
namespace Go.Proofs.YtihgojcfpnhelabGreatDoor
open Go.RowKit
section
variable {S S' S1 O : Nat → Prop} {e : Nat} {D D' : Nat → Prop} {σ σ0 σ1 : Sta} {v0 v1 v2 v3 v4 v5 v v' : Value} {te : TypeId} {w w' W w1 w2 w3 : World} {bs : List (List Wr)} {N : Nat → Nat} {cs : Nat → Array Value}
def keepL (M : Nat) (dn : List (List Wr)) (us : List Wr) : List (List Wr) := if M < dn.length + 1 then (dn ++ [us]).eraseIdx 0 else dn ++ [us]
def KeepS (S : Nat → Prop) (e : Nat) (D : Nat → Prop) (M : Nat) (v0 dv v4 v5 : Value) (te : TypeId) (bs : List (List Wr)) (w : World) (r : Ending) (w' : World) : Prop :=
 ∃ (dv' : Value) (N' : Nat → Nat) (cs' : Nat → Array Value), r = .returned (.tuple #[]) ∧ w'.heap[e]? = some (.cells #[v0, .int .i64 (M : Int), dv', .slice none 0 0, v4, v5] te (0, 0)) ∧ RowB w' S e D dv' bs N' cs' ∧ (dv.ownBlock = dv'.ownBlock ∨ ∃ g, dv'.ownBlock = some g ∧ w.heap.size ≤ g) ∧ Ks (fun q => q = e ∨ dv.ownBlock = some q) w w'
theorem keepS (M : Nat) (ad : Option Addr) (ld cd : Nat) (au : Option Addr) (lu cu : Nat) (N1 : Nat) (cs1 : Array Value) (us : List Wr) (he : w.heap[e]? = some (.cells #[v0, .int .i64 (M : Int), .slice ad ld cd, .slice au lu cu, v4, v5] te (0, 0))) (hd : RowB w S e D (.slice ad ld cd) bs N cs) (hbk : BkAt e D w S N1 cs1 us) (hS : ∀ q, S q → q < w.heap.size ∧ q ≠ e) (hD : ∀ q, D q → q < w.heap.size) (hM : M ≤ 6) (hn : bs.length ≤ M) :
  Calls Tryz.prog 38 #[.pointer (some ⟨e, 1, none⟩), .func (.func N1) #[] cs1] w (KeepS S e D M v0 (.slice ad ld cd) v4 v5 te (keepL M bs us) w) := by
 obtain ⟨⟨e0, e1, e2, e3, e4, e5⟩, ⟨z0, z1, z2, z3, z4, z5⟩, hel⟩ := row6 he
 obtain ⟨i1, gi, gz0, gz1, gz2⟩ := info_parts infoBack
 have hne : (Value.slice ad ld cd).ownBlock ≠ some e := fun h1 => (hd.ob e h1).2.1 rfl
 have HO := tZ (own_setNe (j := 3) (u := .slice none 0 0) hd.own hne)
 have HE := tZ he
 have HD := tZ hd
 have HSS := tZ hS
 have HDD := tZ hD
 have HBK := tZ hbk
 have hn7 : bs.length ≤ 6 := by omega
 clear hd he hS hD hbk
 go_enter Tryz.func38, Tryz.ntmps38
 go_wp2_with (first | (at_builtin; refine wpList_append_lies _ rfl (.tmp 11) (.tmp 13) 61 rfl 0 84 i1 .nilFunc 1 8 Tryz.underlying61 gi gz0 gz1 gz2 rfl (by decide) (.slice ad ld cd) bs.length _ rfl (HO.out.alloc _) ⟨w.heap.size, 0, none⟩ 1 1 [.func (.func N1) #[] cs1] rfl rfl (fun q u hq => by have := cells_new (w.setCell ⟨e, 3, none⟩ (.slice none 0 0)) [.func (.func N1) #[] cs1] 84 q u hq; simpa using this) (fun u hu => by simp at hu; subst hu; rfl) (by omega) (by unfold maxLen; omega) (by omega) (by omega) (w.heap.size + 1) (by simp) ?_; intro g cap w2 hown hgrow hat hlt; refine Hid.out ?_))
 have hge : g ≠ e := by
  rcases hat with h | h
  ·intro e'; rw [e'] at h; exact hne h
  ·omega
 have hge' : e ≠ g := fun h => hge h.symm
 have hrow2 : w2.heap[e]? = some (.cells #[v0, .int .i64 (M : Int), .slice ad ld cd, .slice none 0 0, v4, v5] te (0, 0)) := by
  rw [hgrow.block e (by simp; omega) (fun h => hne h.symm), Below.heap_alloc _ _ _ (by simpa using hel), setCell_block HE.out]
  rfl
 obtain ⟨⟨k0, k1, k2, k3, k4, k5⟩, ⟨y0, y1, y2, y3, y4, y5⟩, hel2⟩ := row6 hrow2
 have hsz2 := hgrow.size
 simp at hsz2
 have kA : Ks (fun q => q = e ∨ (Value.slice ad ld cd).ownBlock = some q) w (((w.setCell ⟨e, 3, none⟩ (.slice none 0 0)).alloc (.cells #[.func (.func N1) #[] cs1] 84))) := ((Ks.refl _ w).set e 3 _ (Or.inl rfl)).alloc _
 have kB : Ks (fun q => q = e ∨ (Value.slice ad ld cd).ownBlock = some q) ((w.setCell ⟨e, 3, none⟩ (.slice none 0 0)).alloc (.cells #[.func (.func N1) #[] cs1] 84)) w2 := ⟨hgrow.os, hgrow.tape, hgrow.output, hgrow.size, fun k hk hn => hgrow.block k hk (fun h => hn (Or.inr h.symm))⟩
 have hkk := kA.trans kB
 have hblkS : ∀ q, S q → w2.heap[q]? = w.heap[q]? := fun q hq => hkk.block q (HSS.out q hq).1 (by
  rintro (h1 | h1)
  ·exact (HSS.out q hq).2 h1
  ·exact (HD.out.ob q h1).1 hq)
 have hrb : RowB w2 S e D (.slice (some ⟨g, 0, none⟩) (bs.length + 1) cap) (bs ++ [us]) (fun j => if j = bs.length then N1 else N j) (fun j => if j = bs.length then cs1 else cs j) := by
  have hd1 : RowB (w.setCell ⟨e, 3, none⟩ (.slice none 0 0)) S e D (.slice ad ld cd) bs N cs := HD.out.keep (P := fun q => q = e) ((Ks.refl (fun q => q = e) w).set e 3 _ rfl) (fun q hq => Below.heap_setCell _ _ _ _ (HSS.out q hq).2) fun q hq => (HD.out.ob q hq).2.1
  refine hd1.snoc (HBK.out.next fun q hq => Below.heap_setCell _ _ _ _ (HSS.out q hq).2) (fun q hq => by simpa using (HSS.out q hq).1) (by simpa using hel) (fun q hq => by simpa using HDD.out q hq) hgrow hown ?_
  rcases hat with h | h
  ·exact Or.inl h
  ·exact Or.inr ⟨g, rfl, by simp; omega⟩
 have hat2 : (Value.slice ad ld cd).ownBlock = some g ∨ w.heap.size ≤ g := hat.imp id fun h => by omega
 have HRB := tZ hrb
 have HKK := tZ hkk
 have HR2 := tZ hrow2
 have HAT := tZ hat2
 clear hown hgrow hat hrow2 hrb hkk kA kB hblkS hat2
 refine tZ ?_
 by_cases hroom : M < bs.length + 1
 ·have hMz : (M : Int) < (bs.length : Int) + 1 := by omega
  have HD2 := tZ (deleteAt 0 g cap 0 bs.length _ (w2.setCell ⟨e, 2, none⟩ (.slice (some ⟨g, 0, none⟩) (bs.length + 1) cap)).drew (by
   have := own_setNe (j := 2) (u := .slice (some ⟨g, 0, none⟩) (bs.length + 1) cap) (q := e) HRB.out.own (by simp [Value.ownBlock]; exact hge)
   rw [List.length_append, List.length_singleton] at this
   exact own_below this (Below.refl _ _).drew) (Nat.zero_le _) (by omega) (fun v hv => by
   obtain ⟨j, _, rfl⟩ := List.mem_map.1 hv
   rfl))
  have HFIN := tZ (show ∀ w3, Ks (fun q => q = g) (w2.setCell ⟨e, 2, none⟩ (.slice (some ⟨g, 0, none⟩) (bs.length + 1) cap)).drew w3 → w3.ownsRow 0 84 1 (.slice (some ⟨g, 0, none⟩) bs.length cap) bs.length (((List.range (bs.length + 1)).map fun j => fnV (if j = bs.length then N1 else N j) (if j = bs.length then cs1 else cs j)).eraseIdx 0) → w3.heap[e]? = some (.cells #[v0, .int .i64 (M : Int), .slice (some ⟨g, 0, none⟩) (bs.length + 1) cap, .slice none 0 0, v4, v5] te (0, 0)) ∧ KeepS S e D M v0 (.slice ad ld cd) v4 v5 te (keepL M bs us) w (.returned (.tuple #[])) (w3.setCell ⟨e, 2, none⟩ (.slice (some ⟨g, 0, none⟩) bs.length cap)) from fun w3 hk3 ho3 => by
   have hr3 : w3.heap[e]? = some (.cells #[v0, .int .i64 (M : Int), .slice (some ⟨g, 0, none⟩) (bs.length + 1) cap, .slice none 0 0, v4, v5] te (0, 0)) := by
    rw [hk3.block e (by simpa using hel2) (fun h => hge' h)]
    show (w2.setCell ⟨e, 2, none⟩ (.slice (some ⟨g, 0, none⟩) (bs.length + 1) cap)).heap[e]? = _
    rw [setCell_block HR2.out]
    rfl
   have hblk : ∀ q, S q → (w3.setCell ⟨e, 2, none⟩ (.slice (some ⟨g, 0, none⟩) bs.length cap)).heap[q]? = w2.heap[q]? := fun q hq => by
    have hqe := (HSS.out q hq).2
    rw [Below.heap_setCell _ _ _ _ hqe, hk3.block q (by have := (HSS.out q hq).1; simp; omega) (fun h => (HRB.out.ob g rfl).1 (h ▸ hq))]
    show (w2.setCell ⟨e, 2, none⟩ (.slice (some ⟨g, 0, none⟩) (bs.length + 1) cap)).heap[q]? = _
    exact Below.heap_setCell _ _ _ _ hqe
   have hlen : (bs ++ [us]).length = bs.length + 1 := by simp
   have hrb3 := HRB.out.erase (w2 := w3.setCell ⟨e, 2, none⟩ (.slice (some ⟨g, 0, none⟩) bs.length cap)) (v' := .slice (some ⟨g, 0, none⟩) bs.length cap) (i := 0) (by rw [hlen]; omega) hblk (by
    rw [hlen, Nat.add_sub_cancel]
    exact own_setNe ho3 (by simp [Value.ownBlock]; exact hge)) rfl
   refine ⟨hr3, .slice (some ⟨g, 0, none⟩) bs.length cap, _, _, rfl, (setCell_block hr3 _ _).trans rfl, by unfold keepL; rw [if_pos hroom]; exact hrb3, ?_, ?_⟩
   ·rcases HAT.out with h | h
    ·exact Or.inl h
    ·exact Or.inr ⟨g, rfl, h⟩
   ·have k3 : Ks (fun q => q = e ∨ (Value.slice ad ld cd).ownBlock = some q) w (w2.setCell ⟨e, 2, none⟩ (.slice (some ⟨g, 0, none⟩) (bs.length + 1) cap)).drew := (HKK.out.set e 2 _ (Or.inl rfl)).trans (Ks.of (Below.refl _ _).drew)
    have k5 : Ks (fun q => q = e ∨ (Value.slice ad ld cd).ownBlock = some q) w w3 := by
     refine ⟨hk3.os.trans k3.os, hk3.tape.trans k3.tape, hk3.output.trans k3.output, Nat.le_trans k3.size hk3.size, fun k hk hn => ?_⟩
     rw [hk3.block k (Nat.lt_of_lt_of_le hk k3.size) (fun h => ?_)]
     ·exact k3.block k hk hn
     ·rcases HAT.out with h' | h'
      ·exact hn (Or.inr (by rw [h', h]))
      ·omega
    exact k5.set e 2 _ (Or.inl rfl))
  clear HO HE HD HBK
  go_wp2_with fail
  go_region
  all_goals go_wp2_with (first | (go_at_call 57; refine HD2.out.mono ?_; rintro r w3 ⟨rfl, hk3, ho3⟩; refine Hid.out ?_))
  all_goals obtain ⟨hr3, hpost⟩ := HFIN.out w3 hk3 (by simpa using ho3)
  all_goals obtain ⟨⟨p0, p1, p2, p3, p4, p5⟩, ⟨x0, x1, x2, x3, x4, x5⟩, hel3⟩ := row6 hr3
  all_goals have HP := tZ hpost
  all_goals clear hk3 ho3 hr3 hpost
  all_goals refine tZ ?_
  all_goals go_wp2
  all_goals refine bodyPost_ret (v := .tuple #[]) (by simp [results, Tryz.results38, go_sem]) rfl ?_
  all_goals exact HP.out
 ·have hMz : ¬ (M : Int) < (bs.length : Int) + 1 := by omega
  have HFIN := tZ (show KeepS S e D M v0 (.slice ad ld cd) v4 v5 te (keepL M bs us) w (.returned (.tuple #[])) (w2.setCell ⟨e, 2, none⟩ (.slice (some ⟨g, 0, none⟩) (bs.length + 1) cap)).drew from by
   have hrb3 := HRB.out.keep (P := fun q => q = e) (w' := (w2.setCell ⟨e, 2, none⟩ (.slice (some ⟨g, 0, none⟩) (bs.length + 1) cap)).drew) (((Ks.refl (fun q => q = e) w2).set e 2 _ rfl).trans (Ks.of (Below.refl _ _).drew)) (fun q hq => Below.heap_setCell _ _ _ _ (HSS.out q hq).2) fun q hq => (HRB.out.ob q hq).2.1
   refine ⟨.slice (some ⟨g, 0, none⟩) (bs.length + 1) cap, _, _, rfl, (setCell_block HR2.out _ _).trans rfl, by unfold keepL; rw [if_neg hroom]; exact hrb3, ?_, (HKK.out.set e 2 _ (Or.inl rfl)).trans (Ks.of (Below.refl _ _).drew)⟩
   ·rcases HAT.out with h | h
    ·exact Or.inl h
    ·exact Or.inr ⟨g, rfl, h⟩)
  clear HO HE HD HBK
  go_wp2_with fail
  go_region
  all_goals go_wp2
  all_goals refine bodyPost_ret (v := .tuple #[]) (by simp [results, Tryz.results38, go_sem]) rfl ?_
  all_goals exact HFIN.out
end
section
structure EdX (w : World) (e : Nat) (S D : Nat → Prop) (σ : Sta) (M : Nat) (dv uv gv : Value) (dn ud gr : List (List Wr)) (op : Bool) : Prop where
 ph : PhS w S e D σ (.int .i64 (M : Int)) dv uv (.bool op) gv 65
 rd : ∃ N cs, RowB w S e D dv dn N cs
 ru : ∃ N cs, RowB w S e D uv ud N cs
 rg : ∃ N cs, RowB w S e D gv gr N cs
 du : ∀ q, dv.ownBlock = some q → uv.ownBlock ≠ some q
 dg : ∀ q, dv.ownBlock = some q → gv.ownBlock ≠ some q
 ug : ∀ q, uv.ownBlock = some q → gv.ownBlock ≠ some q
 hM : M ≤ 6
 len : dn.length + ud.length ≤ M
variable {S S' S1 O : Nat → Prop} {e : Nat} {D D' : Nat → Prop} {σ σ0 σ1 : Sta} {v0 v1 v2 v3 v4 v5 v v' : Value} {te : TypeId} {w w' W w1 w2 w3 : World} {bs : List (List Wr)} {N : Nat → Nat} {cs : Nat → Array Value} {M : Nat} {dv uv gv : Value} {dn ud gr : List (List Wr)} {op : Bool}
def EdW (e : Nat) (D : Nat → Prop) (dv uv gv : Value) (q : Nat) : Prop := q = e ∨ D q ∨ dv.ownBlock = some q ∨ uv.ownBlock = some q ∨ gv.ownBlock = some q
theorem EdX.notW (h : EdX w e S D σ M dv uv gv dn ud gr op) : ∀ q, S q → ¬ EdW e D dv uv gv q := by
 rintro q hq (h1 | h1 | h1 | h1 | h1)
 ·exact h.ph.eS (h1 ▸ hq)
 ·exact (h.ph.fld q h1).1 hq
 ·obtain ⟨N, cs, hr⟩ := h.rd; exact (hr.ob q h1).1 hq
 ·obtain ⟨N, cs, hr⟩ := h.ru; exact (hr.ob q h1).1 hq
 ·obtain ⟨N, cs, hr⟩ := h.rg; exact (hr.ob q h1).1 hq
theorem EdX.ltW (h : EdX w e S D σ M dv uv gv dn ud gr op) : ∀ q, EdW e D dv uv gv q → q < w.heap.size := by
 rintro q (h1 | h1 | h1 | h1 | h1)
 ·rw [h1]; exact h.ph.lt
 ·exact (h.ph.fld q h1).lt
 ·obtain ⟨N, cs, hr⟩ := h.rd; exact hr.lt q h1
 ·obtain ⟨N, cs, hr⟩ := h.ru; exact hr.lt q h1
 ·obtain ⟨N, cs, hr⟩ := h.rg; exact hr.lt q h1
theorem EdX.keep {P : Nat → Prop} (h : EdX w e S D σ M dv uv gv dn ud gr op) (hk : Ks P w w') (hS : ∀ q, S q → ¬ P q) (hP : ∀ q, EdW e D dv uv gv q → ¬ P q) : EdX w' e S D σ M dv uv gv dn ud gr op := by
 have blk : ∀ q, S q → w'.heap[q]? = w.heap[q]? := fun q hq => hk.block q (h.ph.still q hq) (hS q hq)
 refine ⟨h.ph.same ?_ hk.size, ?_, ?_, ?_, h.du, h.dg, h.ug, h.hM, h.len⟩
 ·rintro q (hq | hq | hq)
  ·exact blk q hq
  ·exact hk.block q (h.ltW q (Or.inl hq)) (hP q (Or.inl hq))
  ·exact hk.block q (h.ltW q (Or.inr (Or.inl hq))) (hP q (Or.inr (Or.inl hq)))
 ·obtain ⟨N, cs, hr⟩ := h.rd; exact ⟨N, cs, hr.keep hk blk fun q hq => hP q (Or.inr (Or.inr (Or.inl hq)))⟩
 ·obtain ⟨N, cs, hr⟩ := h.ru; exact ⟨N, cs, hr.keep hk blk fun q hq => hP q (Or.inr (Or.inr (Or.inr (Or.inl hq))))⟩
 ·obtain ⟨N, cs, hr⟩ := h.rg; exact ⟨N, cs, hr.keep hk blk fun q hq => hP q (Or.inr (Or.inr (Or.inr (Or.inr hq))))⟩
theorem EdX.next (h : EdX w e S D σ M dv uv gv dn ud gr op) (hb : Below w.heap.size w w') : EdX w' e S D σ M dv uv gv dn ud gr op :=
 h.keep (P := fun _ => False) (Ks.of hb) (fun _ _ h => h) fun _ _ h => h
theorem RowB.atE (h : RowB w S e D v bs N cs) (hS : ∀ q, S q → q ≠ e) (j : Nat) (u : Value) : RowB (w.setCell ⟨e, j, none⟩ u) S e D v bs N cs :=
 h.keep (P := fun q => q = e) ((Ks.refl (fun q => q = e) w).set e j u rfl) (fun q hq => Below.heap_setCell _ _ _ _ (hS q hq)) fun q hq => (h.ob q hq).2.1
theorem PhS.beside (h : PhS w S e D σ v1 v2 v3 v4 v5 te) {u1 u2 u3 u4 u5 : Value} (hk : Ks (fun q => q = e) w w') (he : ∀ a c, w.heap[e]? = some (.cells #[.slice a σ.ord.length c, v1, v2, v3, v4, v5] te (0, 0)) → w'.heap[e]? = some (.cells #[.slice a σ.ord.length c, u1, u2, u3, u4, u5] te (0, 0))) : PhS w' S e D σ u1 u2 u3 u4 u5 te := by
 obtain ⟨a, c, r1, r2, r3, r4⟩ := h.row
 have blk : ∀ q, S q → w'.heap[q]? = w.heap[q]? := fun q hq => hk.block q (h.still q hq) (fun e' => h.eS (e' ▸ hq))
 exact ⟨fun q hq => Nat.lt_of_lt_of_le (h.still q hq) hk.size, h.eS, h.eD, fun q hq => (h.fld q hq).stays (hk.block q (h.fld q hq).lt fun e' => h.eD (e' ▸ hq)) blk, h.sub, a, c, r1.next blk, r2, r3, he a c r4⟩
def BeginPost (e : Nat) (w : World) (op : Bool) (r : Ending) (w' : World) : Prop := if op = true then r = .returned (.int .i64 9) ∧ w' = w else r = .returned (.int .i64 0) ∧ w' = w.setCell ⟨e, 4, none⟩ (.bool true)
theorem beginW (he : w.heap[e]? = some (.cells #[v0, v1, v2, v3, .bool op, v5] te (0, 0))) : Calls Tryz.prog 25 #[.pointer (some ⟨e, 1, none⟩)] w (BeginPost e w op) := by
 obtain ⟨⟨e0, e1, e2, e3, e4, e5⟩, ⟨z0, z1, z2, z3, z4, z5⟩, hel⟩ := row6 he
 clear he
 unfold BeginPost
 cases op with
 | true =>
  go_enter Tryz.func25, Tryz.ntmps25
  go_wp2
  go_ret
  simp
 | false =>
  go_enter Tryz.func25, Tryz.ntmps25
  go_wp2
  go_ret
  simp
theorem EdX.begin (h : EdX w e S D σ M dv uv gv dn ud gr false) : EdX (w.setCell ⟨e, 4, none⟩ (.bool true)) e S D σ M dv uv gv dn ud gr true := by
 have hS : ∀ q, S q → q ≠ e := fun q hq e' => h.ph.eS (e' ▸ hq)
 refine ⟨h.ph.beside ((Ks.refl (fun q => q = e) w).set e 4 _ rfl) fun a c h1 => (setCell_block h1 4 _).trans rfl, ?_, ?_, ?_, h.du, h.dg, h.ug, h.hM, h.len⟩
 ·obtain ⟨N, cs, hr⟩ := h.rd; exact ⟨N, cs, hr.atE hS 4 _⟩
 ·obtain ⟨N, cs, hr⟩ := h.ru; exact ⟨N, cs, hr.atE hS 4 _⟩
 ·obtain ⟨N, cs, hr⟩ := h.rg; exact ⟨N, cs, hr.atE hS 4 _⟩
def EndPost (e : Nat) (gv : Value) (w : World) (op : Bool) (r : Ending) (w' : World) : Prop := if op = true then r = .returned (.tuple #[gv, .int .i64 0]) ∧ w' = (w.setCell ⟨e, 4, none⟩ (.bool false)).setCell ⟨e, 5, none⟩ (.slice none 0 0) else r = .returned (.tuple #[.slice none 0 0, .int .i64 10]) ∧ w' = w
theorem endW (ag : Option Addr) (lg cg : Nat) (he : w.heap[e]? = some (.cells #[v0, v1, v2, v3, .bool op, .slice ag lg cg] te (0, 0))) : Calls Tryz.prog 30 #[.pointer (some ⟨e, 1, none⟩)] w (EndPost e (.slice ag lg cg) w op) := by
 obtain ⟨⟨e0, e1, e2, e3, e4, e5⟩, ⟨z0, z1, z2, z3, z4, z5⟩, hel⟩ := row6 he
 clear he
 unfold EndPost
 cases op with
 | false =>
  go_enter Tryz.func30, Tryz.ntmps30
  go_wp2
  refine bodyPost_ret (v := .tuple #[.slice none 0 0, .int .i64 10]) (by simp [results, Tryz.results30, go_sem]) (by simp [go_sem]) ?_
  simp
 | true =>
  go_enter Tryz.func30, Tryz.ntmps30
  go_wp2
  refine bodyPost_ret (v := .tuple #[.slice ag lg cg, .int .i64 0]) (by simp [results, Tryz.results30, go_sem]) (by simp [go_sem]) ?_
  simp
theorem EdX.ended (h : EdX w e S D σ M dv uv gv dn ud gr true) : EdX ((w.setCell ⟨e, 4, none⟩ (.bool false)).setCell ⟨e, 5, none⟩ (.slice none 0 0)) e S D σ M dv uv (.slice none 0 0) dn ud [] false ∧ ∃ N cs, RowB ((w.setCell ⟨e, 4, none⟩ (.bool false)).setCell ⟨e, 5, none⟩ (.slice none 0 0)) S e D gv gr N cs := by
 have hS : ∀ q, S q → q ≠ e := fun q hq e' => h.ph.eS (e' ▸ hq)
 refine ⟨⟨h.ph.beside (((Ks.refl (fun q => q = e) w).set e 4 _ rfl).set e 5 _ rfl) fun a c h1 => (setCell_block (setCell_block h1 4 _) 5 _).trans rfl, ?_, ?_, ⟨_, _, RowB.nil _ _ _ _⟩, h.du, fun q _ h1 => (by simp [Value.ownBlock] at h1), fun q _ h1 => (by simp [Value.ownBlock] at h1), h.hM, h.len⟩, ?_⟩
 ·obtain ⟨N, cs, hr⟩ := h.rd; exact ⟨N, cs, (hr.atE hS 4 _).atE hS 5 _⟩
 ·obtain ⟨N, cs, hr⟩ := h.ru; exact ⟨N, cs, (hr.atE hS 4 _).atE hS 5 _⟩
 ·obtain ⟨N, cs, hr⟩ := h.rg; exact ⟨N, cs, (hr.atE hS 4 _).atE hS 5 _⟩
end
section
variable {S S' S1 O : Nat → Prop} {e : Nat} {D D' : Nat → Prop} {σ σ0 σ1 : Sta} {v0 v1 v2 v3 v4 v5 v v' : Value} {te : TypeId} {w w' W w1 w2 w3 : World} {bs : List (List Wr)} {N : Nat → Nat} {cs : Nat → Array Value} {M : Nat} {dv uv gv : Value} {dn ud gr : List (List Wr)} {op : Bool} {N1 : Nat} {cs1 : Array Value} {us : List Wr}
def gall (gr : List (List Wr)) : List Wr := gr.reverse.flatten
theorem gall_range (gr : List (List Wr)) : (List.range gr.length).reverse.flatMap (fun j => gr.getD j []) = gall gr := by
 unfold gall
 have : (List.range gr.length).map (fun j => gr.getD j []) = gr := by
  apply List.ext_getElem
  ·simp
  ·intro i h1 h2
   simp [h2]
 rw [List.flatMap_def, ← List.map_reverse.symm, this]
theorem EdX.wideS (h : EdX w e S D σ M dv uv gv dn ud gr op) (h0 : ∀ q, S q → S' q) (h1 : ∀ q, S' q → S q ∨ (q < w.heap.size ∧ ¬ EdW e D dv uv gv q)) : EdX w e S' D σ M dv uv gv dn ud gr op := by
 have hb : ∀ q, S' q → ∀ P : Prop, (P → EdW e D dv uv gv q) → (S q → ¬ P) → ¬ P := fun q hq P hP hs hp => by
  rcases h1 q hq with h2 | h2
  ·exact hs h2 hp
  ·exact h2.2 (hP hp)
 refine ⟨h.ph.wide h0 fun q hq => (h1 q hq).imp id fun h2 => ⟨h2.1, fun e' => h2.2 (Or.inl e'), fun hd => h2.2 (Or.inr (Or.inl hd))⟩, ?_, ?_, ?_, h.du, h.dg, h.ug, h.hM, h.len⟩
 ·obtain ⟨N, cs, hr⟩ := h.rd
  refine ⟨N, cs, hr.wide h0 (fun _ h => h) fun q hq => ⟨fun hs => ?_, (hr.ob q hq).2.2⟩⟩
  exact hb q hs _ (fun h2 => Or.inr (Or.inr (Or.inl h2))) (fun h2 _ => (hr.ob q hq).1 h2) hq
 ·obtain ⟨N, cs, hr⟩ := h.ru
  refine ⟨N, cs, hr.wide h0 (fun _ h => h) fun q hq => ⟨fun hs => ?_, (hr.ob q hq).2.2⟩⟩
  exact hb q hs _ (fun h2 => Or.inr (Or.inr (Or.inr (Or.inl h2)))) (fun h2 _ => (hr.ob q hq).1 h2) hq
 ·obtain ⟨N, cs, hr⟩ := h.rg
  refine ⟨N, cs, hr.wide h0 (fun _ h => h) fun q hq => ⟨fun hs => ?_, (hr.ob q hq).2.2⟩⟩
  exact hb q hs _ (fun h2 => Or.inr (Or.inr (Or.inr (Or.inr h2)))) (fun h2 _ => (hr.ob q hq).1 h2) hq
theorem EdX.sheet (h : EdX w e S D σ M dv uv gv dn ud gr op) (hp : PhS w' S' e D' σ1 (.int .i64 (M : Int)) dv uv (.bool op) gv 65) (h0 : ∀ q, S q → S' q) (h1 : ∀ q, S' q → S q ∨ w.heap.size ≤ q) (d0 : ∀ q, D q → D' q) (d1 : ∀ q, D' q → D q ∨ w.heap.size ≤ q) (hk : Ks (fun q => q = e ∨ D q) w w') : EdX w' e S' D' σ1 M dv uv gv dn ud gr op := by
 have blk : ∀ q, S q → w'.heap[q]? = w.heap[q]? := fun q hq => hk.block q (h.ph.still q hq) (h.ph.notP q hq)
 have row : ∀ {v : Value} {bs : List (List Wr)}, (∃ N cs, RowB w S e D v bs N cs) → ∃ N cs, RowB w' S' e D' v bs N cs := by
  rintro v bs ⟨N, cs, hr⟩
  refine ⟨N, cs, (hr.keep hk blk fun q hq h2 => ?_).wide h0 d0 fun q hq => ⟨fun hs => ?_, fun hd => ?_⟩⟩
  ·rcases h2 with h2 | h2
   ·exact (hr.ob q hq).2.1 h2
   ·exact (hr.ob q hq).2.2 h2
  ·rcases h1 q hs with h2 | h2
   ·exact (hr.ob q hq).1 h2
   ·have := hr.lt q hq; omega
  ·rcases d1 q hd with h2 | h2
   ·exact (hr.ob q hq).2.2 h2
   ·have := hr.lt q hq; omega
 exact ⟨hp, row h.rd, row h.ru, row h.rg, h.du, h.dg, h.ug, h.hM, h.len⟩
theorem EdX.called (h : EdX w e S D σ M dv uv gv dn ud gr op) (hbk : BkAt e D w S N1 cs1 us) (W : World) (hW : Below w.heap.size w W) : Calls Tryz.prog N1 cs1 W fun r w' => ∃ N' cs' S', r = .returned (.func (.func N') #[] cs') ∧ (∀ q, S q → S' q) ∧ (∀ q, S' q → S q ∨ W.heap.size ≤ q) ∧ EdX w' e S' D (runW us σ) M dv uv gv dn ud gr op ∧ BkAt e D w' S' N' cs' (invW us σ) ∧ Ks (fun q => q = e ∨ D q) W w' := by
 refine (bk_call hbk W S σ (fun q hq => ⟨hq, hW.block q (h.ph.still q hq)⟩) (h.ph.next hW)).mono ?_
 rintro r w' ⟨N', cs', S', rfl, q0, q1, q2, q3, q4⟩
 exact ⟨N', cs', S', rfl, q0, fun q hq => (q1 q hq).imp id fun h => h.1, (h.next hW).sheet q2 q0 (fun q hq => (q1 q hq).imp id fun h => h.1) (fun _ h => h) (fun _ h => Or.inl h) q4, q3, q4⟩
theorem allRow (hr : RowB w S e D v bs N cs) (hS : ∀ q, S q → q < w.heap.size) (h8 : bs.length * 8 ≤ 140737488355328) :
  Calls Tryz.prog 31 #[v] w fun r w' => ∃ N' cs' S', r = .returned (.func (.func N') #[] cs') ∧ Below w.heap.size w w' ∧ w'.heap.size = w.heap.size + 1 ∧ (∀ q, S q → S' q) ∧ (∀ q, S' q → S q ∨ v.ownBlock = some q ∨ q = w.heap.size) ∧ BkAt e D w' S' N' cs' (gall bs) := by
 obtain ⟨a, l, c, rfl⟩ := own_slice hr.own
 refine (all138 a l c w).mono ?_
 rintro r w' ⟨rfl, rfl⟩
 have hb : Below w.heap.size w (w.alloc (.cells #[.slice a l c] 61)) := (Below.refl _ _).alloc (Nat.le_refl _) _
 have hnew := heap_alloc_new w (.cells #[.slice a l c] 61)
 refine ⟨_, _, fun q => S q ∨ (Value.slice a l c).ownBlock = some q ∨ q = w.heap.size, rfl, hb, by simp, fun q hq => Or.inl hq, fun q hq => hq, ?_⟩
 rw [← gall_range]
 have hbk : ∀ i, i < bs.length → BkAt e D (w.alloc (.cells #[.slice a l c] 61)) (fun q => S q ∨ (Value.slice a l c).ownBlock = some q ∨ q = w.heap.size) (N i) (cs i) (bs.getD i []) := fun i hi => ((hr.bk i hi).next fun q hq => hb.block q (hS q hq)).wide (fun q hq => Or.inl hq) fun _ h => h
 have ho := own_below hr.own hb
 rcases ho.2 with ⟨h3, h4⟩ | ⟨g, cap, cur, h3, h4, h5, h6, h7, h8', h9⟩
 ·cases h3
  rw [h4]
  exact .all _ none 0 0 N cs _ (Or.inr (Or.inr rfl)) hnew (Nat.le_refl _) (Or.inl rfl) (by omega) (fun i hi => by omega) fun i hi => by omega
 ·cases h3
  refine .all _ (some ⟨g, 0, none⟩) bs.length _ N cs _ (Or.inr (Or.inr rfl)) hnew h6 (Or.inr ⟨g, 0, rfl, Or.inr (Or.inl rfl)⟩) h8 (fun i hi h' o' e' => ?_) hbk
  cases e'
  have := ho.cellAt i (by omega)
  rw [Nat.zero_add, this, List.getElem?_map, List.getElem?_range hi]
  rfl
theorem EdX.kept (h : EdX w e S D σ M dv uv gv dn ud gr false) {r : Ending} {v0 : Value} (hv0 : ∀ a c, w.heap[e]? = some (.cells #[.slice a σ.ord.length c, .int .i64 (M : Int), dv, uv, .bool false, gv] 65 (0, 0)) → v0 = .slice a σ.ord.length c) (hk : KeepS S e D M v0 dv (.bool false) gv 65 bs w r w') (hl : bs.length ≤ M) :
  ∃ dv', EdX w' e S D σ M dv' (.slice none 0 0) gv bs [] gr false ∧ (∀ q, EdW e D dv' (.slice none 0 0) gv q → EdW e D dv uv gv q ∨ w.heap.size ≤ q) ∧ Ks (EdW e D dv uv gv) w w' := by
 obtain ⟨dv', N', cs', rfl, he, hr, ho, hk⟩ := hk
 have hblk : ∀ q, S q → w'.heap[q]? = w.heap[q]? := fun q hq => hk.block q (h.ph.still q hq) (by
  rintro (h1 | h1)
  ·exact h.notW q hq (Or.inl h1)
  ·exact h.notW q hq (Or.inr (Or.inr (Or.inl h1))))
 have hpD : ∀ q, D q → w'.heap[q]? = w.heap[q]? := fun q hq => hk.block q (h.ph.fld q hq).lt (by
  rintro (h1 | h1)
  ·exact h.ph.eD (h1 ▸ hq)
  ·obtain ⟨N, cs, hr⟩ := h.rd; exact (hr.ob q h1).2.2 hq)
 obtain ⟨a, c, r1, r2, r3, r4⟩ := h.ph.row
 rw [hv0 a c r4] at he
 have hp : PhS w' S e D σ (.int .i64 (M : Int)) dv' (.slice none 0 0) (.bool false) gv 65 := ⟨fun q hq => Nat.lt_of_lt_of_le (h.ph.still q hq) hk.size, h.ph.eS, h.ph.eD, fun q hq => (h.ph.fld q hq).stays (hpD q hq) hblk, h.ph.sub, a, c, r1.next hblk, r2, r3, he⟩
 obtain ⟨Ng, csg, hg⟩ := h.rg
 refine ⟨dv', ⟨hp, ⟨N', cs', hr⟩, ⟨_, _, RowB.nil _ _ _ _⟩, ⟨Ng, csg, hg.keep hk hblk ?_⟩, fun q _ h1 => (by simp [Value.ownBlock] at h1), fun q hq h1 => ?_, fun q h1 => (by simp [Value.ownBlock] at h1), h.hM, by simpa using hl⟩, ?_, hk.wide ?_⟩
 ·rintro q hq (h1 | h1)
  ·exact (hg.ob q hq).2.1 h1
  ·exact h.dg q h1 hq
 ·rcases ho with h2 | ⟨g, h2, h3⟩
  ·exact h.dg q (h2 ▸ hq) h1
  ·rw [h2] at hq
   cases hq
   have := hg.lt _ h1
   omega
 ·rintro q (h1 | h1 | h1 | h1 | h1)
  ·exact Or.inl (Or.inl h1)
  ·exact Or.inl (Or.inr (Or.inl h1))
  ·rcases ho with h2 | ⟨g, h2, h3⟩
   ·exact Or.inl (Or.inr (Or.inr (Or.inl (h2 ▸ h1))))
   ·rw [h2] at h1
    cases h1
    exact Or.inr h3
  ·simp [Value.ownBlock] at h1
  ·exact Or.inl (Or.inr (Or.inr (Or.inr (Or.inr h1))))
 ·rintro q (h1 | h1)
  ·exact Or.inl h1
  ·exact Or.inr (Or.inr (Or.inl h1))
theorem keepL_len (M : Nat) (dn : List (List Wr)) (us : List Wr) (h : dn.length ≤ M) : (keepL M dn us).length ≤ M := by
 unfold keepL
 split
 ·rw [List.length_eraseIdx, if_pos (by simp)]
  simp
  omega
 ·simp
  omega
end
section
variable {S S' S1 O : Nat → Prop} {e : Nat} {D D' : Nat → Prop} {σ σ0 σ1 : Sta} {v0 v1 v2 v3 v4 v5 v v' : Value} {te : TypeId} {w w' W w1 w2 w3 : World} {bs : List (List Wr)} {N : Nat → Nat} {cs : Nat → Array Value} {M : Nat} {dv uv gv : Value} {dn ud gr : List (List Wr)} {op : Bool} {N1 : Nat} {cs1 : Array Value} {us : List Wr}
def Ft (S : Nat → Prop) (e : Nat) (D : Nat → Prop) (dv uv gv : Value) (q : Nat) : Prop := S q ∨ EdW e D dv uv gv q
def EdTo (e : Nat) (F Wt : Nat → Prop) (σ' : Sta) (M : Nat) (dn' ud' gr' : List (List Wr)) (op' : Bool) (w w' : World) : Prop :=
 ∃ S' D' dv' uv' gv', EdX w' e S' D' σ' M dv' uv' gv' dn' ud' gr' op' ∧ (∀ q, Ft S' e D' dv' uv' gv' q → F q ∨ w.heap.size ≤ q) ∧ Ks Wt w w'
theorem EdX.ftLt (h : EdX w e S D σ M dv uv gv dn ud gr op) : ∀ q, Ft S e D dv uv gv q → q < w.heap.size := by
 rintro q (h1 | h1)
 ·exact h.ph.still q h1
 ·exact h.ltW q h1
theorem EdX.self (h : EdX w e S D σ M dv uv gv dn ud gr op) (hb : Below w.heap.size w w') : EdTo e (Ft S e D dv uv gv) (EdW e D dv uv gv) σ M dn ud gr op w w' :=
 ⟨S, D, dv, uv, gv, h.next hb, fun _ h => Or.inl h, Ks.of hb⟩
theorem addOpen (h : EdX w e S D σ M dv uv gv dn ud gr true) (hbk : BkAt e D w S N1 cs1 us) (h8 : gr.length < 1000000000000) :
  Calls Tryz.prog 37 #[.pointer (some ⟨e, 1, none⟩), .func (.func N1) #[] cs1] w fun r w' => r = .returned (.tuple #[]) ∧ EdTo e (Ft S e D dv uv gv) (EdW e D dv uv gv) σ M dn ud (gr ++ [us]) true w w' := by
 obtain ⟨a, c, r1, r2, r3, he⟩ := h.ph.row
 obtain ⟨⟨e0, e1, e2, e3, e4, e5⟩, ⟨z0, z1, z2, z3, z4, z5⟩, hel⟩ := row6 he
 obtain ⟨i1, gi, gz0, gz1, gz2⟩ := info_parts infoBack
 obtain ⟨Ng, csg, hg⟩ := h.rg
 obtain ⟨ag, lg, cg, rfl⟩ := own_slice hg.own
 have hne : (Value.slice ag lg cg).ownBlock ≠ some e := fun h1 => (hg.ob e h1).2.1 rfl
 have HO := tZ hg.own
 have HFIN := tZ (show ∀ g cap w2, w2.ownsRow 0 84 1 (.slice (some ⟨g, 0, none⟩) (gr.length + 1) cap) (gr.length + 1) (((List.range gr.length).map fun j => fnV (Ng j) (csg j)) ++ [.func (.func N1) #[] cs1]) → (w.alloc (.cells #[.func (.func N1) #[] cs1] 84)).grownBy w2 (Value.slice ag lg cg).ownBlock → ((Value.slice ag lg cg).ownBlock = some g ∨ g = w.heap.size + 1) → w2.heap[e]? = w.heap[e]? ∧ EdTo e (Ft S e D dv uv (.slice ag lg cg)) (EdW e D dv uv (.slice ag lg cg)) σ M dn ud (gr ++ [us]) true w (w2.setCell ⟨e, 5, none⟩ (.slice (some ⟨g, 0, none⟩) (gr.length + 1) cap)) from fun g cap w2 hown hgr hat => by
  have hsz := hgr.size
  simp at hsz
  have hk2 : Ks (fun q => (Value.slice ag lg cg).ownBlock = some q) w w2 := by
   refine ⟨hgr.os, hgr.tape, hgr.output, by omega, fun q hq hn => ?_⟩
   rw [hgr.block q (by simp; omega) (fun h => hn h.symm), Below.heap_alloc _ _ _ hq]
  have he2 : w2.heap[e]? = w.heap[e]? := hk2.block e hel hne
  have hge : g ≠ e := by
   rcases hat with h1 | h1
   ·intro e'; rw [e'] at h1; exact hne h1
   ·omega
  have hS : ∀ q, S q → q ≠ e := fun q hq e' => h.ph.eS (e' ▸ hq)
  have hblk2 : ∀ q, S q → w2.heap[q]? = w.heap[q]? := fun q hq => hk2.block q (h.ph.still q hq) fun h1 => (hg.ob q h1).1 hq
  have hk3 : Ks (fun q => q = e) w2 (w2.setCell ⟨e, 5, none⟩ (.slice (some ⟨g, 0, none⟩) (gr.length + 1) cap)) := (Ks.refl (fun q => q = e) w2).set e 5 _ rfl
  have hv : (Value.slice ag lg cg).ownBlock = (Value.slice (some ⟨g, 0, none⟩) (gr.length + 1) cap).ownBlock ∨ ∃ g', (Value.slice (some ⟨g, 0, none⟩) (gr.length + 1) cap).ownBlock = some g' ∧ w.heap.size ≤ g' := by
   rcases hat with h1 | h1
   ·exact Or.inl h1
   ·exact Or.inr ⟨g, rfl, by omega⟩
  have hrg := (hg.snoc hbk h.ph.still hel (fun q hq => (h.ph.fld q hq).lt) hgr hown hv).atE hS 5 (.slice (some ⟨g, 0, none⟩) (gr.length + 1) cap)
  have hrow : ∀ {v : Value} {bs : List (List Wr)}, (∃ N cs, RowB w S e D v bs N cs) → (∀ q, v.ownBlock = some q → (Value.slice ag lg cg).ownBlock ≠ some q) → ∃ N cs, RowB (w2.setCell ⟨e, 5, none⟩ (.slice (some ⟨g, 0, none⟩) (gr.length + 1) cap)) S e D v bs N cs := by
   rintro v bs ⟨N, cs, hr⟩ hd
   exact ⟨N, cs, (hr.keep hk2 hblk2 hd).atE hS 5 _⟩
  refine ⟨he2, S, D, dv, uv, .slice (some ⟨g, 0, none⟩) (gr.length + 1) cap, ⟨?_, hrow h.rd h.dg, hrow h.ru h.ug, ⟨_, _, hrg⟩, h.du, fun q hq h1 => ?_, fun q hq h1 => ?_, h.hM, h.len⟩, ?_, ?_⟩
  ·refine (h.ph.same (w' := w2) ?_ hk2.size).beside hk3 fun a c h1 => (setCell_block h1 5 _).trans rfl
   rintro q (h1 | rfl | h1)
   ·exact hblk2 q h1
   ·exact he2
   ·exact hk2.block q (h.ph.fld q h1).lt fun h2 => (hg.ob q h2).2.2 h1
  ·rcases hv with h2 | ⟨g', h2, h3⟩
   ·exact h.dg q hq (by rw [h2]; exact h1)
   ·rw [h2] at h1; cases h1
    obtain ⟨N, cs, hr⟩ := h.rd
    have := hr.lt _ hq; omega
  ·rcases hv with h2 | ⟨g', h2, h3⟩
   ·exact h.ug q hq (by rw [h2]; exact h1)
   ·rw [h2] at h1; cases h1
    obtain ⟨N, cs, hr⟩ := h.ru
    have := hr.lt _ hq; omega
  ·rintro q (h1 | h1 | h1 | h1 | h1 | h1)
   ·exact Or.inl (Or.inl h1)
   ·exact Or.inl (Or.inr (Or.inl h1))
   ·exact Or.inl (Or.inr (Or.inr (Or.inl h1)))
   ·exact Or.inl (Or.inr (Or.inr (Or.inr (Or.inl h1))))
   ·exact Or.inl (Or.inr (Or.inr (Or.inr (Or.inr (Or.inl h1)))))
   ·rcases hv with h2 | ⟨g', h2, h3⟩
    ·exact Or.inl (Or.inr (Or.inr (Or.inr (Or.inr (Or.inr (by rw [h2]; exact h1))))))
    ·rw [h2] at h1; cases h1; exact Or.inr h3
  ·exact (hk2.wide fun q hq => Or.inr (Or.inr (Or.inr (Or.inr hq)))).trans (hk3.wide fun q hq => Or.inl hq))
 have HE := tZ he
 clear he h hbk hg r1 r2 r3
 go_enter Tryz.func37, Tryz.ntmps37
 go_wp2_with (first | (at_builtin; refine wpList_append_lies _ rfl (.tmp 12) (.tmp 14) 61 rfl 0 84 i1 .nilFunc 1 8 Tryz.underlying61 gi gz0 gz1 gz2 rfl (by decide) (.slice ag lg cg) gr.length _ rfl (HO.out.alloc _) ⟨w.heap.size, 0, none⟩ 1 1 [.func (.func N1) #[] cs1] rfl rfl (fun q u hq => cells_new w [.func (.func N1) #[] cs1] 84 q u hq) (fun u hu => by simp at hu; subst hu; rfl) (by omega) (by unfold maxLen; omega) (by omega) (by omega) (w.heap.size + 1) (by simp) ?_; intro g cap w2 hown hgrow hat hlt; refine Hid.out ?_))
 obtain ⟨he2, hfin⟩ := HFIN.out g cap w2 hown hgrow hat
 obtain ⟨⟨p0, p1, p2, p3, p4, p5⟩, ⟨x0, x1, x2, x3, x4, x5⟩, hel3⟩ := row6 (he2.trans HE.out)
 have HF := tZ hfin
 clear hown hgrow hat he2 hfin HFIN HO
 refine tZ ?_
 go_wp2
 refine bodyPost_ret (v := .tuple #[]) (by simp [results, Tryz.results37, go_sem]) rfl ?_
 exact ⟨rfl, HF.out⟩
theorem addShut (h : EdX w e S D σ M dv uv gv dn ud gr false) (hbk : BkAt e D w S N1 cs1 us) :
  Calls Tryz.prog 37 #[.pointer (some ⟨e, 1, none⟩), .func (.func N1) #[] cs1] w fun r w' => r = .returned (.tuple #[]) ∧ EdTo e (Ft S e D dv uv gv) (EdW e D dv uv gv) σ M (keepL M dn us) [] gr false w w' := by
 obtain ⟨a, c, r1, r2, r3, he⟩ := h.ph.row
 obtain ⟨Nd, csd, hd⟩ := h.rd
 obtain ⟨Nu, csu, hu⟩ := h.ru
 obtain ⟨ad, ld, cd, rfl⟩ := own_slice hd.own
 obtain ⟨au, lu, cu, rfl⟩ := own_slice hu.own
 have hlen := h.len
 refine addKeep e (.func N1) cs1 w (fun _ w' => EdTo e (Ft S e D (.slice ad ld cd) (.slice au lu cu) gv) (EdW e D (.slice ad ld cd) (.slice au lu cu) gv) σ M (keepL M dn us) [] gr false w w') (row6 he).1.2.2.2.2.1 ?_
 refine (keepS M ad ld cd au lu cu N1 cs1 us he hd hbk (fun q hq => ⟨h.ph.still q hq, fun e' => h.ph.eS (e' ▸ hq)⟩) (fun q hq => (h.ph.fld q hq).lt) h.hM (by omega)).mono ?_
 intro r w' hk
 refine ⟨by obtain ⟨_, _, _, h1, _⟩ := hk; exact h1, ?_⟩
 obtain ⟨dv', hX, hf, hks⟩ := h.kept (fun a' c' h1 => by
  rw [he] at h1
  simp at h1
  obtain ⟨h1, h2⟩ := h1
  rw [h1, h2]) hk (keepL_len M dn us (by omega))
 refine ⟨S, D, dv', _, gv, hX, ?_, hks⟩
 rintro q (h1 | h1)
 ·exact Or.inl (Or.inl h1)
 ·exact (hf q h1).imp (fun h2 => Or.inr h2) id
end
section
variable {S S' S1 O : Nat → Prop} {e : Nat} {D D' : Nat → Prop} {σ σ0 σ1 : Sta} {v0 v1 v2 v3 v4 v5 v v' : Value} {te : TypeId} {w w' W w1 w2 w3 : World} {bs : List (List Wr)} {N : Nat → Nat} {cs : Nat → Array Value} {M : Nat} {dv uv gv : Value} {dn ud gr : List (List Wr)} {op : Bool} {N1 : Nat} {cs1 : Array Value} {us : List Wr}
theorem allGroup (h : EdX w e S D σ M dv uv gv dn ud gr true) (h8 : gr.length < 1000000000000) :
  Calls Tryz.prog 31 #[gv] ((w.setCell ⟨e, 4, none⟩ (.bool false)).setCell ⟨e, 5, none⟩ (.slice none 0 0)) fun r w2 => ∃ N2 cs2 S2, r = .returned (.func (.func N2) #[] cs2) ∧ EdX w2 e S2 D σ M dv uv (.slice none 0 0) dn ud [] false ∧ BkAt e D w2 S2 N2 cs2 (gall gr) ∧ (∀ q, Ft S2 e D dv uv (.slice none 0 0) q → Ft S e D dv uv gv q ∨ w.heap.size ≤ q) ∧ Ks (EdW e D dv uv gv) w w2 := by
 obtain ⟨h1, N, cs, hr⟩ := h.ended
 have hk1 : Ks (fun q => q = e) w ((w.setCell ⟨e, 4, none⟩ (.bool false)).setCell ⟨e, 5, none⟩ (.slice none 0 0)) := ((Ks.refl (fun q => q = e) w).set e 4 _ rfl).set e 5 _ rfl
 refine (allRow hr h1.ph.still (by omega)).mono ?_
 rintro r w2 ⟨N2, cs2, S2, rfl, hb, hsz, s0, s1, hbk⟩
 have hsz1 : ((w.setCell ⟨e, 4, none⟩ (.bool false)).setCell ⟨e, 5, none⟩ (.slice none 0 0)).heap.size = w.heap.size := by simp
 have hS2 : ∀ q, S2 q → S q ∨ gv.ownBlock = some q ∨ w.heap.size ≤ q := fun q hq => by
  rcases s1 q hq with h2 | h2 | h2
  ·exact Or.inl h2
  ·exact Or.inr (Or.inl h2)
  ·exact Or.inr (Or.inr (by omega))
 refine ⟨N2, cs2, S2, rfl, (h1.next hb).wideS s0 fun q hq => ?_, hbk, ?_, (hk1.wide fun q hq => Or.inl hq).trans (Ks.of hb)⟩
 ·rcases s1 q hq with h2 | h2 | h2
  ·exact Or.inl h2
  ·refine Or.inr ⟨by have := hr.lt q h2; have := hb.size; omega, ?_⟩
   rintro (h3 | h3 | h3 | h3 | h3)
   ·exact (hr.ob q h2).2.1 h3
   ·exact (hr.ob q h2).2.2 h3
   ·exact h.dg q h3 h2
   ·exact h.ug q h3 h2
   ·simp [Value.ownBlock] at h3
  ·refine Or.inr ⟨by omega, fun h3 => ?_⟩
   have := h1.ltW q h3
   omega
 ·rintro q (h2 | h2 | h2 | h2 | h2 | h2)
  ·rcases hS2 q h2 with h3 | h3 | h3
   ·exact Or.inl (Or.inl h3)
   ·exact Or.inl (Or.inr (Or.inr (Or.inr (Or.inr (Or.inr h3)))))
   ·exact Or.inr h3
  ·exact Or.inl (Or.inr (Or.inl h2))
  ·exact Or.inl (Or.inr (Or.inr (Or.inl h2)))
  ·exact Or.inl (Or.inr (Or.inr (Or.inr (Or.inl h2))))
  ·exact Or.inl (Or.inr (Or.inr (Or.inr (Or.inr (Or.inl h2)))))
  ·simp [Value.ownBlock] at h2
theorem EdTo.trans {F1 W1 F2 W2 : Nat → Prop} {dn' ud' gr' : List (List Wr)} {op' : Bool} {σ' : Sta} (h : EdTo e F2 W2 σ' M dn' ud' gr' op' w1 w') (hF : ∀ q, F2 q → F1 q ∨ w.heap.size ≤ q) (hW : ∀ q, W2 q → W1 q ∨ w.heap.size ≤ q) (hk : Ks W1 w w1) : EdTo e F1 W1 σ' M dn' ud' gr' op' w w' := by
 obtain ⟨S', D', dv', uv', gv', h1, h2, h3⟩ := h
 refine ⟨S', D', dv', uv', gv', h1, fun q hq => ?_, ⟨h3.os.trans hk.os, h3.tape.trans hk.tape, h3.output.trans hk.output, Nat.le_trans hk.size h3.size, fun q hq hn => ?_⟩⟩
 ·rcases h2 q hq with h4 | h4
  ·exact hF q h4
  ·exact Or.inr (Nat.le_trans hk.size h4)
 ·refine (h3.block q (Nat.lt_of_lt_of_le hq hk.size) fun h4 => ?_).trans (hk.block q hq hn)
  rcases hW q h4 with h5 | h5
  ·exact hn h5
  ·omega
theorem commitOpen (h : EdX w e S D σ M dv uv gv dn ud gr true) (h8 : gr.length < 1000000000000) :
  Calls Tryz.prog 26 #[.pointer (some ⟨e, 1, none⟩)] w fun r w' => r = .returned (.int .i64 0) ∧ EdTo e (Ft S e D dv uv gv) (EdW e D dv uv gv) σ M (keepL M dn (gall gr)) [] [] false w w' := by
 obtain ⟨a, c, r1, r2, r3, he⟩ := h.ph.row
 obtain ⟨Ng, csg, hg⟩ := h.rg
 obtain ⟨ag, lg, cg, rfl⟩ := own_slice hg.own
 have HEN := tZ ((endW ag lg cg he).mono (R' := fun r w1 => r = .returned (.tuple #[.slice ag lg cg, .int .i64 0]) ∧ w1 = (w.setCell ⟨e, 4, none⟩ (.bool false)).setCell ⟨e, 5, none⟩ (.slice none 0 0)) (by
  intro r w1 hr
  simpa [EndPost] using hr))
 have HAL := tZ ((allGroup h h8).mono (R' := fun r w2 => ∃ N2 cs2, r = .returned (.func (.func N2) #[] cs2) ∧ Hid (Calls Tryz.prog 38 #[.pointer (some ⟨e, 1, none⟩), .func (.func N2) #[] cs2] w2 fun r w3 => r = .returned (.tuple #[]) ∧ EdTo e (Ft S e D dv uv (.slice ag lg cg)) (EdW e D dv uv (.slice ag lg cg)) σ M (keepL M dn (gall gr)) [] [] false w w3)) (by
  rintro r w2 ⟨N2, cs2, S2, rfl, hX, hbk, hf, hk⟩
  refine ⟨N2, cs2, rfl, ?_⟩
  obtain ⟨a2, c2, k1, k2, k3, he2⟩ := hX.ph.row
  obtain ⟨Nd, csd, hd⟩ := hX.rd
  obtain ⟨Nu, csu, hu⟩ := hX.ru
  obtain ⟨ad, ld, cd, rfl⟩ := own_slice hd.own
  obtain ⟨au, lu, cu, rfl⟩ := own_slice hu.own
  have hlen := hX.len
  refine (keepS M ad ld cd au lu cu N2 cs2 (gall gr) he2 hd hbk (fun q hq => ⟨hX.ph.still q hq, fun e' => hX.ph.eS (e' ▸ hq)⟩) (fun q hq => (hX.ph.fld q hq).lt) hX.hM (by omega)).mono ?_
  intro r w3 hkp
  refine ⟨by obtain ⟨_, _, _, h1, _⟩ := hkp; exact h1, ?_⟩
  obtain ⟨dv', hX3, hf3, hks3⟩ := hX.kept (fun a' c' h1 => by
   rw [he2] at h1
   simp at h1
   obtain ⟨h1, h2⟩ := h1
   rw [h1, h2]) hkp (keepL_len M dn _ (by omega))
  have hto : EdTo e (Ft S2 e D (.slice ad ld cd) (.slice au lu cu) (.slice none 0 0)) (EdW e D (.slice ad ld cd) (.slice au lu cu) (.slice none 0 0)) σ M (keepL M dn (gall gr)) [] [] false w2 w3 := by
   refine ⟨S2, D, dv', _, _, hX3, ?_, hks3⟩
   rintro q (h1 | h1)
   ·exact Or.inl (Or.inl h1)
   ·exact (hf3 q h1).imp (fun h2 => Or.inr h2) id
  refine hto.trans hf (fun q hq => Or.inl ?_) hk
  rcases hq with h1 | h1 | h1 | h1 | h1
  ·exact Or.inl h1
  ·exact Or.inr (Or.inl h1)
  ·exact Or.inr (Or.inr (Or.inl h1))
  ·exact Or.inr (Or.inr (Or.inr (Or.inl h1)))
  ·simp [Value.ownBlock] at h1))
 clear h he hg r1 r2 r3
 go_enter Tryz.func26, Tryz.ntmps26
 go_wp2_with (first | (go_at_call 30; refine HEN.out.mono ?_; rintro r w1 ⟨rfl, rfl⟩) | (go_at_call 31; refine HAL.out.mono ?_; rintro r w2 ⟨N2, cs2, rfl, C2⟩) | (go_at_call 38; refine C2.out.mono ?_; rintro r w3 ⟨rfl, hq⟩; have HQ := tZ hq; clear hq))
 refine bodyPost_ret (v := .int .i64 0) (by simp [results, Tryz.results26, go_sem]) (by simp [go_sem]) ?_
 exact ⟨rfl, HQ.out⟩
theorem commitShut (he : w.heap[e]? = some (.cells #[v0, v1, v2, v3, .bool false, v5] te (0, 0))) (ag : Option Addr) (lg cg : Nat) (hv5 : v5 = .slice ag lg cg) :
  Calls Tryz.prog 26 #[.pointer (some ⟨e, 1, none⟩)] w fun r w' => r = .returned (.int .i64 10) ∧ w' = w := by
 subst hv5
 have HEN := tZ ((endW ag lg cg he).mono (R' := fun r w1 => r = .returned (.tuple #[.slice none 0 0, .int .i64 10]) ∧ w1 = w) (by
  intro r w1 hr
  simpa [EndPost] using hr))
 clear he
 go_enter Tryz.func26, Tryz.ntmps26
 go_wp2_with (first | (go_at_call 30; refine HEN.out.mono ?_; rintro r w1 ⟨rfl, rfl⟩))
 refine bodyPost_ret (v := .int .i64 10) (by simp [results, Tryz.results26, go_sem]) (by simp [go_sem]) ?_
 exact ⟨rfl, rfl⟩
theorem cancelWalk (er : Int) (Q : World → Prop) (ag : Option Addr) (lg cg : Nat) (w1 : World) (hen : Calls Tryz.prog 30 #[.pointer (some ⟨e, 1, none⟩)] w fun r w' => r = .returned (.tuple #[.slice ag lg cg, .int .i64 er]) ∧ w' = w1)
  (hal : Calls Tryz.prog 31 #[.slice ag lg cg] w1 fun r w2 => ∃ N2 cs2, r = .returned (.func (.func N2) #[] cs2) ∧ (∀ args w, (callFunc N2 args).run Tryz.prog w = .ok (.enter N2 args) w) ∧ Hid (Calls Tryz.prog N2 cs2 w2 fun r w3 => (∃ N3 cs3, r = .returned (.func (.func N3) #[] cs3)) ∧ Q w3)) :
  Calls Tryz.prog 17 #[.pointer (some ⟨e, 1, none⟩)] w fun r w' => r = .returned (.int .i64 er) ∧ Q w' := by
 have HEN := tZ hen
 have HAL := tZ hal
 clear hen hal
 go_enter Tryz.func17, Tryz.ntmps17
 go_wp2_with (first | (go_at_call 30; refine HEN.out.mono ?_; rintro r w1 ⟨rfl, rfl⟩) | (go_at_call 31; refine HAL.out.mono ?_; rintro r w2 ⟨N2, cs2, rfl, heg, C2⟩) | (go_at_fn N2; refine C2.out.mono ?_; rintro r w3 ⟨⟨N3, cs3, rfl⟩, hq⟩; have HQ := tZ hq; clear hq))
 refine bodyPost_ret (v := .int .i64 er) (by simp [results, Tryz.results17, go_sem]) (by simp [go_sem]) ?_
 exact ⟨rfl, HQ.out⟩
end
section
variable {S S' S1 O : Nat → Prop} {e : Nat} {D D' : Nat → Prop} {σ σ0 σ1 : Sta} {v0 v1 v2 v3 v4 v5 v v' : Value} {te : TypeId} {w w' W w1 w2 w3 : World} {bs : List (List Wr)} {N : Nat → Nat} {cs : Nat → Array Value} {M : Nat} {dv uv gv : Value} {dn ud gr : List (List Wr)} {op : Bool} {N1 : Nat} {cs1 : Array Value} {us : List Wr}
theorem cancelOpen (h : EdX w e S D σ M dv uv gv dn ud gr true) (h8 : gr.length < 1000000000000) :
  Calls Tryz.prog 17 #[.pointer (some ⟨e, 1, none⟩)] w fun r w' => r = .returned (.int .i64 0) ∧ EdTo e (Ft S e D dv uv gv) (EdW e D dv uv gv) (runW (gall gr) σ) M dn ud [] false w w' := by
 obtain ⟨a, c, r1, r2, r3, he⟩ := h.ph.row
 obtain ⟨Ng, csg, hg⟩ := h.rg
 obtain ⟨ag, lg, cg, rfl⟩ := own_slice hg.own
 refine cancelWalk 0 _ ag lg cg _ ((endW ag lg cg he).mono (by
  intro r w1 hr
  simpa [EndPost] using hr)) ((allGroup h h8).mono ?_)
 rintro r w2 ⟨N2, cs2, S2, rfl, hX, hbk, hf, hk⟩
 refine ⟨N2, cs2, rfl, hbk.enters, (hX.called hbk w2 (Below.refl _ _)).mono ?_⟩
 rintro r w3 ⟨N3, cs3, S3, rfl, q0, q1, q2, q3, q4⟩
 refine ⟨⟨N3, cs3, rfl⟩, ?_⟩
 have hto : EdTo e (Ft S2 e D dv uv (.slice none 0 0)) (EdW e D dv uv (.slice none 0 0)) (runW (gall gr) σ) M dn ud [] false w2 w3 := by
  refine ⟨S3, D, dv, uv, _, q2, ?_, q4.wide ?_⟩
  ·rintro q (h1 | h1)
   ·exact (q1 q h1).imp (fun h2 => Or.inl h2) id
   ·exact Or.inl (Or.inr h1)
  ·rintro q (h1 | h1)
   ·exact Or.inl h1
   ·exact Or.inr (Or.inl h1)
 refine hto.trans hf (fun q hq => Or.inl ?_) hk
 rcases hq with h1 | h1 | h1 | h1 | h1
 ·exact Or.inl h1
 ·exact Or.inr (Or.inl h1)
 ·exact Or.inr (Or.inr (Or.inl h1))
 ·exact Or.inr (Or.inr (Or.inr (Or.inl h1)))
 ·simp [Value.ownBlock] at h1
theorem cancelShut (h : EdX w e S D σ M dv uv gv dn ud gr false) :
  Calls Tryz.prog 17 #[.pointer (some ⟨e, 1, none⟩)] w fun r w' => r = .returned (.int .i64 10) ∧ EdTo e (Ft S e D dv uv gv) (EdW e D dv uv gv) σ M dn ud gr false w w' := by
 obtain ⟨a, c, r1, r2, r3, he⟩ := h.ph.row
 obtain ⟨Ng, csg, hg⟩ := h.rg
 obtain ⟨ag, lg, cg, rfl⟩ := own_slice hg.own
 refine cancelWalk 10 _ none 0 0 w ((endW ag lg cg he).mono (by
  intro r w1 hr
  simpa [EndPost] using hr)) ((allRow (RowB.nil w S e D) h.ph.still (by simp)).mono ?_)
 rintro r w2 ⟨N2, cs2, S2, rfl, hb, hsz, s0, s1, hbk⟩
 have hX : EdX w2 e S2 D σ M dv uv (.slice ag lg cg) dn ud gr false := (h.next hb).wideS s0 fun q hq => by
  rcases s1 q hq with h2 | h2 | h2
  ·exact Or.inl h2
  ·simp [Value.ownBlock] at h2
  ·exact Or.inr ⟨by omega, fun h3 => by have := h.ltW q h3; omega⟩
 refine ⟨N2, cs2, rfl, hbk.enters, (hX.called hbk w2 (Below.refl _ _)).mono ?_⟩
 rintro r w3 ⟨N3, cs3, S3, rfl, q0, q1, q2, q3, q4⟩
 refine ⟨⟨N3, cs3, rfl⟩, S3, D, dv, uv, _, q2, ?_, (Ks.of hb).trans (q4.wide ?_)⟩
 ·rintro q (h1 | h1)
  ·rcases q1 q h1 with h2 | h2
   ·rcases s1 q h2 with h3 | h3 | h3
    ·exact Or.inl (Or.inl h3)
    ·simp [Value.ownBlock] at h3
    ·exact Or.inr (by omega)
   ·exact Or.inr (Nat.le_trans hb.size h2)
  ·exact Or.inl (Or.inr h1)
 ·rintro q (h1 | h1)
  ·exact Or.inl h1
  ·exact Or.inr (Or.inl h1)
end
section
variable {S S' S1 O : Nat → Prop} {e : Nat} {D D' : Nat → Prop} {σ σ0 σ1 : Sta} {v0 v1 v2 v3 v4 v5 v v' : Value} {te : TypeId} {w w' W w1 w2 w3 : World} {bs : List (List Wr)} {N : Nat → Nat} {cs : Nat → Array Value} {M : Nat} {dv uv gv : Value} {dn gr : List (List Wr)} {op : Bool} {N1 : Nat} {cs1 : Array Value} {us : List Wr}
theorem wrap64_small (n : Nat) (h : n ≤ 100) : wrap64 ((n : Int) + 1 - 1) = (n : Int) ∧ wrap64 ((n : Int) + 1) = (n : Int) + 1 := by
 unfold wrap64
 omega
theorem turnUndoW (l ud : List (List Wr)) (gf cf ct : Nat) (at_ : Option Addr) (h : EdX w e S D σ M (.slice (some ⟨gf, 0, none⟩) (l.length + 1) cf) (.slice at_ ud.length ct) gv (l ++ [us]) ud gr false) :
  Calls Tryz.prog 39 #[.pointer (some ⟨e, 1, none⟩), .pointer (some ⟨e, 2, none⟩), .pointer (some ⟨e, 3, none⟩)] w fun r w' => r = .returned (.int .i64 0) ∧ EdTo e (Ft S e D (.slice (some ⟨gf, 0, none⟩) (l.length + 1) cf) (.slice at_ ud.length ct) gv) (EdW e D (.slice (some ⟨gf, 0, none⟩) (l.length + 1) cf) (.slice at_ ud.length ct) gv) (runW us σ) M l (ud ++ [invW us σ]) gr false w w' := by
 obtain ⟨a, c, r1, r2, r3, he⟩ := h.ph.row
 obtain ⟨⟨e0, e1, e2, e3, e4, e5⟩, ⟨z0, z1, z2, z3, z4, z5⟩, hel⟩ := row6 he
 obtain ⟨i1, gi, gz0, gz1, gz2⟩ := info_parts infoBack
 obtain ⟨Nf, csf, hf⟩ := h.rd
 obtain ⟨Nt, cst, ht⟩ := h.ru
 have hM := h.hM
 have hll := h.len
 simp only [List.length_append, List.length_singleton] at hll
 have hbk : BkAt e D w S (Nf l.length) (csf l.length) us := by
  have := hf.bk l.length (by simp)
  rw [List.getD_eq_getElem?_getD, List.getElem?_append_right (Nat.le_refl _)] at this
  simpa using this
 have hfo : w.ownsRow 0 84 1 (.slice (some ⟨gf, 0, none⟩) (l.length + 1) cf) (l.length + 1) ((List.range (l.length + 1)).map fun j => fnV (Nf j) (csf j)) := by
  have := hf.own
  rw [List.length_append, List.length_singleton] at this
  exact this
 have hcl : w.cell? ⟨gf, l.length, none⟩ = some (.func (.func (Nf l.length)) #[] (csf l.length)) := by
  have := hfo.cellAt l.length (by simp)
  rw [this, List.getElem?_map, List.getElem?_range (by simp)]
  rfl
 have heg := hbk.enters
 have hge : gf ≠ e := (hf.ob gf rfl).2.1
 have hgtf : at_ ≠ none → (Value.slice at_ ud.length ct).ownBlock ≠ some gf := fun _ h1 => h.du gf rfl h1
 have hgfl := hf.lt gf rfl
 have HFIN := tZ (show ∀ (N' : Nat) (cs' : Array Value) (w2 : World), (∃ S' : Nat → Prop, (∀ q, S q → S' q) ∧ (∀ q, S' q → S q ∨ w.heap.size ≤ q) ∧ EdX w2 e S' D (runW us σ) M (.slice (some ⟨gf, 0, none⟩) (l.length + 1) cf) (.slice at_ ud.length ct) gv (l ++ [us]) ud gr false ∧ BkAt e D w2 S' N' cs' (invW us σ) ∧ Ks (fun q => q = e ∨ D q) w w2) → ∀ (g' cap' : Nat) (w3 : World), w3.ownsRow 0 84 1 (.slice (some ⟨g', 0, none⟩) (ud.length + 1) cap') (ud.length + 1) (((List.range ud.length).map fun j => fnV (Nt j) (cst j)) ++ [.func (.func N') #[] cs']) → (w2.alloc (.cells #[.func (.func N') #[] cs'] 84)).grownBy w3 (Value.slice at_ ud.length ct).ownBlock → ((Value.slice at_ ud.length ct).ownBlock = some g' ∨ g' = w2.heap.size + 1) → w2.ownsRow 0 84 1 (.slice at_ ud.length ct) ud.length ((List.range ud.length).map fun j => fnV (Nt j) (cst j)) →
   ∃ a2 c2, w3.heap[e]? = some (.cells #[.slice a2 (runW us σ).ord.length c2, .int .i64 (M : Int), (.slice (some ⟨gf, 0, none⟩) (l.length + 1) cf), (.slice at_ ud.length ct), .bool false, gv] 65 (0, 0)) ∧ (∀ q, q ≠ e → True) ∧ Calls Tryz.prog 57 #[.slice (some ⟨gf, 0, none⟩) (l.length + 1) cf, .int .i64 (l.length : Int), .int .i64 ((l.length : Int) + 1)] (w3.setCell ⟨e, 3, none⟩ (.slice (some ⟨g', 0, none⟩) (ud.length + 1) cap')) fun r w5 => r = .returned (.slice (some ⟨gf, 0, none⟩) l.length cf) ∧ Hid (w5.heap[e]? = some (.cells #[.slice a2 (runW us σ).ord.length c2, .int .i64 (M : Int), (.slice (some ⟨gf, 0, none⟩) (l.length + 1) cf), (.slice (some ⟨g', 0, none⟩) (ud.length + 1) cap'), .bool false, gv] 65 (0, 0))) ∧ Hid (EdTo e (Ft S e D (.slice (some ⟨gf, 0, none⟩) (l.length + 1) cf) (.slice at_ ud.length ct) gv) (EdW e D (.slice (some ⟨gf, 0, none⟩) (l.length + 1) cf) (.slice at_ ud.length ct) gv) (runW us σ) M l (ud ++ [invW us σ]) gr false w (w5.setCell ⟨e, 2, none⟩ (.slice (some ⟨gf, 0, none⟩) l.length cf))) from by
  rintro N' cs' w2 ⟨S', s0, s1, hX, hbk', hk⟩ g' cap' w3 hown hgr hat ho2
  obtain ⟨a2, c2, k1, k2, k3, k4⟩ := hX.ph.row
  have hsz2 := hk.size
  have hsz3 := hgr.size
  simp at hsz3
  have hk3 : Ks (fun q => (Value.slice at_ ud.length ct).ownBlock = some q) w2 w3 := by
   refine ⟨hgr.os, hgr.tape, hgr.output, by omega, fun q hq hn => ?_⟩
   rw [hgr.block q (by simp; omega) (fun h => hn h.symm), Below.heap_alloc _ _ _ hq]
  have hnp : ∀ q, S q → ¬ (q = e ∨ D q) := h.ph.notP
  have blk02 : ∀ q, S q → w2.heap[q]? = w.heap[q]? := fun q hq => hk.block q (h.ph.still q hq) (hnp q hq)
  have mv : ∀ {v : Value} {bs : List (List Wr)} {N : Nat → Nat} {cs : Nat → Array Value}, RowB w S e D v bs N cs → RowB w2 S' e D v bs N cs := fun {v bs N cs} hr => (hr.keep hk blk02 fun q hq h2 => by
   rcases h2 with h2 | h2
   ·exact (hr.ob q hq).2.1 h2
   ·exact (hr.ob q hq).2.2 h2).wide s0 (fun _ h => h) fun q hq => ⟨fun hs => by
    rcases s1 q hs with h2 | h2
    ·exact (hr.ob q hq).1 h2
    ·have := hr.lt q hq; omega, (hr.ob q hq).2.2⟩
  have ht2 := mv ht
  have hf2 := mv hf
  obtain ⟨Ng, csg, hg⟩ := h.rg
  have hg2 := mv hg
  have hS' : ∀ q, S' q → q ≠ e := fun q hq e' => hX.ph.eS (e' ▸ hq)
  have hte : (Value.slice at_ ud.length ct).ownBlock ≠ some e := fun h1 => (ht.ob e h1).2.1 rfl
  have hel2 : e < w2.heap.size := by omega
  have hv : (Value.slice at_ ud.length ct).ownBlock = (Value.slice (some ⟨g', 0, none⟩) (ud.length + 1) cap').ownBlock ∨ ∃ q, (Value.slice (some ⟨g', 0, none⟩) (ud.length + 1) cap').ownBlock = some q ∧ w2.heap.size ≤ q := by
   rcases hat with h1 | h1
   ·exact Or.inl h1
   ·exact Or.inr ⟨g', rfl, by omega⟩
  have htf : (Value.slice at_ ud.length ct).ownBlock ≠ some gf := fun h1 => h.du gf rfl h1
  have hg'f : g' ≠ gf := fun h1 => by
   rcases hat with h2 | h2
   ·exact htf (by rw [h2, h1])
   ·omega
  have hg'g : gv.ownBlock ≠ some g' := fun h1 => by
   rcases hat with h2 | h2
   ·exact h.ug g' h2 h1
   ·have := hg2.lt g' h1; omega
  have he3 : w3.heap[e]? = some (.cells #[.slice a2 (runW us σ).ord.length c2, .int .i64 (M : Int), (.slice (some ⟨gf, 0, none⟩) (l.length + 1) cf), (.slice at_ ud.length ct), .bool false, gv] 65 (0, 0)) := (hk3.block e hel2 hte).trans k4
  have blk23 : ∀ q, S' q → w3.heap[q]? = w2.heap[q]? := fun q hq => hk3.block q (hX.ph.still q hq) fun h1 => (ht2.ob q h1).1 hq
  have ht3 := (ht2.snoc hbk' hX.ph.still hel2 (fun q hq => (hX.ph.fld q hq).lt) hgr hown hv).atE hS' 3 (.slice (some ⟨g', 0, none⟩) (ud.length + 1) cap')
  have hf4 := (hf2.keep hk3 blk23 (fun q hq h1 => by simp [Value.ownBlock] at hq; subst hq; exact htf h1)).atE hS' 3 (.slice (some ⟨g', 0, none⟩) (ud.length + 1) cap')
  have hg4 := (hg2.keep hk3 blk23 (fun q hq h1 => h.ug q h1 hq)).atE hS' 3 (.slice (some ⟨g', 0, none⟩) (ud.length + 1) cap')
  have hp3 : PhS w3 S' e D (runW us σ) (.int .i64 (M : Int)) (.slice (some ⟨gf, 0, none⟩) (l.length + 1) cf) (.slice at_ ud.length ct) (.bool false) gv 65 := hX.ph.same (by
   rintro q (h1 | rfl | h1)
   ·exact blk23 q h1
   ·exact hk3.block _ hel2 hte
   ·exact hk3.block q (hX.ph.fld q h1).lt fun h2 => (ht2.ob q h2).2.2 h1) hk3.size
  have hk4 : Ks (fun q => q = e) w3 (w3.setCell ⟨e, 3, none⟩ (.slice (some ⟨g', 0, none⟩) (ud.length + 1) cap')) := (Ks.refl (fun q => q = e) w3).set e 3 _ rfl
  have hp4 : PhS (w3.setCell ⟨e, 3, none⟩ (.slice (some ⟨g', 0, none⟩) (ud.length + 1) cap')) S' e D (runW us σ) (.int .i64 (M : Int)) (.slice (some ⟨gf, 0, none⟩) (l.length + 1) cf) (.slice (some ⟨g', 0, none⟩) (ud.length + 1) cap') (.bool false) gv 65 := hp3.beside hk4 fun a c h1 => (setCell_block h1 3 _).trans rfl
  have he4 : (w3.setCell ⟨e, 3, none⟩ (.slice (some ⟨g', 0, none⟩) (ud.length + 1) cap')).heap[e]? = some (.cells #[.slice a2 (runW us σ).ord.length c2, .int .i64 (M : Int), (.slice (some ⟨gf, 0, none⟩) (l.length + 1) cf), (.slice (some ⟨g', 0, none⟩) (ud.length + 1) cap'), .bool false, gv] 65 (0, 0)) := (setCell_block he3 3 _).trans rfl
  generalize hw4 : w3.setCell ⟨e, 3, none⟩ (.slice (some ⟨g', 0, none⟩) (ud.length + 1) cap') = w4 at *
  refine ⟨a2, c2, he3, fun _ _ => trivial, ?_⟩
  have hfo4 : w4.ownsRow 0 84 1 (.slice (some ⟨gf, 0, none⟩) (l.length + 1) cf) (l.length + 1) ((List.range (l.length + 1)).map fun j => fnV (Nf j) (csf j)) := by
   have := hf4.own
   rw [List.length_append, List.length_singleton] at this
   exact this
  refine (deleteAt 0 gf cf l.length l.length _ w4 hfo4 (Nat.le_refl _) (by omega) (fun v hv => by
   obtain ⟨j, _, rfl⟩ := List.mem_map.1 hv
   rfl)).mono ?_
  rintro r w5 ⟨rfl, hk5, ho5⟩
  have hel4 : e < w4.heap.size := (Array.getElem?_eq_some_iff.1 he4).1
  have he5 := (hk5.block e hel4 (fun h1 => hge h1.symm)).trans he4
  have blk45 : ∀ q, S' q → w5.heap[q]? = w4.heap[q]? := fun q hq => hk5.block q (hp4.still q hq) fun h1 => (hf4.ob gf rfl).1 (h1 ▸ hq)
  have hp5 : PhS w5 S' e D (runW us σ) (.int .i64 (M : Int)) (.slice (some ⟨gf, 0, none⟩) (l.length + 1) cf) (.slice (some ⟨g', 0, none⟩) (ud.length + 1) cap') (.bool false) gv 65 := hp4.same (by
   rintro q (h1 | rfl | h1)
   ·exact blk45 q h1
   ·exact hk5.block _ hel4 (fun h1 => hge h1.symm)
   ·exact hk5.block q (hp4.fld q h1).lt fun h2 => (hf4.ob gf rfl).2.2 (h2 ▸ h1)) hk5.size
  have hk6 : Ks (fun q => q = e) w5 (w5.setCell ⟨e, 2, none⟩ (.slice (some ⟨gf, 0, none⟩) l.length cf)) := (Ks.refl (fun q => q = e) w5).set e 2 _ rfl
  have her : (l ++ [us]).eraseIdx l.length = l := by simp [List.eraseIdx_append_of_length_le]
  have hf6 := (hf4.erase (w2 := w5) (v' := .slice (some ⟨gf, 0, none⟩) l.length cf) (i := l.length) (by simp) blk45 (by
   rw [List.length_append, List.length_singleton, Nat.add_sub_cancel]
   exact ho5) rfl).atE hS' 2 (.slice (some ⟨gf, 0, none⟩) l.length cf)
  rw [her] at hf6
  have ht6 := (ht3.keep hk5 blk45 (fun q hq h1 => by simp [Value.ownBlock] at hq; subst hq; exact hg'f h1)).atE hS' 2 (.slice (some ⟨gf, 0, none⟩) l.length cf)
  have hg6 := (hg4.keep hk5 blk45 (fun q hq h1 => h.dg q (by rw [h1]; rfl) hq)).atE hS' 2 (.slice (some ⟨gf, 0, none⟩) l.length cf)
  refine ⟨rfl, he5, S', D, (.slice (some ⟨gf, 0, none⟩) l.length cf), (.slice (some ⟨g', 0, none⟩) (ud.length + 1) cap'), gv, ⟨hp5.beside hk6 fun a c h1 => (setCell_block h1 2 _).trans rfl, ⟨_, _, hf6⟩, ⟨_, _, ht6⟩, ⟨_, _, hg6⟩, fun q hq h1 => ?_, fun q hq h1 => ?_, fun q hq h1 => ?_, hM, by simp; omega⟩, ?_, ?_⟩
  ·simp [Value.ownBlock] at hq h1
   exact hg'f (by omega)
  ·exact h.dg q hq h1
  ·simp [Value.ownBlock] at hq
   subst hq
   exact hg'g h1
  ·rintro q (h1 | h1 | h1 | h1 | h1 | h1)
   ·exact (s1 q h1).imp (fun h2 => Or.inl h2) id
   ·exact Or.inl (Or.inr (Or.inl h1))
   ·exact Or.inl (Or.inr (Or.inr (Or.inl h1)))
   ·exact Or.inl (Or.inr (Or.inr (Or.inr (Or.inl h1))))
   ·rcases hv with h2 | ⟨x, h2, h3⟩
    ·exact Or.inl (Or.inr (Or.inr (Or.inr (Or.inr (Or.inl (by rw [h2]; exact h1))))))
    ·rw [h2] at h1; cases h1; exact Or.inr (by omega)
   ·exact Or.inl (Or.inr (Or.inr (Or.inr (Or.inr (Or.inr h1)))))
  ·have kk : Ks (EdW e D (.slice (some ⟨gf, 0, none⟩) (l.length + 1) cf) (.slice at_ ud.length ct) gv) w w3 := (hk.wide fun q hq => by
    rcases hq with h1 | h1
    ·exact Or.inl h1
    ·exact Or.inr (Or.inl h1)).trans (hk3.wide fun q hq => Or.inr (Or.inr (Or.inr (Or.inl hq))))
   have kk4 : Ks (EdW e D (.slice (some ⟨gf, 0, none⟩) (l.length + 1) cf) (.slice at_ ud.length ct) gv) w w4 := by rw [← hw4]; exact kk.trans (((Ks.refl (fun q => q = e) w3).set e 3 _ rfl).wide fun q hq => Or.inl hq)
   exact (kk4.trans (hk5.wide fun q hq => Or.inr (Or.inr (Or.inl (by rw [show q = gf from hq]; rfl))))).trans (hk6.wide fun q hq => Or.inl hq))
 have HCA := tZ (h.called hbk w.drew (Below.refl _ _).drew)
 have HT := tZ ht
 have HXX := tZ h
 have HFO := tZ hfo
 have hl6 : l.length ≤ 6 := by omega
 have ho6 : ud.length ≤ 6 := by omega
 have hwl : wrap64 ((l.length : Int) + 1 - 1) = (l.length : Int) := (wrap64_small l.length (by omega)).1
 have hwl2 : wrap64 ((l.length : Int) + 1) = (l.length : Int) + 1 := (wrap64_small l.length (by omega)).2
 have hil : (l.length : Int) < (l.length : Int) + 1 := Int.lt_succ _
 have hnn : ¬ (l.length : Int) < 0 := Int.not_lt.2 (Int.natCast_nonneg _)
 have HE := tZ he
 generalize hNf : Nf l.length = N1 at *
 generalize hcsf : csf l.length = cs1 at *
 clear h hf ht hbk hfo r1 r2 r3 he hll hgtf hM
 go_enter Tryz.func39, Tryz.ntmps39
 go_wp2_with fail
 have HC2 := tZ (HCA.out.mono (R' := fun r w2 => ∃ N' cs', r = .returned (.func (.func N') #[] cs') ∧ Hid (∃ S' : Nat → Prop, (∀ q, S q → S' q) ∧ (∀ q, S' q → S q ∨ w.heap.size ≤ q) ∧ EdX w2 e S' D (runW us σ) M (.slice (some ⟨gf, 0, none⟩) (l.length + 1) cf) (.slice at_ ud.length ct) gv (l ++ [us]) ud gr false ∧ BkAt e D w2 S' N' cs' (invW us σ) ∧ Ks (fun q => q = e ∨ D q) w w2) ∧ Hid (w2.ownsRow 0 84 1 (.slice at_ ud.length ct) ud.length ((List.range ud.length).map fun j => fnV (Nt j) (cst j))) ∧ Hid (w2.cell? ⟨e, 2, none⟩ = some (.slice (some ⟨gf, 0, none⟩) (l.length + 1) cf) ∧ w2.cell? ⟨e, 3, none⟩ = some (.slice at_ ud.length ct)) ∧ w2.cell? ⟨gf, l.length, none⟩ = some (.func (.func N1) #[] cs1) ∧ w.heap.size ≤ w2.heap.size) (by
  rintro r w2 ⟨N', cs', S', rfl, q0, q1, q2, q3, q4⟩
  have hk : Ks (fun q => q = e ∨ D q) w w2 := (Ks.of (Below.refl _ _).drew).trans q4
  obtain ⟨a2, c2, _, _, _, k4⟩ := q2.ph.row
  refine ⟨N', cs', rfl, ⟨S', q0, q1, q2, q3, hk⟩, own_ke HT.out.own hk fun q hq h2 => ?_, ⟨(row6 k4).1.2.2.1, (row6 k4).1.2.2.2.1⟩, ?_, hk.size⟩
  ·rcases h2 with h2 | h2
   ·exact (HT.out.ob q hq).2.1 h2
   ·exact (HT.out.ob q hq).2.2 h2
  ·refine (World.cell?_of_block (a := ⟨gf, l.length, none⟩) (hk.block gf hgfl ?_)).trans hcl
   rintro (h2 | h2)
   ·exact hge h2
   ·obtain ⟨N, cs, hr⟩ := HXX.out.rd
    exact (hr.ob gf rfl).2.2 h2))
 clear HCA HFO
 go_region_law (first | (refine step_append_lies _ (by rfl) (.tmp 24) (.tmp 32) 61 (by rfl) 0 84 i1 .nilFunc 1 8 Tryz.underlying61 gi gz0 gz1 gz2 rfl (by decide) (.slice at_ ud.length ct) ud.length _ (by rfl) (B2.out.alloc _) ⟨w2.heap.size, 0, none⟩ 1 1 [.func (.func N') #[] cs'] (by rfl) rfl (fun q u hq => cells_new w2 [.func (.func N') #[] cs'] 84 q u hq) (fun u hu => by simp at hu; subst hu; rfl) (by omega) (by unfold maxLen; omega) (by omega) (by omega) (w2.heap.size + 1) (by simp) ?_; intro g' cap' w3 hown hgrow hat hltg; obtain ⟨a2, c2, he3, _, hdel⟩ := HFIN.out N' cs' w2 B1.out g' cap' w3 hown hgrow hat B2.out; obtain ⟨⟨p0, p1, p2, p3, p4, p5⟩, ⟨x0, x1, x2, x3, x4, x5⟩, hel3⟩ := row6 he3; have DEL := tZ hdel; clear hown hgrow hat hdel he3) | (go_simp; go_at_fn N1; refine HC2.out.mono ?_; rintro r w2 ⟨N', cs', rfl, B1, B2, B3, n2, hs2⟩; obtain ⟨m2, m3⟩ := B3.out; have hel2 := Nat.lt_of_lt_of_le hel hs2))
 all_goals go_wp2_with (first | (go_at_call 57; refine DEL.out.mono ?_; rintro r w5 ⟨rfl, E5, F5⟩; obtain ⟨⟨k0, k1, k2, k3, k4, k5⟩, ⟨t0, t1, t2, t3, t4, t5⟩, hel5⟩ := row6 E5.out))
 all_goals refine bodyPost_ret (v := .int .i64 0) (by simp [results, Tryz.results39, go_sem]) (by simp [go_sem]) ?_
 all_goals exact ⟨rfl, F5.out⟩
end
end Go.Proofs.YtihgojcfpnhelabGreatDoor
