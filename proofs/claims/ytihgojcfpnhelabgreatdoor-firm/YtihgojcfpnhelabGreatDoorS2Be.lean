import Derived.Test.YtihgojcfpnhelabGreatDoorS2Qf
set_option maxRecDepth 100000
set_option maxHeartbeats 4000000
set_option linter.unusedVariables false
set_option linter.unusedSimpArgs false
namespace Go.Proofs.YtihgojcfpnhelabGreatDoor
open Go.RowKit
section
theorem putOrderX (e : Nat) (a : Option Addr) (l c : Nat) (a' : Option Addr) (l' c' : Nat) (v1 v2 v3 v4 v5 : Value) (te : TypeId) (w : World) (he : w.heap[e]? = some (.cells #[.slice a l c, v1, v2, v3, v4, v5] te (0, 0))) :
  Calls Tryz.prog 75 #[.pointer (some ⟨e, 0, none⟩), .slice a' l' c'] w fun r w' => ∃ g1 g2, r = .returned (.func (.func 95) #[] #[.pointer (some ⟨g1, 0, none⟩), .pointer (some ⟨g2, 0, none⟩)]) ∧ w'.heap[e]? = some (.cells #[.slice a' l' c', v1, v2, v3, v4, v5] te (0, 0)) ∧ Ks (fun q => q = e) w w' ∧ w.heap.size ≤ g1 ∧ w.heap.size ≤ g2 ∧ w'.heap[g1]? = some (.cells #[.pointer (some ⟨e, 0, none⟩)] 150 (0, 0)) ∧ w'.heap[g2]? = some (.cells #[.slice a l c] 58 (0, 0)) := by
 obtain ⟨⟨e0, _, _, _, _, _⟩, ⟨z0, _, _, _, _, _⟩, hel⟩ := row6 he
 refine (putOrder e 0 a l c a' l' c' w e0 z0 hel).mono ?_
 rintro r w' ⟨rfl, rfl⟩
 refine ⟨_, _, rfl, ?_, (((Ks.refl (fun q => q = e) w).set e 0 _ rfl).alloc _).alloc _, Nat.le_refl _, by omega, ?_, ?_⟩
 ·rw [Below.heap_alloc _ _ _ (by simp; omega), Below.heap_alloc _ _ _ (by simpa using hel), setCell_block he]
  rfl
 ·have := alloc2_old (w.setCell ⟨e, 0, none⟩ (.slice a' l' c')) #[.pointer (some ⟨e, 0, none⟩)] 150 (.cells #[.slice a l c] 58)
  simpa using this
 ·have := alloc2_new' (w.setCell ⟨e, 0, none⟩ (.slice a' l' c')) (.cells #[.pointer (some ⟨e, 0, none⟩)] 150) #[.slice a l c] 58
  simpa using this
structure FrW (S : Nat → Prop) (e c : Nat) (a : Option Addr) (fs : List (Nat × Fd)) (x : By) (p : Pt) (v1 v2 v3 v4 v5 : Value) (te : TypeId) (w w3 : World) (b g cap g1 g2 : Nat) : Prop where
 sh : Sh w3 (fun q => S q ∨ q = g) (some ⟨g, 0, none⟩) (fs ++ [(b, ⟨x, p, (0, 0)⟩)])
 hb : w.heap.size ≤ b
 hg : w.heap.size ≤ g
 cp : fs.length + 1 ≤ cap
 row : w3.heap[e]? = some (.cells #[.slice (some ⟨g, 0, none⟩) (fs.length + 1) cap, v1, v2, v3, v4, v5] te (0, 0))
 ks : Ks (fun q => q = e) w w3
 hg1 : w.heap.size ≤ g1
 hg2 : w.heap.size ≤ g2
 hc1 : w3.heap[g1]? = some (.cells #[.pointer (some ⟨e, 0, none⟩)] 150 (0, 0))
 hc2 : w3.heap[g2]? = some (.cells #[.slice a fs.length c] 58 (0, 0))
def FreshTail (e c : Nat) (a : Option Addr) (fs : List (Nat × Fd)) (b : Nat) (Q : Option Addr → Nat → Nat → Value → Int → World → Prop) (W0 : World) : Prop :=
 Calls Tryz.prog 76 #[.slice (some ⟨W0.heap.size + 1, 0, none⟩) 2 2] ((W0.alloc (.cells #[.pointer (some ⟨b, 0, none⟩)] 116)).alloc (.cells #[.slice a fs.length c, .slice (some ⟨W0.heap.size, 0, none⟩) 1 1] 58)).drew fun r w2 => ∃ g cap, r = .returned (.slice (some ⟨g, 0, none⟩) (fs.length + 1) cap) ∧
  Calls Tryz.prog 75 #[.pointer (some ⟨e, 0, none⟩), .slice (some ⟨g, 0, none⟩) (fs.length + 1) cap] w2 fun r w3 => ∃ g1 g2, r = .returned (.func (.func 95) #[] #[.pointer (some ⟨g1, 0, none⟩), .pointer (some ⟨g2, 0, none⟩)]) ∧
   Calls Tryz.prog 73 #[.pointer (some ⟨e, 0, none⟩), .pointer (some ⟨b, 0, none⟩), .func (.func 95) #[] #[.pointer (some ⟨g1, 0, none⟩), .pointer (some ⟨g2, 0, none⟩)]] w3 fun r w4 => ∃ (an : Option Addr) (ln cn : Nat) (bk : Value) (er : Int), r = .returned (.tuple #[.slice an ln cn, bk, .int .i64 er]) ∧ Q an ln cn bk er w4
theorem freshTail {S : Nat → Prop} (e c : Nat) (a : Option Addr) (fs : List (Nat × Fd)) (x : By) (p : Pt) (b : Nat) (v1 v2 v3 v4 v5 : Value) (te : TypeId) (w W0 : World) (Q : Option Addr → Nat → Nat → Value → Int → World → Prop) (hs : Sh w S a fs) (hb0 : Below w.heap.size w W0) (he : w.heap[e]? = some (.cells #[.slice a fs.length c, v1, v2, v3, v4, v5] te (0, 0))) (hf : FdAt W0 S b ⟨x, p, (0, 0)⟩) (hbw : w.heap.size ≤ b) (hsz0 : W0.heap.size = w.heap.size + 2) (hl : fs.length < 10) (hef : ∀ f, f ∈ fs → f.1 ≠ e) (hSe : ¬ S e) (ha : a = none → c = 0)
  (hSt : ∀ g cap g1 g2 w3, FrW S e c a fs x p v1 v2 v3 v4 v5 te w w3 b g cap g1 g2 → Calls Tryz.prog 73 #[.pointer (some ⟨e, 0, none⟩), .pointer (some ⟨b, 0, none⟩), .func (.func 95) #[] #[.pointer (some ⟨g1, 0, none⟩), .pointer (some ⟨g2, 0, none⟩)]] w3 fun r w4 => ∃ (an : Option Addr) (ln cn : Nat) (bk : Value) (er : Int), r = .returned (.tuple #[.slice an ln cn, bk, .int .i64 er]) ∧ Q an ln cn bk er w4) :
  FreshTail e c a fs b Q W0 := by
 have hel : e < w.heap.size := (Array.getElem?_eq_some_iff.1 he).1
 have hbW : Below W0.heap.size W0 ((W0.alloc (.cells #[.pointer (some ⟨b, 0, none⟩)] 116)).alloc (.cells #[.slice a fs.length c, .slice (some ⟨W0.heap.size, 0, none⟩) 1 1] 58)).drew := (below2 W0 _ _).drew
 have hlit : ((W0.alloc (.cells #[.pointer (some ⟨b, 0, none⟩)] 116)).alloc (.cells #[.slice a fs.length c, .slice (some ⟨W0.heap.size, 0, none⟩) 1 1] 58)).drew.heap[W0.heap.size + 1]? = some (.cells #[.slice a fs.length c, .slice (some ⟨W0.heap.size, 0, none⟩) 1 1] 58 (0, 0)) := alloc2_new' W0 _ _ _
 have hlit1 : ((W0.alloc (.cells #[.pointer (some ⟨b, 0, none⟩)] 116)).alloc (.cells #[.slice a fs.length c, .slice (some ⟨W0.heap.size, 0, none⟩) 1 1] 58)).drew.heap[W0.heap.size]? = some (.cells #[.pointer (some ⟨b, 0, none⟩)] 116 (0, 0)) := alloc2_old W0 _ _ _
 have hszW : ((W0.alloc (.cells #[.pointer (some ⟨b, 0, none⟩)] 116)).alloc (.cells #[.slice a fs.length c, .slice (some ⟨W0.heap.size, 0, none⟩) 1 1] 58)).drew.heap.size = W0.heap.size + 2 := by simp
 unfold FreshTail
 generalize ((W0.alloc (.cells #[.pointer (some ⟨b, 0, none⟩)] 116)).alloc (.cells #[.slice a fs.length c, .slice (some ⟨W0.heap.size, 0, none⟩) 1 1] 58)).drew = W1 at *
 have hsW := (hs.next hb0).next hbW
 have hcat : catP [fs, [(b, ⟨x, p, (0, 0)⟩)]] = fs ++ [(b, ⟨x, p, (0, 0)⟩)] := by simp [catP]
 refine (concat135 [fs, [(b, ⟨x, p, (0, 0)⟩)]] [.slice a fs.length c, .slice (some ⟨W0.heap.size, 0, none⟩) 1 1] (W0.heap.size + 1) 2 W1 rfl (by omega) (fun i hi => ?_) (by rw [hcat]; simp; omega) (by simp)).mono ?_
 ·rcases (show i = 0 ∨ i = 1 by simp at hi; omega) with rfl | rfl
  ·refine ⟨(cell_of_row _ _ 0 _ _ _ hlit).trans rfl, a, c, rfl, ha, fun j hj => ?_⟩
   obtain ⟨g, o, h1, h2, h3⟩ := hsW.ptr j hj
   exact ⟨g, o, h1, hsW.still g h2, h3⟩
  ·refine ⟨(cell_of_row _ _ 1 _ _ _ hlit).trans rfl, some ⟨W0.heap.size, 0, none⟩, 1, rfl, fun h => (by cases h), fun j hj => ?_⟩
   obtain rfl : j = 0 := by simp at hj; omega
   exact ⟨W0.heap.size, 0, rfl, by omega, (cell_of_row _ _ 0 _ _ _ hlit1).trans rfl⟩
 ·rintro r w2 ⟨v, rfl, hown, hb2⟩
  rw [hcat] at hown
  have hlen : (fs ++ [(b, (⟨x, p, (0, 0)⟩ : Fd))]).length = fs.length + 1 := by simp
  obtain ⟨g, cap, rfl, hg, hgl⟩ := hown.form (by rw [hlen]; omega)
  rw [hlen]
  refine ⟨g, cap, rfl, ?_⟩
  have hb02 : Below w.heap.size w w2 := hb0.trans ((hbW.trans (hb2.mono hbW.size)).mono hb0.size)
  refine (putOrderX e a fs.length c (some ⟨g, 0, none⟩) (fs.length + 1) cap v1 v2 v3 v4 v5 te w2 ((hb02.block e hel).trans he)).mono ?_
  rintro r w3 ⟨g1, g2, rfl, he3, hk3, hg1, hg2, hc1, hc2⟩
  refine ⟨g1, g2, rfl, ?_⟩
  have hcap : fs.length + 1 ≤ cap := by
   rcases hown.2 with ⟨h1, _⟩ | ⟨g', cap', cur, h1, _, _, h2, _⟩
   ·simp at h1
   ·simp at h1; omega
  have hsh2 : Sh w2 (fun q => S q ∨ ∃ o, (some ⟨g, 0, none⟩ : Option Addr) = some ⟨q, o, none⟩) (some ⟨g, 0, none⟩) (fs ++ [(b, ⟨x, p, (0, 0)⟩)]) := by
   have hs2 := hs.next hb02
   refine Sh.ofOwnF (B := W1.heap.size) hs2.still (fun y hy => ?_) hown (fun y hy => ?_)
   ·rcases List.mem_append.1 hy with h | h
    ·exact hs2.fld y h
    ·obtain rfl : y = (b, ⟨x, p, (0, 0)⟩) := by simpa using h
     exact hf.next (hs.next hb0).still (hbW.trans (hb2.mono hbW.size))
   ·rcases List.mem_append.1 hy with h | h
    ·have := (hsW.fld y h).lt; exact this
    ·obtain rfl : y = (b, ⟨x, p, (0, 0)⟩) := by simpa using h
     have := hf.lt
     show b < W1.heap.size
     omega
  have hSe' : ∀ q, (S q ∨ ∃ o, (some ⟨g, 0, none⟩ : Option Addr) = some ⟨q, o, none⟩) → q ≠ e := by
   rintro q (h | ⟨o, h⟩) hq
   ·exact hSe (hq ▸ h)
   ·have h1 : g = q := by injection h with h; injection h
    have := hb0.size
    have := hbW.size
    omega
  have hne : ∀ y, y ∈ fs ++ [(b, (⟨x, p, (0, 0)⟩ : Fd))] → y.1 ≠ e := fun y hy => by
   rcases List.mem_append.1 hy with h | h
   ·exact hef y h
   ·obtain rfl : y = (b, ⟨x, p, (0, 0)⟩) := by simpa using h
    show b ≠ e
    omega
  have hsh3 := hsh2.ks hk3 (fun q hq h => hSe' q hq h) (fun y hy h => hne y hy h)
  have hgw : w.heap.size ≤ g := by
   have := hb0.size
   have := hbW.size
   omega
  have hS' : ∀ q, (S q ∨ ∃ o, (some ⟨g, 0, none⟩ : Option Addr) = some ⟨q, o, none⟩) ↔ (S q ∨ q = g) := fun q => by
   constructor
   ·rintro (h | ⟨o, h⟩)
    ·exact Or.inl h
    ·injection h with h; injection h with h1 h2; exact Or.inr h1.symm
   ·rintro (h | rfl)
    ·exact Or.inl h
    ·exact Or.inr ⟨0, rfl⟩
  have hsh4 : Sh w3 (fun q => S q ∨ q = g) (some ⟨g, 0, none⟩) (fs ++ [(b, ⟨x, p, (0, 0)⟩)]) := by
   have e1 : (fun q => S q ∨ ∃ o, (some ⟨g, 0, none⟩ : Option Addr) = some ⟨q, o, none⟩) = fun q => S q ∨ q = g := funext fun q => propext (hS' q)
   rw [e1] at hsh3
   exact hsh3
  exact hSt g cap g1 g2 w3 ⟨hsh4, hbw, hgw, hcap, he3, ⟨hk3.os.trans hb02.os, hk3.tape.trans hb02.tape, hk3.output.trans hb02.output, Nat.le_trans hb02.size hk3.size, fun k hk hn => (hk3.block k (Nat.lt_of_lt_of_le hk hb02.size) hn).trans (hb02.block k hk)⟩, Nat.le_trans hb02.size hg1, Nat.le_trans hb02.size hg2, hc1, hc2⟩
theorem setFresh {S : Nat → Prop} (e c : Nat) (a : Option Addr) (fs : List (Nat × Fd)) (x : By) (p : Pt) (ar : Option Addr) (lr cr : Nat) (v1 v2 v3 v4 v5 : Value) (te : TypeId) (w : World) (Q : Option Addr → Nat → Nat → Value → Int → World → Prop) (hs : Sh w S a fs) (he : w.heap[e]? = some (.cells #[.slice a fs.length c, v1, v2, v3, v4, v5] te (0, 0))) (hl : fs.length < 10) (hef : ∀ f, f ∈ fs → f.1 ≠ e) (hSe : ¬ S e) (ha : a = none → c = 0)
  (hP : PIs w S p ar lr cr) (hsh : Shape p) (hgd : Good p) (htx : (txt p).length ≤ 100) (hnew : findF fs x = none)
  (hSt : ∀ b g cap g1 g2 w3, FrW S e c a fs x p v1 v2 v3 v4 v5 te w w3 b g cap g1 g2 → Calls Tryz.prog 73 #[.pointer (some ⟨e, 0, none⟩), .pointer (some ⟨b, 0, none⟩), .func (.func 95) #[] #[.pointer (some ⟨g1, 0, none⟩), .pointer (some ⟨g2, 0, none⟩)]] w3 fun r w4 => ∃ (an : Option Addr) (ln cn : Nat) (bk : Value) (er : Int), r = .returned (.tuple #[.slice an ln cn, bk, .int .i64 er]) ∧ Q an ln cn bk er w4) :
  Calls Tryz.prog 54 #[.pointer (some ⟨e, 0, none⟩), .string ⟨x.toArray⟩, .agg #[.int .i64 (p.k : Int), .string ⟨p.nm.toArray⟩, .int .i64 (p.n : Int), .slice ar lr cr]] w fun r w4 => ∃ (an : Option Addr) (ln cn : Nat) (bk : Value) (er : Int), r = .returned (.tuple #[.slice an ln cn, bk, .int .i64 er]) ∧ Q an ln cn bk er w4 := by
 have hel : e < w.heap.size := (Array.getElem?_eq_some_iff.1 he).1
 obtain ⟨⟨e0, e1, e2, e3, e4, e5⟩, ⟨z0, z1, z2, z3, z4, z5⟩, _⟩ := row6 he
 have HE := tZ he
 have HS := tZ hs
 have HF := tZ (show ∀ W, Below w.heap.size w W → Calls Tryz.prog 58 #[.pointer (some ⟨e, 0, none⟩), .string ⟨x.toArray⟩] W fun r w' => r = .returned (.pointer none) ∧ W = w' from fun W hb => by
  have := find101 x e c a fs W (hs.next hb) ((hb.cell (p := ⟨e, 0, none⟩) hel).trans e0) (by omega)
  rw [findB, hnew] at this
  exact this)
 have h10 : ((fs.length : Int) == 10) = false := beq_eq_false_iff_ne.2 (by omega)
 clear hs he
 go_enter Tryz.func54, Tryz.ntmps54
 go_wp2_with (first | (go_at_call 58; refine (HF.out _ (by first | exact Below.refl _ _ | exact (Below.refl _ _).alloc (Nat.le_refl _) _ | exact below2 _ _ _)).mono ?_; rintro r w1 ⟨rfl, rfl⟩))
 have HB0 := tZ (below2 w (.cells #[.int .i64 (p.k : Int), .string ⟨p.nm.toArray⟩, .int .i64 (p.n : Int), .slice ar lr cr] 51) (.cells #[.string ⟨x.toArray⟩, .int .i64 (p.k : Int), .string ⟨p.nm.toArray⟩, .int .i64 (p.n : Int), .slice ar lr cr, .int .i64 0, .int .i64 0] 119))
 have HR0 := tZ (alloc2_new' w (.cells #[.int .i64 (p.k : Int), .string ⟨p.nm.toArray⟩, .int .i64 (p.n : Int), .slice ar lr cr] 51) #[.string ⟨x.toArray⟩, .int .i64 (p.k : Int), .string ⟨p.nm.toArray⟩, .int .i64 (p.n : Int), .slice ar lr cr, .int .i64 0, .int .i64 0] 119)
 have hsz0 : ((w.alloc (.cells #[.int .i64 (p.k : Int), .string ⟨p.nm.toArray⟩, .int .i64 (p.n : Int), .slice ar lr cr] 51)).alloc (.cells #[.string ⟨x.toArray⟩, .int .i64 (p.k : Int), .string ⟨p.nm.toArray⟩, .int .i64 (p.n : Int), .slice ar lr cr, .int .i64 0, .int .i64 0] 119)).heap.size = w.heap.size + 2 := by simp
 generalize ((w.alloc (.cells #[.int .i64 (p.k : Int), .string ⟨p.nm.toArray⟩, .int .i64 (p.n : Int), .slice ar lr cr] 51)).alloc (.cells #[.string ⟨x.toArray⟩, .int .i64 (p.k : Int), .string ⟨p.nm.toArray⟩, .int .i64 (p.n : Int), .slice ar lr cr, .int .i64 0, .int .i64 0] 119)) = W0 at *
 obtain ⟨⟨u0, u1, u2, u3, u4, u5⟩, ⟨t0, t1, t2, t3, t4, t5⟩, hel0⟩ := row6 ((HB0.out.block e hel).trans HE.out)
 generalize hbdef : w.heap.size + 1 = b at *
 have hfsb : ∀ y, y ∈ fs → y.1 ≠ b := fun y hy => by have := (HS.out.fld y hy).lt; omega
 have HFb := tZ (show FdAt W0 S b ⟨x, p, (0, 0)⟩ from ⟨fun h => by have := HS.out.still b h; omega, hsh, hgd, htx, ar, lr, cr, HR0.out, hP.next fun q hq => HB0.out.block q (HS.out.still q hq)⟩)
 have HS0 := tZ (HS.out.next HB0.out)
 have HSET := tZ (freshTail e c a fs x p b v1 v2 v3 v4 v5 te w W0 Q HS.out HB0.out HE.out HFb.out (by omega) hsz0 hl hef hSe ha (hSt b))
 clear hSt hef hSe hP hsh hgd htx hnew HF hsz0
 unfold FreshTail at HSET
 go_wp2_with fail
 go_region_with (first | (go_at_call 76; refine HSET.out.mono ?_; rintro r w2 ⟨g, cap, rfl, hn2⟩; have C2 := tZ hn2; clear hn2) | (go_at_call 75; refine C2.out.mono ?_; rintro r w3 ⟨g1, g2, rfl, hn3⟩; have C3 := tZ hn3; clear hn3) | (go_at_call 73; refine C3.out.mono ?_; rintro r w4 ⟨an, ln, cn, bk, er, rfl, hn4⟩; have C4 := tZ hn4; clear hn4))
 all_goals go_wp2
 all_goals refine bodyPost_ret (v := .tuple #[.slice an ln cn, bk, .int .i64 er]) (by simp [results, Tryz.results54, go_sem]) (by simp [go_sem]) ?_
 all_goals exact ⟨an, ln, cn, bk, er, rfl, C4.out⟩
end
section
structure NmOk (nm : By) : Prop where
 ti : TI nm
 k2 : kindB nm = 2
 nmb : nmB nm = nm
def setN (nm rest : By) : By := [115, 101, 116] ++ (32 :: (nm ++ (32 :: ([61] ++ (32 :: rest)))))
theorem toks_setN (nm : By) (h : NmOk nm) (rest : By) : toksOf (setN nm rest) = (([115, 101, 116], 0) :: (nm, 4) :: ([61], 4 + nm.length + 1) :: (toks (rest.length + nm.length + 1) rest (4 + nm.length + 3)).1, (toks (rest.length + nm.length + 1) rest (4 + nm.length + 3)).2) := by
 have hrl := rowLen_app nm (32 :: ([61] ++ (32 :: rest))) h.ti fun _ => Or.inr ⟨32, _, rfl, by decide⟩
 obtain ⟨c, r, rfl, hc, hok, _⟩ := h.ti
 have e0 : toksOf (setN (c :: r) rest) = toks (rest.length + (c :: r).length + 6 + 1) ([115, 101, 116] ++ (32 :: ((c :: r) ++ (32 :: ([61] ++ (32 :: rest)))))) 0 := by
  unfold toksOf
  rw [show (setN (c :: r) rest).length = rest.length + (c :: r).length + 6 + 1 by simp [setN]; omega]
  rfl
 rw [e0, toks_to (rest.length + (c :: r).length + 6) 115 [101, 116] _ 0 (by decide) (by simp [rowLen, show isL 115 = true from by decide, show isLD 101 = true from by decide, show isLD 116 = true from by decide, show isLD 32 = false from by decide]) (by decide)]
 rw [show rest.length + (c :: r).length + 6 = rest.length + (c :: r).length + 5 + 1 by omega, toks_sp, show rest.length + (c :: r).length + 5 = rest.length + (c :: r).length + 4 + 1 by omega, toks_to (rest.length + (c :: r).length + 4) c r _ _ hc hrl hok]
 rw [show rest.length + (c :: r).length + 4 = rest.length + (c :: r).length + 3 + 1 by omega, toks_sp, show rest.length + (c :: r).length + 3 = rest.length + (c :: r).length + 2 + 1 by omega, toks_to (rest.length + (c :: r).length + 2) 61 [] _ _ (by decide) (by simp [rowLen, show isL 61 = false from by decide, show isD 61 = false from by decide]) (by decide)]
 rw [show rest.length + (c :: r).length + 2 = rest.length + (c :: r).length + 1 + 1 by omega, toks_sp]
 simp only [List.length_cons, List.length_nil, Nat.zero_add]
end
section
theorem line_setN (nm : By) (h : NmOk nm) (rest : By) (rts : List (By × Nat)) (p : Pt) (hl : rest.length + nm.length ≤ 113) (ht : toks (rest.length + nm.length + 1) rest (4 + nm.length + 3) = (rts, none)) (hD : Der rts 1 0 rts.length p) (ho : opn p ≤ 6) (hx : (txt p).length ≤ 100) (r : LnR) (hr : LineP (setN nm rest) r) : r = .ok 1 [nm] (some p) := by
 have hkn := h.k2
 have hnn := h.nmb
 have htk := toks_setN nm h rest
 rw [ht] at htk
 have hok : OkT rts := by
  have := (okT_of (setN nm rest)).drop 3
  rw [htk] at this
  exact this
 rcases hr with ⟨h1, _⟩ | ⟨_, q, h1, _⟩ | ⟨_, ts, h1, h2⟩
 ·simp [setN] at h1
  omega
 ·rw [htk] at h1
  cases h1
 ·rw [htk] at h1
  simp only [Prod.mk.injEq, and_true] at h1
  subst h1
  have n0 : nT (([115, 101, 116], 0) :: (nm, 4) :: ([61], 4 + nm.length + 1) :: rts) 0 = [115, 101, 116] := by
   simp [nT, tAt]
   decide
  have k1 : kN (([115, 101, 116], 0) :: (nm, 4) :: ([61], 4 + nm.length + 1) :: rts) (1 + 0) = 2 := by simp [kN, tAt, hkn]
  have k2 : kN (([115, 101, 116], 0) :: (nm, 4) :: ([61], 4 + nm.length + 1) :: rts) (1 + 1) = 18 := by
   simp [kN, tAt]
   decide
  have nms : namesT (([115, 101, 116], 0) :: (nm, 4) :: ([61], 4 + nm.length + 1) :: rts) 1 1 = [nm] := by simp [namesT, nT, tAt, hnn]
  have hdr : (([115, 101, 116], 0) :: (nm, 4) :: ([61], 4 + nm.length + 1) :: rts).drop (2 + 1) = rts := rfl
  rcases h2 with ⟨k, hk, he, hh⟩ | ⟨hno, _⟩
  ·rw [n0] at he
   obtain rfl := heads_set k hk he
   rcases hh with ⟨j, hj, _, hne, _⟩ | ⟨_, hh⟩
   ·obtain rfl : j = 0 := by have : j < 1 := hj; omega
    exact absurd k1 hne
   ·rcases hh with ⟨h3, _⟩ | ⟨h3, _⟩ | ⟨_, h3, _⟩ | ⟨_, _, er, q, n0', _, hrun, hcase⟩
    ·cases h3
    ·cases h3
    ·exact absurd k2 h3
    ·have e1 : (([115, 101, 116], 0) :: (nm, 4) :: ([61], 4 + nm.length + 1) :: rts).drop (2 + (headsW[0]'hk).2.2.1) = rts := rfl
     rw [e1] at hrun hcase
     obtain ⟨rfl, rfl⟩ := hD.run hok ho hrun
     have htold := (hD.told hok rfl).2.2
     rcases hcase with ⟨h4, _⟩ | ⟨_, _, h4, _⟩ | ⟨_, _, t, hDt, _, _, h5⟩
     ·exact absurd rfl h4
     ·rw [htold] at h4
      have : (toldTo rts 0).length = 0 := rfl
      simp [toldTo] at h4
      omega
     ·rw [hDt.uniq hD] at h5
      rw [h5]
      exact congrArg (fun n => LnR.ok 1 n (some p)) nms
  ·exact absurd n0.symm (hno 0 (by decide))
end
section
structure Sta where
 ord : List Nat
 mem : Nat → Fd
inductive Wr
 | ord (l : List Nat)
 | nm (b : Nat) (x : By)
 | rl (b : Nat) (p : Pt)
 | vl (b : Nat) (v : Vl)
def Sta.put (σ : Sta) (b : Nat) (f : Fd) : Sta := ⟨σ.ord, fun q => if q = b then f else σ.mem q⟩
def wr1 (σ : Sta) : Wr → Sta
 | .ord l => ⟨l, σ.mem⟩
 | .nm b x => σ.put b ⟨x, (σ.mem b).p, (σ.mem b).v⟩
 | .rl b p => σ.put b ⟨(σ.mem b).nm, p, (σ.mem b).v⟩
 | .vl b v => σ.put b ⟨(σ.mem b).nm, (σ.mem b).p, v⟩
def iw1 (σ : Sta) : Wr → Wr
 | .ord _ => .ord σ.ord
 | .nm b _ => .nm b (σ.mem b).nm
 | .rl b _ => .rl b (σ.mem b).p
 | .vl b _ => .vl b (σ.mem b).v
def runW : List Wr → Sta → Sta
 | [], σ => σ
 | u :: r, σ => runW r (wr1 σ u)
def invW : List Wr → Sta → List Wr
 | [], _ => []
 | u :: r, σ => invW r (wr1 σ u) ++ [iw1 σ u]
theorem put_put (σ : Sta) (b : Nat) (f g : Fd) : (σ.put b f).put b g = σ.put b g := by
 unfold Sta.put
 congr 1
 funext q
 by_cases h : q = b <;> simp [h]
theorem put_self (σ : Sta) (b : Nat) : σ.put b (σ.mem b) = σ := by
 cases σ with
 | mk o m =>
  unfold Sta.put
  congr 1
  funext q
  by_cases h : q = b <;> simp [h]
theorem put_mem (σ : Sta) (b : Nat) (f : Fd) : (σ.put b f).mem b = f := by simp [Sta.put]
theorem put_mem_ne (σ : Sta) (b q : Nat) (f : Fd) (h : q ≠ b) : (σ.put b f).mem q = σ.mem q := by simp [Sta.put, h]
theorem wr1_back (σ : Sta) (u : Wr) : wr1 (wr1 σ u) (iw1 σ u) = σ := by
 cases u with
 | ord l => rfl
 | nm b x => simp only [wr1, iw1, put_mem, put_put]; exact put_self σ b
 | rl b x => simp only [wr1, iw1, put_mem, put_put]; exact put_self σ b
 | vl b x => simp only [wr1, iw1, put_mem, put_put]; exact put_self σ b
theorem runW_app (a b : List Wr) : ∀ σ, runW (a ++ b) σ = runW b (runW a σ) := by
 induction a with
 | nil => intro σ; rfl
 | cons u r ih => intro σ; exact ih _
theorem invW_app (a b : List Wr) : ∀ σ, invW (a ++ b) σ = invW b (runW a σ) ++ invW a σ := by
 induction a with
 | nil => intro σ; simp [invW, runW]
 | cons u r ih => intro σ; simp only [List.cons_append, invW, runW, ih, List.append_assoc]
theorem run_inv (us : List Wr) : ∀ σ, runW (invW us σ) (runW us σ) = σ := by
 induction us with
 | nil => intro σ; rfl
 | cons u r ih => intro σ; simp only [invW, runW, runW_app, ih, wr1_back]
def RowAt (w : World) (S : Nat → Prop) (a : Option Addr) (l : List Nat) : Prop :=
 ∀ j (h : j < l.length), ∃ g o, a = some ⟨g, o, none⟩ ∧ S g ∧ w.cell? ⟨g, o + j, none⟩ = some (.pointer (some ⟨l[j], 0, none⟩))
theorem RowAt.next {w w' : World} {S : Nat → Prop} {a : Option Addr} {l : List Nat} (h : RowAt w S a l) (hh : ∀ q, S q → w'.heap[q]? = w.heap[q]?) : RowAt w' S a l := fun j hj => by
 obtain ⟨g, o, h1, h2, h3⟩ := h j hj
 exact ⟨g, o, h1, h2, (World.cell?_of_block (a := ⟨g, o + j, none⟩) (hh g h2)).trans h3⟩
theorem RowAt.wide {w : World} {S S' : Nat → Prop} {a : Option Addr} {l : List Nat} (h : RowAt w S a l) (hh : ∀ q, S q → S' q) : RowAt w S' a l := fun j hj => by
 obtain ⟨g, o, h1, h2, h3⟩ := h j hj
 exact ⟨g, o, h1, hh g h2, h3⟩
structure PhS (w : World) (S : Nat → Prop) (e : Nat) (D : Nat → Prop) (σ : Sta) (v1 v2 v3 v4 v5 : Value) (te : TypeId) : Prop where
 still : ∀ q, S q → q < w.heap.size
 eS : ¬ S e
 eD : ¬ D e
 fld : ∀ b, D b → FdAt w S b (σ.mem b)
 sub : ∀ b, b ∈ σ.ord → D b
 row : ∃ a c, RowAt w S a σ.ord ∧ σ.ord.length ≤ c ∧ (a = none → c = 0) ∧ w.heap[e]? = some (.cells #[.slice a σ.ord.length c, v1, v2, v3, v4, v5] te (0, 0))
def Sta.fs (σ : Sta) : List (Nat × Fd) := σ.ord.map fun b => (b, σ.mem b)
theorem PhS.sh {w : World} {S : Nat → Prop} {e : Nat} {D : Nat → Prop} {σ : Sta} {v1 v2 v3 v4 v5 : Value} {te : TypeId} (h : PhS w S e D σ v1 v2 v3 v4 v5 te) : ∃ a c, Sh w S a σ.fs ∧ σ.fs.length ≤ c ∧ (a = none → c = 0) ∧ w.heap[e]? = some (.cells #[.slice a σ.fs.length c, v1, v2, v3, v4, v5] te (0, 0)) := by
 obtain ⟨a, c, h1, h2, h3, h4⟩ := h.row
 have hl : σ.fs.length = σ.ord.length := by simp [Sta.fs]
 refine ⟨a, c, ⟨h.still, fun j hj => ?_, fun x hx => ?_⟩, by rw [hl]; exact h2, h3, by rw [hl]; exact h4⟩
 ·obtain ⟨g, o, k1, k2, k3⟩ := h1 j (by omega)
  exact ⟨g, o, k1, k2, by simpa [Sta.fs] using k3⟩
 ·obtain ⟨b, hb, rfl⟩ := List.mem_map.1 hx
  exact h.fld b (h.sub b hb)
inductive BkAt (e : Nat) (D : Nat → Prop) (w : World) (S : Nat → Prop) : Nat → Array Value → List Wr → Prop
 | ord (g1 g2 : Nat) (a : Option Addr) (c : Nat) (l : List Nat) : S g1 → S g2 → w.heap[g1]? = some (.cells #[.pointer (some ⟨e, 0, none⟩)] 150 (0, 0)) → w.heap[g2]? = some (.cells #[.slice a l.length c] 58 (0, 0)) → RowAt w S a l → l.length ≤ c → (a = none → c = 0) → (∀ b, b ∈ l → D b) →
   BkAt e D w S 95 #[.pointer (some ⟨g1, 0, none⟩), .pointer (some ⟨g2, 0, none⟩)] [.ord l]
 | nm (g1 g2 b : Nat) (x : By) : S g1 → S g2 → w.heap[g1]? = some (.cells #[.pointer (some ⟨b, 0, none⟩)] 177 (0, 0)) → w.heap[g2]? = some (.cells #[.string ⟨x.toArray⟩] 9 (0, 0)) → D b →
   BkAt e D w S 129 #[.pointer (some ⟨g1, 0, none⟩), .pointer (some ⟨g2, 0, none⟩)] [.nm b x]
 | rl (g1 g2 b : Nat) (p : Pt) (a : Option Addr) (l c : Nat) : S g1 → S g2 → w.heap[g1]? = some (.cells #[.pointer (some ⟨b, 1, none⟩)] 148 (0, 0)) → w.heap[g2]? = some (.cells #[.int .i64 (p.k : Int), .string ⟨p.nm.toArray⟩, .int .i64 (p.n : Int), .slice a l c] 51 (0, 0)) → PIs w S p a l c → Shape p → Good p → (txt p).length ≤ 100 → D b →
   BkAt e D w S 94 #[.pointer (some ⟨g1, 0, none⟩), .pointer (some ⟨g2, 0, none⟩)] [.rl b p]
 | vl (g1 g2 b : Nat) (v : Vl) : S g1 → S g2 → w.heap[g1]? = some (.cells #[.pointer (some ⟨b, 5, none⟩)] 173 (0, 0)) → w.heap[g2]? = some (.cells #[.int .i64 v.1, .int .i64 v.2] 96 (0, 0)) → D b →
   BkAt e D w S 127 #[.pointer (some ⟨g1, 0, none⟩), .pointer (some ⟨g2, 0, none⟩)] [.vl b v]
 | all (g : Nat) (a : Option Addr) (n c : Nat) (N : Nat → Nat) (cs : Nat → Array Value) (us : Nat → List Wr) : S g → w.heap[g]? = some (.cells #[.slice a n c] 61 (0, 0)) → n ≤ c → (n = 0 ∨ ∃ h o, a = some ⟨h, o, none⟩ ∧ S h) → n * 8 ≤ 140737488355328 →
   (∀ i, i < n → ∀ h o, a = some ⟨h, o, none⟩ → w.cell? ⟨h, o + i, none⟩ = some (.func (.func (N i)) #[] (cs i))) → (∀ i, i < n → BkAt e D w S (N i) (cs i) (us i)) →
   BkAt e D w S 44 #[.pointer (some ⟨g, 0, none⟩)] ((List.range n).reverse.flatMap us)
theorem BkAt.next {e : Nat} {D : Nat → Prop} {w w' : World} {S : Nat → Prop} {N : Nat} {cs : Array Value} {us : List Wr} (h : BkAt e D w S N cs us) (hh : ∀ q, S q → w'.heap[q]? = w.heap[q]?) : BkAt e D w' S N cs us := by
 induction h with
 | ord g1 g2 a c l h1 h2 h3 h4 h5 h6 h7 h8 => exact .ord g1 g2 a c l h1 h2 ((hh _ h1).trans h3) ((hh _ h2).trans h4) (h5.next hh) h6 h7 h8
 | nm g1 g2 b x h1 h2 h3 h4 h5 => exact .nm g1 g2 b x h1 h2 ((hh _ h1).trans h3) ((hh _ h2).trans h4) h5
 | rl g1 g2 b p a l c h1 h2 h3 h4 h5 h6 h7 h8 h9 => exact .rl g1 g2 b p a l c h1 h2 ((hh _ h1).trans h3) ((hh _ h2).trans h4) (h5.next hh) h6 h7 h8 h9
 | vl g1 g2 b v h1 h2 h3 h4 h5 => exact .vl g1 g2 b v h1 h2 ((hh _ h1).trans h3) ((hh _ h2).trans h4) h5
 | all g a n c N cs us h1 h2 h3 h4 h5 h6 _ ih =>
  refine .all g a n c N cs us h1 ((hh _ h1).trans h2) h3 h4 h5 (fun i hi h o e' => ?_) ih
  rcases h4 with h4 | ⟨g', o', h4, h4'⟩
  ·omega
  ·rw [e'] at h4
   cases h4
   exact (World.cell?_of_block (a := ⟨h, o + i, none⟩) (hh h h4')).trans (h6 i hi h o e')
theorem BkAt.wide {e : Nat} {D D' : Nat → Prop} {w : World} {S S' : Nat → Prop} {N : Nat} {cs : Array Value} {us : List Wr} (h : BkAt e D w S N cs us) (hh : ∀ q, S q → S' q) (hD : ∀ q, D q → D' q) : BkAt e D' w S' N cs us := by
 induction h with
 | ord g1 g2 a c l h1 h2 h3 h4 h5 h6 h7 h8 => exact .ord g1 g2 a c l (hh _ h1) (hh _ h2) h3 h4 (h5.wide hh) h6 h7 fun b hb => hD b (h8 b hb)
 | nm g1 g2 b x h1 h2 h3 h4 h5 => exact .nm g1 g2 b x (hh _ h1) (hh _ h2) h3 h4 (hD b h5)
 | rl g1 g2 b p a l c h1 h2 h3 h4 h5 h6 h7 h8 h9 => exact .rl g1 g2 b p a l c (hh _ h1) (hh _ h2) h3 h4 (h5.wide hh) h6 h7 h8 (hD b h9)
 | vl g1 g2 b v h1 h2 h3 h4 h5 => exact .vl g1 g2 b v (hh _ h1) (hh _ h2) h3 h4 (hD b h5)
 | all g a n c N cs us h1 h2 h3 h4 h5 h6 _ ih =>
  refine .all g a n c N cs us (hh _ h1) h2 h3 (h4.imp id ?_) h5 h6 ih
  rintro ⟨h, o, e1, e2⟩
  exact ⟨h, o, e1, hh h e2⟩
theorem BkAt.enters {e : Nat} {D : Nat → Prop} {w : World} {S : Nat → Prop} {N : Nat} {cs : Array Value} {us : List Wr} (h : BkAt e D w S N cs us) : ∀ args w, (callFunc N args).run Tryz.prog w = .ok (.enter N args) w := by
 cases h with
 | ord => exact enters_of Tryz.func95 (by kernel_rfl) rfl
 | nm => exact enters_of Tryz.func129 (by kernel_rfl) rfl
 | rl => exact enters_of Tryz.func94 (by kernel_rfl) rfl
 | vl => exact enters_of Tryz.func127 (by kernel_rfl) rfl
 | all => exact enters_of Tryz.func44 (by kernel_rfl) rfl
def BkPostO (S O : Nat → Prop) (e : Nat) (D : Nat → Prop) (σ : Sta) (us : List Wr) (v1 v2 v3 v4 v5 : Value) (te : TypeId) (w : World) (r : Ending) (w' : World) : Prop :=
 ∃ (N' : Nat) (cs' : Array Value) (S' : Nat → Prop), r = .returned (.func (.func N') #[] cs') ∧ (∀ q, S q → S' q) ∧ (∀ q, S' q → S q ∨ (O q ∧ ∃ c t z, w'.heap[q]? = some (.cells c t z))) ∧ PhS w' S' e D (runW us σ) v1 v2 v3 v4 v5 te ∧ BkAt e D w' S' N' cs' (invW us σ) ∧ Ks (fun q => q = e ∨ D q) w w'
def BkPost (S : Nat → Prop) (e : Nat) (D : Nat → Prop) (σ : Sta) (us : List Wr) (v1 v2 v3 v4 v5 : Value) (te : TypeId) (w : World) (r : Ending) (w' : World) : Prop := BkPostO S (fun q => w.heap.size ≤ q) e D σ us v1 v2 v3 v4 v5 te w r w'
end
section
variable {w w' : World} {S S' : Nat → Prop} {e b : Nat} {D : Nat → Prop} {σ : Sta} {v1 v2 v3 v4 v5 : Value} {te : TypeId}
theorem PhS.lt (h : PhS w S e D σ v1 v2 v3 v4 v5 te) : e < w.heap.size := by
 obtain ⟨a, c, _, _, _, h4⟩ := h.row
 exact (Array.getElem?_eq_some_iff.1 h4).1
theorem FdAt.more {f : Fd} (h : FdAt w S b f) (hs : ∀ q, S q → S' q) (hb : ¬ S' b) : FdAt w S' b f := by
 obtain ⟨_, h2, h3, h4, a, l, c, h5, h6⟩ := h
 exact ⟨hb, h2, h3, h4, a, l, c, h5, h6.wide hs⟩
theorem own_ke {P : Nat → Prop} {w w' : World} {base z n : Nat} {e : TypeId} {v : Value} {xs : List Value} (h : w.ownsRow base e z v n xs) (hk : Ks P w w') (hP : ∀ q, v.ownBlock = some q → ¬ P q) : w'.ownsRow base e z v n xs := by
 obtain ⟨h1, h2⟩ := h
 refine ⟨h1, h2.imp id ?_⟩
 rintro ⟨g, cap, cur, rfl, h4, h5, h6⟩
 exact ⟨g, cap, cur, rfl, h4, (hk.block g (Array.getElem?_eq_some_iff.1 h5).1 (hP g rfl)).trans h5, h6⟩
theorem PhS.fldPut (h : PhS w S e D σ v1 v2 v3 v4 v5 te) (hb : D b) (f : Fd) (hf : FdAt w' S' b f) (hk : Ks (fun q => q = b) w w') (hS : ∀ q, S q → S' q) (hS' : ∀ q, S' q → S q ∨ (w.heap.size ≤ q ∧ q < w'.heap.size)) : PhS w' S' e D (σ.put b f) v1 v2 v3 v4 v5 te := by
 have hel := h.lt
 have hne : e ≠ b := fun e' => h.eD (e' ▸ hb)
 have blk : ∀ q, S q → w'.heap[q]? = w.heap[q]? := fun q hq => hk.block q (h.still q hq) (fun e' => (h.fld b hb).1 (e' ▸ hq))
 refine ⟨fun q hq => ?_, fun hq => ?_, h.eD, fun q hq => ?_, h.sub, ?_⟩
 ·rcases hS' q hq with h1 | h1
  ·exact Nat.lt_of_lt_of_le (h.still q h1) hk.size
  ·exact h1.2
 ·rcases hS' e hq with h1 | h1
  ·exact h.eS h1
  ·omega
 ·by_cases e' : q = b
  ·subst e'
   rw [put_mem]
   exact hf
  ·rw [put_mem_ne _ _ _ _ e']
   have hq' := h.fld q hq
   refine (hq'.stays (hk.block q hq'.lt e') blk).more hS fun h1 => ?_
   rcases hS' q h1 with h2 | h2
   ·exact hq'.1 h2
   ·have := hq'.lt; omega
 ·obtain ⟨a, c, h1, h2, h3, h4⟩ := h.row
  exact ⟨a, c, (h1.next blk).wide hS, h2, h3, (hk.block e hel hne).trans h4⟩
theorem PhS.ordPut (h : PhS w S e D σ v1 v2 v3 v4 v5 te) (l : List Nat) (a : Option Addr) (c : Nat) (hl : ∀ b, b ∈ l → D b) (hr : RowAt w S a l) (hc : l.length ≤ c) (hn : a = none → c = 0) (he : w'.heap[e]? = some (.cells #[.slice a l.length c, v1, v2, v3, v4, v5] te (0, 0))) (hk : Ks (fun q => q = e) w w') (hS : ∀ q, S q → S' q) (hS' : ∀ q, S' q → S q ∨ (w.heap.size ≤ q ∧ q < w'.heap.size)) : PhS w' S' e D ⟨l, σ.mem⟩ v1 v2 v3 v4 v5 te := by
 have hel := h.lt
 have blk : ∀ q, S q → w'.heap[q]? = w.heap[q]? := fun q hq => hk.block q (h.still q hq) (fun e' => h.eS (e' ▸ hq))
 refine ⟨fun q hq => ?_, fun hq => ?_, h.eD, fun q hq => ?_, hl, a, c, (hr.next blk).wide hS, hc, hn, he⟩
 ·rcases hS' q hq with h1 | h1
  ·exact Nat.lt_of_lt_of_le (h.still q h1) hk.size
  ·exact h1.2
 ·rcases hS' e hq with h1 | h1
  ·exact h.eS h1
  ·omega
 ·have hq' := h.fld q hq
  refine (hq'.stays (hk.block q hq'.lt (fun e' => h.eD (e' ▸ hq))) blk).more hS fun h1 => ?_
  rcases hS' q h1 with h2 | h2
  ·exact hq'.1 h2
  ·have := hq'.lt; omega
theorem PhS.next (h : PhS w S e D σ v1 v2 v3 v4 v5 te) (hb : Below w.heap.size w w') : PhS w' S e D σ v1 v2 v3 v4 v5 te := by
 obtain ⟨a, c, h1, h2, h3, h4⟩ := h.row
 exact ⟨fun q hq => Nat.lt_of_lt_of_le (h.still q hq) hb.size, h.eS, h.eD, fun q hq => (h.fld q hq).next h.still hb, h.sub, a, c, h1.next (fun q hq => hb.block q (h.still q hq)), h2, h3, (hb.block e h.lt).trans h4⟩
theorem PhS.same (h : PhS w S e D σ v1 v2 v3 v4 v5 te) (hh : ∀ q, (S q ∨ q = e ∨ D q) → w'.heap[q]? = w.heap[q]?) (hs : w.heap.size ≤ w'.heap.size) : PhS w' S e D σ v1 v2 v3 v4 v5 te := by
 obtain ⟨a, c, h1, h2, h3, h4⟩ := h.row
 exact ⟨fun q hq => Nat.lt_of_lt_of_le (h.still q hq) hs, h.eS, h.eD, fun q hq => (h.fld q hq).stays (hh q (Or.inr (Or.inr hq))) fun q hq => hh q (Or.inl hq), h.sub, a, c, h1.next (fun q hq => hh q (Or.inl hq)), h2, h3, (hh e (Or.inr (Or.inl rfl))).trans h4⟩
theorem BkAt.later {N : Nat} {cs : Array Value} {us : List Wr} (h : BkAt e D w S N cs us) (hS : ∀ q, S q → q < w.heap.size) (hb : Below w.heap.size w w') : BkAt e D w' S N cs us := h.next fun q hq => hb.block q (hS q hq)
theorem PhS.notP (h : PhS w S e D σ v1 v2 v3 v4 v5 te) : ∀ q, S q → ¬ (q = e ∨ D q) := fun q hq hh => by
 rcases hh with rfl | hh
 ·exact h.eS hq
 ·exact (h.fld q hh).1 hq
def S2 (S : Nat → Prop) (g1 g2 : Nat) (q : Nat) : Prop := S q ∨ q = g1 ∨ q = g2
theorem S2_old {g1 g2 : Nat} (q : Nat) (h : S q) : S2 S g1 g2 q := Or.inl h
theorem S2_new {g1 g2 : Nat} {c1 c2 : Array Value} {t1 t2 : TypeId} {z1 z2 : Nat × Nat} (h1 : w.heap.size ≤ g1) (h2 : w.heap.size ≤ g2) (k1 : w'.heap[g1]? = some (.cells c1 t1 z1)) (k2 : w'.heap[g2]? = some (.cells c2 t2 z2)) (q : Nat) (h : S2 S g1 g2 q) : S q ∨ (w.heap.size ≤ q ∧ ∃ c t z, w'.heap[q]? = some (.cells c t z)) := by
 rcases h with h | rfl | rfl
 ·exact Or.inl h
 ·exact Or.inr ⟨h1, _, _, _, k1⟩
 ·exact Or.inr ⟨h2, _, _, _, k2⟩
theorem S2_lt {g1 g2 : Nat} {c1 c2 : Array Value} {t1 t2 : TypeId} {z1 z2 : Nat × Nat} (h1 : w.heap.size ≤ g1) (h2 : w.heap.size ≤ g2) (k1 : w'.heap[g1]? = some (.cells c1 t1 z1)) (k2 : w'.heap[g2]? = some (.cells c2 t2 z2)) (q : Nat) (h : S2 S g1 g2 q) : S q ∨ (w.heap.size ≤ q ∧ q < w'.heap.size) := by
 rcases h with h | rfl | rfl
 ·exact Or.inl h
 ·exact Or.inr ⟨h1, (Array.getElem?_eq_some_iff.1 k1).1⟩
 ·exact Or.inr ⟨h2, (Array.getElem?_eq_some_iff.1 k2).1⟩
theorem putOrd (h : PhS w S e D σ v1 v2 v3 v4 v5 te) (l : List Nat) (a : Option Addr) (c : Nat) (hl : ∀ b, b ∈ l → D b) (hr : RowAt w S a l) (hc : l.length ≤ c) (hn : a = none → c = 0) :
  Calls Tryz.prog 75 #[.pointer (some ⟨e, 0, none⟩), .slice a l.length c] w (BkPost S e D σ [.ord l] v1 v2 v3 v4 v5 te w) := by
 obtain ⟨a0, c0, r1, r2, r3, r4⟩ := h.row
 refine (putOrderX e a0 σ.ord.length c0 a l.length c v1 v2 v3 v4 v5 te w r4).mono ?_
 rintro r w' ⟨g1, g2, rfl, he, hk, k1, k2, k3, k4⟩
 have blk : ∀ q, S q → w'.heap[q]? = w.heap[q]? := fun q hq => hk.block q (h.still q hq) (fun e' => h.eS (e' ▸ hq))
 refine ⟨_, _, S2 S g1 g2, rfl, S2_old, S2_new k1 k2 k3 k4, h.ordPut l a c hl hr hc hn he hk S2_old (S2_lt k1 k2 k3 k4), ?_, hk.wide fun q hq => Or.inl hq⟩
 exact .ord g1 g2 a0 c0 σ.ord (Or.inr (Or.inl rfl)) (Or.inr (Or.inr rfl)) k3 k4 ((r1.next blk).wide S2_old) r2 r3 h.sub
theorem FdAt.open {f : Fd} (h : FdAt w S b f) : ∃ (a : Option Addr) (l c : Nat), w.heap[b]? = some (.cells #[.string ⟨f.nm.toArray⟩, .int .i64 (f.p.k : Int), .string ⟨f.p.nm.toArray⟩, .int .i64 (f.p.n : Int), .slice a l c, .int .i64 f.v.1, .int .i64 f.v.2] 119 (0, 0)) ∧ PIs w S f.p a l c := h.2.2.2.2
theorem putRl (h : PhS w S e D σ v1 v2 v3 v4 v5 te) (hb : D b) (p : Pt) (a : Option Addr) (l c : Nat) (hp : PIs w S p a l c) (hsh : Shape p) (hgd : Good p) (htx : (txt p).length ≤ 100) :
  Calls Tryz.prog 74 #[.pointer (some ⟨b, 1, none⟩), .agg #[.int .i64 (p.k : Int), .string ⟨p.nm.toArray⟩, .int .i64 (p.n : Int), .slice a l c]] w (BkPost S e D σ [.rl b p] v1 v2 v3 v4 v5 te w) := by
 have hF := h.fld b hb
 have hF' := hF
 obtain ⟨f1, f2, f3, f4, a0, l0, c0, r1, r2⟩ := hF
 refine (putRule b _ _ _ _ _ _ a0 l0 c0 p.k p.nm p.n a l c _ w r1).mono ?_
 rintro r w' ⟨g1, g2, rfl, k1, k2, _, k3, k4, hrow, hk⟩
 have blk : ∀ q, S q → w'.heap[q]? = w.heap[q]? := fun q hq => hk.block q (h.still q hq) (fun e' => f1 (e' ▸ hq))
 have hbl := hF'.lt
 refine ⟨_, _, S2 S g1 g2, rfl, S2_old, S2_new k1 k2 k3 k4, h.fldPut hb _ ⟨?_, hsh, hgd, htx, a, l, c, hrow, (hp.next blk).wide S2_old⟩ hk S2_old (S2_lt k1 k2 k3 k4), ?_, hk.wide fun q hq => Or.inr (by rw [show q = b from hq]; exact hb)⟩
 ·rintro (h1 | h1 | h1)
  ·exact f1 h1
  ·omega
  ·omega
 ·exact .rl g1 g2 b _ a0 l0 c0 (Or.inr (Or.inl rfl)) (Or.inr (Or.inr rfl)) k3 k4 ((r2.next blk).wide S2_old) f2 f3 f4 hb
theorem putVlX (h : PhS w S e D σ v1 v2 v3 v4 v5 te) (hb : D b) (v : Vl) {a0 : Option Addr} {l0 c0 : Nat} (r1 : w.heap[b]? = some (.cells #[.string ⟨(σ.mem b).nm.toArray⟩, .int .i64 ((σ.mem b).p.k : Int), .string ⟨(σ.mem b).p.nm.toArray⟩, .int .i64 ((σ.mem b).p.n : Int), .slice a0 l0 c0, .int .i64 (σ.mem b).v.1, .int .i64 (σ.mem b).v.2] 119 (0, 0))) (r2 : PIs w S (σ.mem b).p a0 l0 c0) :
  Calls Tryz.prog 99 #[.pointer (some ⟨b, 5, none⟩), .agg #[.int .i64 v.1, .int .i64 v.2]] w fun r w' => BkPost S e D σ [.vl b v] v1 v2 v3 v4 v5 te w r w' ∧ w'.heap[b]? = some (.cells #[.string ⟨(σ.mem b).nm.toArray⟩, .int .i64 ((σ.mem b).p.k : Int), .string ⟨(σ.mem b).p.nm.toArray⟩, .int .i64 ((σ.mem b).p.n : Int), .slice a0 l0 c0, .int .i64 v.1, .int .i64 v.2] 119 (0, 0)) := by
 have hF := h.fld b hb
 obtain ⟨f1, f2, f3, f4, _⟩ := hF
 obtain ⟨⟨k0, k1, k2, k3, k4, k5, k6⟩, hfz, hbl⟩ := row7 r1
 refine (putValue b _ _ v.1 v.2 w k5 k6 (hfz 5) (hfz 6) hbl).mono ?_
 rintro r w' ⟨rfl, rfl⟩
 have hk : Ks (fun q => q = b) w ((((w.setCell ⟨b, 5, none⟩ (.int .i64 v.1)).setCell ⟨b, 6, none⟩ (.int .i64 v.2)).alloc (.cells #[.pointer (some ⟨b, 5, none⟩)] 173)).alloc (.cells #[.int .i64 v.1, .int .i64 v.2] 96)|>.alloc (.cells #[.int .i64 (σ.mem b).v.1, .int .i64 (σ.mem b).v.2] 96)) := (((((Ks.refl (fun q => q = b) w).set b 5 _ rfl).set b 6 _ rfl).alloc _).alloc _).alloc _
 have j3 := alloc3_0 ((w.setCell ⟨b, 5, none⟩ (.int .i64 v.1)).setCell ⟨b, 6, none⟩ (.int .i64 v.2)) (.cells #[.pointer (some ⟨b, 5, none⟩)] 173) (.cells #[.int .i64 v.1, .int .i64 v.2] 96) (.cells #[.int .i64 (σ.mem b).v.1, .int .i64 (σ.mem b).v.2] 96)
 have j4 := alloc3_new ((w.setCell ⟨b, 5, none⟩ (.int .i64 v.1)).setCell ⟨b, 6, none⟩ (.int .i64 v.2)) (.cells #[.pointer (some ⟨b, 5, none⟩)] 173) (.cells #[.int .i64 v.1, .int .i64 v.2] 96) #[.int .i64 (σ.mem b).v.1, .int .i64 (σ.mem b).v.2] 96
 have jr := alloc3_old ((w.setCell ⟨b, 5, none⟩ (.int .i64 v.1)).setCell ⟨b, 6, none⟩ (.int .i64 v.2)) (.cells #[.pointer (some ⟨b, 5, none⟩)] 173) (.cells #[.int .i64 v.1, .int .i64 v.2] 96) (.cells #[.int .i64 (σ.mem b).v.1, .int .i64 (σ.mem b).v.2] 96) b (by simpa using hbl)
 rw [setCell_block (setCell_block r1 _ _)] at jr
 simp only [World.size_setCell] at j3 j4
 generalize ((((w.setCell ⟨b, 5, none⟩ (.int .i64 v.1)).setCell ⟨b, 6, none⟩ (.int .i64 v.2)).alloc (.cells #[.pointer (some ⟨b, 5, none⟩)] 173)).alloc (.cells #[.int .i64 v.1, .int .i64 v.2] 96)|>.alloc (.cells #[.int .i64 (σ.mem b).v.1, .int .i64 (σ.mem b).v.2] 96)) = w' at *
 have blk : ∀ q, S q → w'.heap[q]? = w.heap[q]? := fun q hq => hk.block q (h.still q hq) (fun e' => f1 (e' ▸ hq))
 have q2 : w.heap.size ≤ w.heap.size + 1 + 1 := by omega
 refine ⟨⟨_, _, S2 S w.heap.size (w.heap.size + 1 + 1), rfl, S2_old, S2_new (Nat.le_refl _) q2 j3 j4, h.fldPut hb _ ⟨?_, f2, f3, f4, a0, l0, c0, jr, (r2.next blk).wide S2_old⟩ hk S2_old (S2_lt (Nat.le_refl _) q2 j3 j4), ?_, hk.wide fun q hq => Or.inr (by rw [show q = b from hq]; exact hb)⟩, jr⟩
 ·rintro (h1 | h1 | h1)
  ·exact f1 h1
  ·omega
  ·omega
 ·exact .vl _ _ b _ (Or.inr (Or.inl rfl)) (Or.inr (Or.inr rfl)) j3 j4 hb
theorem putVl (h : PhS w S e D σ v1 v2 v3 v4 v5 te) (hb : D b) (v : Vl) :
  Calls Tryz.prog 99 #[.pointer (some ⟨b, 5, none⟩), .agg #[.int .i64 v.1, .int .i64 v.2]] w (BkPost S e D σ [.vl b v] v1 v2 v3 v4 v5 te w) := by
 obtain ⟨_, _, _, _, a0, l0, c0, r1, r2⟩ := h.fld b hb
 exact (putVlX h hb v r1 r2).mono fun _ _ h => h.1
theorem putName (q : Nat) (x x' : By) (w : World) (hc : w.cell? ⟨q, 0, none⟩ = some (.string ⟨x.toArray⟩)) (hf : w.frozen? ⟨q, 0, none⟩ = false) (hq : q < w.heap.size) :
  Calls Tryz.prog 102 #[.pointer (some ⟨q, 0, none⟩), .string ⟨x'.toArray⟩] w fun e w' => e = .returned (.func (.func 129) #[] #[.pointer (some ⟨w.heap.size, 0, none⟩), .pointer (some ⟨w.heap.size + 1, 0, none⟩)]) ∧ w' = ((w.setCell ⟨q, 0, none⟩ (.string ⟨x'.toArray⟩)).alloc (.cells #[.pointer (some ⟨q, 0, none⟩)] 177)).alloc (.cells #[.string ⟨x.toArray⟩] 9) := by
 go_enter Tryz.func102, Tryz.ntmps102
 go_wp2
 go_ret
 exact ⟨rfl, rfl⟩
theorem putNm (h : PhS w S e D σ v1 v2 v3 v4 v5 te) (hb : D b) (x : By) :
  Calls Tryz.prog 102 #[.pointer (some ⟨b, 0, none⟩), .string ⟨x.toArray⟩] w (BkPost S e D σ [.nm b x] v1 v2 v3 v4 v5 te w) := by
 have hF := h.fld b hb
 obtain ⟨f1, f2, f3, f4, a0, l0, c0, r1, r2⟩ := hF
 obtain ⟨⟨k0, k1, k2, k3, k4, k5, k6⟩, hfz, hbl⟩ := row7 r1
 refine (putName b _ x w k0 (hfz 0) hbl).mono ?_
 rintro r w' ⟨rfl, rfl⟩
 have hk : Ks (fun q => q = b) w (((w.setCell ⟨b, 0, none⟩ (.string ⟨x.toArray⟩)).alloc (.cells #[.pointer (some ⟨b, 0, none⟩)] 177)).alloc (.cells #[.string ⟨(σ.mem b).nm.toArray⟩] 9)) := (((Ks.refl (fun q => q = b) w).set b 0 _ rfl).alloc _).alloc _
 have j3 := alloc2_old (w.setCell ⟨b, 0, none⟩ (.string ⟨x.toArray⟩)) #[.pointer (some ⟨b, 0, none⟩)] 177 (.cells #[.string ⟨(σ.mem b).nm.toArray⟩] 9)
 have j4 := alloc2_new' (w.setCell ⟨b, 0, none⟩ (.string ⟨x.toArray⟩)) (.cells #[.pointer (some ⟨b, 0, none⟩)] 177) #[.string ⟨(σ.mem b).nm.toArray⟩] 9
 have jr : (((w.setCell ⟨b, 0, none⟩ (.string ⟨x.toArray⟩)).alloc (.cells #[.pointer (some ⟨b, 0, none⟩)] 177)).alloc (.cells #[.string ⟨(σ.mem b).nm.toArray⟩] 9)).heap[b]? = some (.cells #[.string ⟨x.toArray⟩, .int .i64 ((σ.mem b).p.k : Int), .string ⟨(σ.mem b).p.nm.toArray⟩, .int .i64 ((σ.mem b).p.n : Int), .slice a0 l0 c0, .int .i64 (σ.mem b).v.1, .int .i64 (σ.mem b).v.2] 119 (0, 0)) := by
  rw [Below.heap_alloc _ _ _ (by simp; omega), Below.heap_alloc _ _ _ (by simpa using hbl), setCell_block r1]
  rfl
 simp only [World.size_setCell] at j3 j4
 generalize (((w.setCell ⟨b, 0, none⟩ (.string ⟨x.toArray⟩)).alloc (.cells #[.pointer (some ⟨b, 0, none⟩)] 177)).alloc (.cells #[.string ⟨(σ.mem b).nm.toArray⟩] 9)) = w' at *
 have blk : ∀ q, S q → w'.heap[q]? = w.heap[q]? := fun q hq => hk.block q (h.still q hq) (fun e' => f1 (e' ▸ hq))
 have q2 : w.heap.size ≤ w.heap.size + 1 := by omega
 refine ⟨_, _, S2 S w.heap.size (w.heap.size + 1), rfl, S2_old, S2_new (Nat.le_refl _) q2 j3 j4, h.fldPut hb _ ⟨?_, f2, f3, f4, a0, l0, c0, jr, (r2.next blk).wide S2_old⟩ hk S2_old (S2_lt (Nat.le_refl _) q2 j3 j4), ?_, hk.wide fun q hq => Or.inr (by rw [show q = b from hq]; exact hb)⟩
 ·rintro (h1 | h1 | h1)
  ·exact f1 h1
  ·omega
  ·omega
 ·exact .nm _ _ b _ (Or.inr (Or.inl rfl)) (Or.inr (Or.inr rfl)) j3 j4 hb
end
section
variable {w w' : World} {S S' : Nat → Prop} {e b : Nat} {D : Nat → Prop} {σ : Sta} {v1 v2 v3 v4 v5 : Value} {te : TypeId}
theorem bkOrd (h : PhS w S e D σ v1 v2 v3 v4 v5 te) (g1 g2 : Nat) (l : List Nat) (a : Option Addr) (c : Nat) (h1 : w.heap[g1]? = some (.cells #[.pointer (some ⟨e, 0, none⟩)] 150 (0, 0))) (h2 : w.heap[g2]? = some (.cells #[.slice a l.length c] 58 (0, 0))) (hl : ∀ b, b ∈ l → D b) (hr : RowAt w S a l) (hc : l.length ≤ c) (hn : a = none → c = 0) :
  Calls Tryz.prog 95 #[.pointer (some ⟨g1, 0, none⟩), .pointer (some ⟨g2, 0, none⟩)] w (BkPost S e D σ [.ord l] v1 v2 v3 v4 v5 te w) := by
 have HP := tZ (putOrd h l a c hl hr hc hn)
 have m1 : w.cell? ⟨g1, 0, none⟩ = some (.pointer (some ⟨e, 0, none⟩)) := (cell_of_row w g1 0 _ _ _ h1).trans rfl
 have m2 : w.cell? ⟨g2, 0, none⟩ = some (.slice a l.length c) := (cell_of_row w g2 0 _ _ _ h2).trans rfl
 clear h1 h2 hr h
 go_enter Tryz.func95, Tryz.ntmps95
 go_wp2_with (first | (go_at_call 75; refine HP.out.mono ?_; rintro r w1 ⟨N', cs', S', rfl, hrest⟩; have HR := tZ hrest; clear hrest))
 go_ret
 exact ⟨N', cs', S', rfl, HR.out⟩
theorem bkNm (h : PhS w S e D σ v1 v2 v3 v4 v5 te) (g1 g2 : Nat) (x : By) (h1 : w.heap[g1]? = some (.cells #[.pointer (some ⟨b, 0, none⟩)] 177 (0, 0))) (h2 : w.heap[g2]? = some (.cells #[.string ⟨x.toArray⟩] 9 (0, 0))) (hb : D b) :
  Calls Tryz.prog 129 #[.pointer (some ⟨g1, 0, none⟩), .pointer (some ⟨g2, 0, none⟩)] w (BkPost S e D σ [.nm b x] v1 v2 v3 v4 v5 te w) := by
 have HP := tZ (putNm h hb x)
 have m1 : w.cell? ⟨g1, 0, none⟩ = some (.pointer (some ⟨b, 0, none⟩)) := (cell_of_row w g1 0 _ _ _ h1).trans rfl
 have m2 : w.cell? ⟨g2, 0, none⟩ = some (.string ⟨x.toArray⟩) := (cell_of_row w g2 0 _ _ _ h2).trans rfl
 clear h1 h2 h
 go_enter Tryz.func129, Tryz.ntmps129
 go_wp2_with (first | (go_at_call 102; refine HP.out.mono ?_; rintro r w1 ⟨N', cs', S', rfl, hrest⟩; have HR := tZ hrest; clear hrest))
 go_ret
 exact ⟨N', cs', S', rfl, HR.out⟩
theorem bkRl (h : PhS w S e D σ v1 v2 v3 v4 v5 te) (g1 g2 : Nat) (p : Pt) (a : Option Addr) (l c : Nat) (h1 : w.heap[g1]? = some (.cells #[.pointer (some ⟨b, 1, none⟩)] 148 (0, 0))) (h2 : w.heap[g2]? = some (.cells #[.int .i64 (p.k : Int), .string ⟨p.nm.toArray⟩, .int .i64 (p.n : Int), .slice a l c] 51 (0, 0))) (hb : D b) (hp : PIs w S p a l c) (hsh : Shape p) (hgd : Good p) (htx : (txt p).length ≤ 100) :
  Calls Tryz.prog 94 #[.pointer (some ⟨g1, 0, none⟩), .pointer (some ⟨g2, 0, none⟩)] w (BkPost S e D σ [.rl b p] v1 v2 v3 v4 v5 te w) := by
 have HP := tZ (putRl h hb p a l c hp hsh hgd htx)
 have m0 : w.cell? ⟨g1, 0, none⟩ = some (.pointer (some ⟨b, 1, none⟩)) := (cell_of_row w g1 0 _ _ _ h1).trans rfl
 obtain ⟨⟨j0, j1, j2, j3⟩, _, _⟩ := row4 h2
 clear h1 h2 h hp
 go_enter Tryz.func94, Tryz.ntmps94
 go_wp2_with (first | (go_at_call 74; refine HP.out.mono ?_; rintro r w1 ⟨N', cs', S', rfl, hrest⟩; have HR := tZ hrest; clear hrest))
 go_ret
 exact ⟨N', cs', S', rfl, HR.out⟩
theorem bkVl (h : PhS w S e D σ v1 v2 v3 v4 v5 te) (g1 g2 : Nat) (v : Vl) (h1 : w.heap[g1]? = some (.cells #[.pointer (some ⟨b, 5, none⟩)] 173 (0, 0))) (h2 : w.heap[g2]? = some (.cells #[.int .i64 v.1, .int .i64 v.2] 96 (0, 0))) (hb : D b) :
  Calls Tryz.prog 127 #[.pointer (some ⟨g1, 0, none⟩), .pointer (some ⟨g2, 0, none⟩)] w (BkPost S e D σ [.vl b v] v1 v2 v3 v4 v5 te w) := by
 have HP := tZ (putVl h hb v)
 have m0 : w.cell? ⟨g1, 0, none⟩ = some (.pointer (some ⟨b, 5, none⟩)) := (cell_of_row w g1 0 _ _ _ h1).trans rfl
 have j0 : w.cell? ⟨g2, 0, none⟩ = some (.int .i64 v.1) := (cell_of_row w g2 0 _ _ _ h2).trans rfl
 have j1 : w.cell? ⟨g2, 1, none⟩ = some (.int .i64 v.2) := (cell_of_row w g2 1 _ _ _ h2).trans rfl
 clear h1 h2 h
 go_enter Tryz.func127, Tryz.ntmps127
 go_wp2_with (first | (go_at_call 99; refine HP.out.mono ?_; rintro r w1 ⟨N', cs', S', rfl, hrest⟩; have HR := tZ hrest; clear hrest))
 go_ret
 exact ⟨N', cs', S', rfl, HR.out⟩
end
section
def fnV (N : Nat) (cs : Array Value) : Value := .func (.func N) #[] cs
structure Built (S O : Nat → Prop) (e : Nat) (D : Nat → Prop) (σ : Sta) (v1 v2 v3 v4 v5 : Value) (te : TypeId) (w W : World) (S1 : Nat → Prop) (v : Value) (k : Nat) (ws : List Wr) (N : Nat → Nat) (cs : Nat → Array Value) (us : Nat → List Wr) : Prop where
 s0 : ∀ q, S q → S1 q
 s1 : ∀ q, S1 q → S q ∨ (O q ∧ ∃ c t z, W.heap[q]? = some (.cells c t z))
 ph : PhS W S1 e D (runW ws σ) v1 v2 v3 v4 v5 te
 own : W.ownsRow w.heap.size 84 1 v k ((List.range k).map fun j => fnV (N j) (cs j))
 ob : ∀ q, v.ownBlock = some q → ¬ S1 q ∧ q ≠ e ∧ ¬ D q
 oo : ∀ q, v.ownBlock = some q → O q
 bk : ∀ j, j < k → BkAt e D W S1 (N j) (cs j) (us j)
 inv : (List.range k).reverse.flatMap us = invW ws σ
 ks : Ks (fun q => q = e ∨ D q) w W
variable {S S1 O : Nat → Prop} {e : Nat} {D : Nat → Prop} {σ : Sta} {v1 v2 v3 v4 v5 : Value} {te : TypeId} {w W W1 W2 : World} {v v' : Value} {k : Nat} {ws : List Wr} {N : Nat → Nat} {cs : Nat → Array Value} {us : Nat → List Wr}
theorem Built.start (h : PhS w S e D σ v1 v2 v3 v4 v5 te) : Built S O e D σ v1 v2 v3 v4 v5 te w w S (.slice none 0 0) 0 [] (fun _ => 0) (fun _ => #[]) (fun _ => []) :=
 ⟨fun _ h => h, fun _ h => Or.inl h, h, World.ownsRow_nil _ _ _ _, fun q hq => by simp [Value.ownBlock] at hq, fun q hq => by simp [Value.ownBlock] at hq, fun j hj => by omega, rfl, Ks.refl _ _⟩
theorem Built.next (h : Built S O e D σ v1 v2 v3 v4 v5 te w W S1 v k ws N cs us) (hb : Below W.heap.size W W1) : Built S O e D σ v1 v2 v3 v4 v5 te w W1 S1 v k ws N cs us := by
 refine ⟨h.s0, fun q hq => (h.s1 q hq).imp id ?_, h.ph.next hb, own_below h.own hb, h.ob, h.oo, fun j hj => (h.bk j hj).later h.ph.still hb, h.inv, h.ks.trans (Ks.of hb)⟩
 rintro ⟨h1, c, t, z, h2⟩
 exact ⟨h1, c, t, z, (hb.block q (Array.getElem?_eq_some_iff.1 h2).1).trans h2⟩
theorem Ks.cells {P : Nat → Prop} {w w' : World} (h : Ks P w w') {q : Nat} {c : Array Value} {t : TypeId} {z : Nat × Nat} (hq : w.heap[q]? = some (.cells c t z)) (hP : ¬ P q) : w'.heap[q]? = some (.cells c t z) := (h.block q (Array.getElem?_eq_some_iff.1 hq).1 hP).trans hq
theorem Built.step (hO : ∀ q, W.heap.size ≤ q → O q) (h : Built S O e D σ v1 v2 v3 v4 v5 te w W S1 v k ws N cs us) {us1 : List Wr} {N1 : Nat} {cs1 : Array Value} {S2 : Nat → Prop} (q0 : ∀ q, S1 q → S2 q) (q1 : ∀ q, S2 q → S1 q ∨ (W.heap.size ≤ q ∧ ∃ c t z, W1.heap[q]? = some (.cells c t z))) (hp : PhS W1 S2 e D (runW us1 (runW ws σ)) v1 v2 v3 v4 v5 te) (hbk : BkAt e D W1 S2 N1 cs1 (invW us1 (runW ws σ))) (hk : Ks (fun q => q = e ∨ D q) W W1)
  {o : Obj} (hg : (W1.alloc o).grownBy W2 v.ownBlock) (ho : W2.ownsRow w.heap.size 84 1 v' (k + 1) (((List.range k).map fun j => fnV (N j) (cs j)) ++ [fnV N1 cs1])) (hv : v'.ownBlock = v.ownBlock ∨ ∃ g, v'.ownBlock = some g ∧ W1.heap.size ≤ g) :
  Built S O e D σ v1 v2 v3 v4 v5 te w W2 S2 v' (k + 1) (ws ++ us1) (fun j => if j = k then N1 else N j) (fun j => if j = k then cs1 else cs j) (fun j => if j = k then invW us1 (runW ws σ) else us j) := by
 have hws := hk.size
 have hg2 := hg.size
 simp at hg2
 have hwW := h.ks.size
 have hobW : ∀ q, v.ownBlock = some q → q < W.heap.size ∧ w.heap.size ≤ q := fun q hq => ⟨(h.own.lt q hq).2, (h.own.lt q hq).1⟩
 have hob : ∀ q, v.ownBlock = some q → ¬ S2 q := fun q hq h2 => by
  rcases q1 q h2 with h3 | h3
  ·exact (h.ob q hq).1 h3
  ·have := (hobW q hq).1; omega
 have blk : ∀ q, q < W1.heap.size → v.ownBlock ≠ some q → W2.heap[q]? = W1.heap[q]? := fun q hq hn => by
  rw [hg.block q (by simp; omega) (fun e' => hn e'.symm), Below.heap_alloc _ _ _ hq]
 have blkS : ∀ q, S2 q → W2.heap[q]? = W1.heap[q]? := fun q hq => blk q (hp.still q hq) fun e' => hob q e' hq
 have hks : Ks (fun q => v.ownBlock = some q) W1 W2 := ⟨hg.os, hg.tape, hg.output, by omega, fun q hq hn => blk q hq hn⟩
 have hobe : v.ownBlock ≠ some e := fun h1 => (h.ob e h1).2.1 rfl
 have hp2 : PhS W2 S2 e D (runW (ws ++ us1) σ) v1 v2 v3 v4 v5 te := by
  rw [runW_app]
  obtain ⟨a, c, r1, r2, r3, r4⟩ := hp.row
  refine ⟨fun q hq => Nat.lt_of_lt_of_le (hp.still q hq) (by omega), hp.eS, hp.eD, fun b hb => (hp.fld b hb).stays (blk b (hp.fld b hb).lt fun h1 => (h.ob b h1).2.2 hb) blkS, hp.sub, a, c, r1.next blkS, r2, r3, (blk e hp.lt hobe).trans r4⟩
 refine ⟨fun q hq => q0 q (h.s0 q hq), fun q hq => ?_, hp2, ?_, fun q hq => ?_, fun q hq => ?_, fun j hj => ?_, ?_, ?_⟩
 ·rcases q1 q hq with h1 | ⟨h1, c, t, z, h2⟩
  ·rcases h.s1 q h1 with h3 | ⟨h3, c, t, z, h4⟩
   ·exact Or.inl h3
   ·refine Or.inr ⟨h3, c, t, z, (blkS q hq).trans ((hk.block q (Array.getElem?_eq_some_iff.1 h4).1 ?_).trans h4)⟩
    rintro (rfl | h5)
    ·exact hp.eS hq
    ·exact (hp.fld q h5).1 hq
  ·exact Or.inr ⟨hO q h1, c, t, z, (blkS q hq).trans h2⟩
 ·have : ((List.range (k + 1)).map fun j => fnV (if j = k then N1 else N j) (if j = k then cs1 else cs j)) = ((List.range k).map fun j => fnV (N j) (cs j)) ++ [fnV N1 cs1] := by
   rw [List.range_succ, List.map_append]
   congr 1
   ·refine List.map_congr_left fun j hj => ?_
    have : j ≠ k := by have := List.mem_range.1 hj; omega
    simp [this]
   ·simp
  rw [this]
  exact ho
 ·rcases hv with h1 | ⟨g, h1, h2⟩
  ·rw [h1] at hq
   exact ⟨hob q hq, (h.ob q hq).2⟩
  ·rw [h1] at hq
   cases hq
   refine ⟨fun h3 => ?_, fun h3 => ?_, fun h3 => ?_⟩
   ·have := hp.still _ h3; omega
   ·have := hp.lt; omega
   ·have := (hp.fld _ h3).lt; omega
 ·rcases hv with h1 | ⟨g, h1, h2⟩
  ·rw [h1] at hq
   exact h.oo q hq
  ·rw [h1] at hq
   cases hq
   exact hO _ (by omega)
 ·by_cases e' : j = k
  ·simp only [e', if_true]
   exact hbk.next blkS
  ·simp only [e', if_false]
   have hb := ((h.bk j (by omega)).next (w' := W1) fun q hq => hk.block q (h.ph.still q hq) (by
    rintro (rfl | h5)
    ·exact h.ph.eS hq
    ·exact (h.ph.fld q h5).1 hq)).wide q0 (fun _ h => h)
   exact hb.next blkS
 ·rw [List.range_succ, List.reverse_append, List.flatMap_append, invW_app]
  congr 1
  ·simp
  ·rw [← h.inv]
   refine flat_congr _ _ _ fun j hj => ?_
   have : j ≠ k := by have := List.mem_range.1 (List.mem_reverse.1 hj); omega
   simp [this]
 ·have hk2 := h.ks.trans hk
  refine ⟨hks.os.trans hk2.os, hks.tape.trans hk2.tape, hks.output.trans hk2.output, by omega, fun q hq hn => ?_⟩
  rw [blk q (by omega) (fun e' => by have := (hobW q e').2; omega)]
  exact hk2.block q hq hn
 where
 flat_congr (l : List Nat) (f g : Nat → List Wr) (h : ∀ j, j ∈ l → f j = g j) : l.flatMap f = l.flatMap g := by
  induction l with
  | nil => rfl
  | cons a r ih => simp only [List.flatMap_cons, h a (by simp), ih fun j hj => h j (by simp [hj])]
theorem PhS.wide {S' : Nat → Prop} (h : PhS w S e D σ v1 v2 v3 v4 v5 te) (h0 : ∀ q, S q → S' q) (h1 : ∀ q, S' q → S q ∨ (q < w.heap.size ∧ q ≠ e ∧ ¬ D q)) : PhS w S' e D σ v1 v2 v3 v4 v5 te := by
 obtain ⟨a, c, r1, r2, r3, r4⟩ := h.row
 refine ⟨fun q hq => (h1 q hq).elim (h.still q) fun h => h.1, fun hq => (h1 e hq).elim h.eS fun h => h.2.1 rfl, h.eD, fun b hb => (h.fld b hb).more h0 fun hq => (h1 b hq).elim (h.fld b hb).1 fun h => h.2.2 hb, h.sub, a, c, r1.wide h0, r2, r3, r4⟩
theorem Built.all (hk8 : k * 8 ≤ 140737488355328) (hO : ∀ q, W.heap.size ≤ q → O q) (h : Built S O e D σ v1 v2 v3 v4 v5 te w W S1 v k ws N cs us) : Calls Tryz.prog 31 #[v] W fun r w' => BkPostO S O e D σ ws v1 v2 v3 v4 v5 te w r w' ∧ Below W.heap.size W w' := by
 have hsz := h.ks.size
 obtain ⟨a, l, c, rfl⟩ := own_slice h.own
 refine (all138 a l c W).mono ?_
 rintro r w' ⟨rfl, rfl⟩
 have hb : Below W.heap.size W (W.alloc (.cells #[.slice a l c] 61)) := (Below.refl _ _).alloc (Nat.le_refl _) _
 have hnew := heap_alloc_new W (.cells #[.slice a l c] 61)
 have hS0 : ∀ q, S1 q → (S1 q ∨ q = W.heap.size ∨ (Value.slice a l c).ownBlock = some q) := fun q hq => Or.inl hq
 have hob : ∀ q, (Value.slice a l c).ownBlock = some q → q < W.heap.size ∧ w.heap.size ≤ q := fun q hq => ⟨(h.own.lt q hq).2, (h.own.lt q hq).1⟩
 have h2 := h.next hb
 refine ⟨⟨_, _, fun q => S1 q ∨ q = W.heap.size ∨ (Value.slice a l c).ownBlock = some q, rfl, fun q hq => Or.inl (h.s0 q hq), fun q hq => ?_, h2.ph.wide hS0 fun q hq => ?_, ?_, h2.ks⟩, hb⟩
 ·rcases hq with hq | rfl | hq
  ·exact h2.s1 q hq
  ·exact Or.inr ⟨hO _ (Nat.le_refl _), _, _, _, hnew⟩
  ·refine Or.inr ⟨h.oo q hq, ?_⟩
   rcases h2.own.2 with ⟨h3, _⟩ | ⟨g, cap, cur, h3, _, h4, _⟩
   ·rw [h3] at hq; simp [Value.ownBlock] at hq
   ·rw [h3] at hq
    simp [Value.ownBlock] at hq
    subst hq
    exact ⟨_, _, _, h4⟩
 ·rcases hq with hq | rfl | hq
  ·exact Or.inl hq
  ·refine Or.inr ⟨by simp, fun e' => ?_, fun e' => ?_⟩
   ·have := h.ph.lt; omega
   ·have := (h.ph.fld _ e').lt; omega
  ·exact Or.inr ⟨by have := (hob q hq).1; simp; omega, (h.ob q hq).2⟩
 ·rw [← h.inv]
  rcases h2.own.2 with ⟨h3, rfl⟩ | ⟨g, cap, cur, h3, h4, h5, h6, h7, h8, h9⟩
  ·cases h3
   exact .all _ none 0 0 N cs us (Or.inr (Or.inl rfl)) hnew (Nat.le_refl _) (Or.inl rfl) (by omega) (fun i hi => by omega) fun i hi => by omega
  ·cases h3
   refine .all _ (some ⟨g, 0, none⟩) k c N cs us (Or.inr (Or.inl rfl)) hnew h6 (Or.inr ⟨g, 0, rfl, Or.inr (Or.inr rfl)⟩) hk8 (fun i hi h' o' e' => ?_) fun i hi => (h2.bk i hi).wide hS0 fun _ h => h
   cases e'
   have := h2.own.cellAt i (by omega)
   rw [Nat.zero_add, this, List.getElem?_map, List.getElem?_range hi]
   rfl
theorem built2 (hO : ∀ q, W.heap.size ≤ q → O q) {N1 N2 : Nat} {cs1 cs2 : Array Value} {ws1 ws2 : List Wr} (hp : PhS W S1 e D (runW (ws1 ++ ws2) σ) v1 v2 v3 v4 v5 te) (s0 : ∀ q, S q → S1 q) (s1 : ∀ q, S1 q → S q ∨ (O q ∧ ∃ c t z, W.heap[q]? = some (.cells c t z))) (b1 : BkAt e D W S1 N1 cs1 (invW ws1 σ)) (b2 : BkAt e D W S1 N2 cs2 (invW ws2 (runW ws1 σ))) (ks : Ks (fun q => q = e ∨ D q) w W) :
  Built S O e D σ v1 v2 v3 v4 v5 te w (W.alloc (.cells #[fnV N1 cs1, fnV N2 cs2] 84)) S1 (.slice (some ⟨W.heap.size, 0, none⟩) 2 2) 2 (ws1 ++ ws2) (fun j => if j = 0 then N1 else N2) (fun j => if j = 0 then cs1 else cs2) (fun j => if j = 0 then invW ws1 σ else invW ws2 (runW ws1 σ)) := by
 have hb : Below W.heap.size W (W.alloc (.cells #[fnV N1 cs1, fnV N2 cs2] 84)) := (Below.refl _ _).alloc (Nat.le_refl _) _
 refine ⟨s0, fun q hq => (s1 q hq).imp id ?_, hp.next hb, ?_, fun q hq => ?_, fun q hq => ?_, fun j hj => ?_, ?_, ks.trans (Ks.of hb)⟩
 ·rintro ⟨h1, c, t, z, h2⟩
  exact ⟨h1, c, t, z, (hb.block q (Array.getElem?_eq_some_iff.1 h2).1).trans h2⟩
 ·have := World.ownsRow_lit (base := w.heap.size) (e := 84) (size := 1) W #[fnV N1 cs1, fnV N2 cs2] 2 ks.size (by unfold maxLen; omega) rfl
  exact this
 ·simp [Value.ownBlock] at hq
  subst hq
  refine ⟨fun h => ?_, fun h => ?_, fun h => ?_⟩
  ·have := hp.still _ h; omega
  ·have := hp.lt; omega
  ·have := (hp.fld _ h).lt; omega
 ·simp [Value.ownBlock] at hq
  subst hq
  exact hO _ (Nat.le_refl _)
 ·rcases (show j = 0 ∨ j = 1 by omega) with rfl | rfl
  ·exact b1.later hp.still hb
  ·exact b2.later hp.still hb
 ·simp [List.range_succ, invW_app]
end
end Go.Proofs.YtihgojcfpnhelabGreatDoor
