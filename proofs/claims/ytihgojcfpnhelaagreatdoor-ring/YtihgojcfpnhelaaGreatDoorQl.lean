import Derived.Test.YtihgojcfpnhelaaGreatDoorQf
import Derived.Test.YtihgojcfpnhelaaGreatDoorMv
import Derived.Test.YtihgojcfpnhelaaGreatDoorMj
set_option linter.unusedVariables false
set_option linter.unusedSimpArgs false
namespace Go.Proofs.YtihgojcfpnhelaaGreatDoor
open Go.RowKit

/-- An order is put into the sheet, and what takes it back. -/
theorem putOrderX (e : Nat) (a : Option Addr) (l c : Nat) (a' : Option Addr) (l' c' : Nat) (v1 v2 v3 v4 v5 : Value) (te : TypeId) (w : World) (he : w.heap[e]? = some (.cells #[.slice a l c, v1, v2, v3, v4, v5] te (0, 0))) :
    Calls Tryz.prog 163 #[.pointer (some ⟨e, 0, none⟩), .slice a' l' c'] w fun r w' => ∃ g1 g2, r = .returned (.func (.func 192) #[] #[.pointer (some ⟨g1, 0, none⟩), .pointer (some ⟨g2, 0, none⟩)]) ∧ w'.heap[e]? = some (.cells #[.slice a' l' c', v1, v2, v3, v4, v5] te (0, 0)) ∧ Ks (fun q => q = e) w w' ∧ w.heap.size ≤ g1 ∧ w.heap.size ≤ g2 ∧ w'.heap[g1]? = some (.cells #[.pointer (some ⟨e, 0, none⟩)] 253 (0, 0)) ∧ w'.heap[g2]? = some (.cells #[.slice a l c] 101 (0, 0)) := by
  obtain ⟨⟨e0, _, _, _, _, _⟩, ⟨z0, _, _, _, _, _⟩, hel⟩ := row6 he
  refine (putOrder e 0 a l c a' l' c' w e0 z0 hel).mono ?_
  rintro r w' ⟨rfl, rfl⟩
  refine ⟨_, _, rfl, ?_, (((Ks.refl (fun q => q = e) w).set e 0 _ rfl).alloc _).alloc _, Nat.le_refl _, by omega, ?_, ?_⟩
  · rw [Below.heap_alloc _ _ _ (by simp; omega), Below.heap_alloc _ _ _ (by simpa using hel), setCell_block he]
    rfl
  · have := alloc2_old (w.setCell ⟨e, 0, none⟩ (.slice a' l' c')) #[.pointer (some ⟨e, 0, none⟩)] 253 (.cells #[.slice a l c] 101)
    simpa using this
  · have := alloc2_new' (w.setCell ⟨e, 0, none⟩ (.slice a' l' c')) (.cells #[.pointer (some ⟨e, 0, none⟩)] 253) #[.slice a l c] 101
    simpa using this

/-- How the sheet lies when a new field stands at the end of its order. -/
structure FrW (S : Nat → Prop) (e c : Nat) (a : Option Addr) (fs : List (Nat × Fd)) (x : By) (p : Pt) (v1 v2 v3 v4 v5 : Value) (te : TypeId) (w w3 : World) (b g cap g1 g2 : Nat) : Prop where
  sh : Sh w3 (fun q => S q ∨ q = g) (some ⟨g, 0, none⟩) (fs ++ [(b, ⟨x, p, (0, 0)⟩)])
  hb : w.heap.size ≤ b
  hg : w.heap.size ≤ g
  cp : fs.length + 1 ≤ cap
  row : w3.heap[e]? = some (.cells #[.slice (some ⟨g, 0, none⟩) (fs.length + 1) cap, v1, v2, v3, v4, v5] te (0, 0))
  ks : Ks (fun q => q = e) w w3
  hg1 : w.heap.size ≤ g1
  hg2 : w.heap.size ≤ g2
  hc1 : w3.heap[g1]? = some (.cells #[.pointer (some ⟨e, 0, none⟩)] 253 (0, 0))
  hc2 : w3.heap[g2]? = some (.cells #[.slice a fs.length c] 101 (0, 0))

/-- The calls that end 'Set' of a new field. -/
def FreshTail (e c : Nat) (a : Option Addr) (fs : List (Nat × Fd)) (b : Nat) (Q : Option Addr → Nat → Nat → Value → Int → World → Prop) (W0 : World) : Prop :=
  Calls Tryz.prog 164 #[.slice (some ⟨W0.heap.size + 1, 0, none⟩) 2 2] ((W0.alloc (.cells #[.pointer (some ⟨b, 0, none⟩)] 220)).alloc (.cells #[.slice a fs.length c, .slice (some ⟨W0.heap.size, 0, none⟩) 1 1] 101)).drew fun r w2 => ∃ g cap, r = .returned (.slice (some ⟨g, 0, none⟩) (fs.length + 1) cap) ∧
    Calls Tryz.prog 163 #[.pointer (some ⟨e, 0, none⟩), .slice (some ⟨g, 0, none⟩) (fs.length + 1) cap] w2 fun r w3 => ∃ g1 g2, r = .returned (.func (.func 192) #[] #[.pointer (some ⟨g1, 0, none⟩), .pointer (some ⟨g2, 0, none⟩)]) ∧
      Calls Tryz.prog 161 #[.pointer (some ⟨e, 0, none⟩), .pointer (some ⟨b, 0, none⟩), .func (.func 192) #[] #[.pointer (some ⟨g1, 0, none⟩), .pointer (some ⟨g2, 0, none⟩)]] w3 fun r w4 => ∃ (an : Option Addr) (ln cn : Nat) (bk : Value) (er : Int), r = .returned (.tuple #[.slice an ln cn, bk, .int .i64 er]) ∧ Q an ln cn bk er w4

theorem freshTail {S : Nat → Prop} (e c : Nat) (a : Option Addr) (fs : List (Nat × Fd)) (x : By) (p : Pt) (b : Nat) (v1 v2 v3 v4 v5 : Value) (te : TypeId) (w W0 : World) (Q : Option Addr → Nat → Nat → Value → Int → World → Prop) (hs : Sh w S a fs) (hb0 : Below w.heap.size w W0) (he : w.heap[e]? = some (.cells #[.slice a fs.length c, v1, v2, v3, v4, v5] te (0, 0))) (hf : FdAt W0 S b ⟨x, p, (0, 0)⟩) (hbw : w.heap.size ≤ b) (hsz0 : W0.heap.size = w.heap.size + 2) (hl : fs.length < 10) (hef : ∀ f, f ∈ fs → f.1 ≠ e) (hSe : ¬ S e) (ha : a = none → c = 0)
    (hSt : ∀ g cap g1 g2 w3, FrW S e c a fs x p v1 v2 v3 v4 v5 te w w3 b g cap g1 g2 → Calls Tryz.prog 161 #[.pointer (some ⟨e, 0, none⟩), .pointer (some ⟨b, 0, none⟩), .func (.func 192) #[] #[.pointer (some ⟨g1, 0, none⟩), .pointer (some ⟨g2, 0, none⟩)]] w3 fun r w4 => ∃ (an : Option Addr) (ln cn : Nat) (bk : Value) (er : Int), r = .returned (.tuple #[.slice an ln cn, bk, .int .i64 er]) ∧ Q an ln cn bk er w4) :
    FreshTail e c a fs b Q W0 := by
  have hel : e < w.heap.size := (Array.getElem?_eq_some_iff.1 he).1
  have hbW : Below W0.heap.size W0 ((W0.alloc (.cells #[.pointer (some ⟨b, 0, none⟩)] 220)).alloc (.cells #[.slice a fs.length c, .slice (some ⟨W0.heap.size, 0, none⟩) 1 1] 101)).drew := (below2 W0 _ _).drew
  have hlit : ((W0.alloc (.cells #[.pointer (some ⟨b, 0, none⟩)] 220)).alloc (.cells #[.slice a fs.length c, .slice (some ⟨W0.heap.size, 0, none⟩) 1 1] 101)).drew.heap[W0.heap.size + 1]? = some (.cells #[.slice a fs.length c, .slice (some ⟨W0.heap.size, 0, none⟩) 1 1] 101 (0, 0)) := alloc2_new' W0 _ _ _
  have hlit1 : ((W0.alloc (.cells #[.pointer (some ⟨b, 0, none⟩)] 220)).alloc (.cells #[.slice a fs.length c, .slice (some ⟨W0.heap.size, 0, none⟩) 1 1] 101)).drew.heap[W0.heap.size]? = some (.cells #[.pointer (some ⟨b, 0, none⟩)] 220 (0, 0)) := alloc2_old W0 _ _ _
  have hszW : ((W0.alloc (.cells #[.pointer (some ⟨b, 0, none⟩)] 220)).alloc (.cells #[.slice a fs.length c, .slice (some ⟨W0.heap.size, 0, none⟩) 1 1] 101)).drew.heap.size = W0.heap.size + 2 := by simp
  unfold FreshTail
  generalize ((W0.alloc (.cells #[.pointer (some ⟨b, 0, none⟩)] 220)).alloc (.cells #[.slice a fs.length c, .slice (some ⟨W0.heap.size, 0, none⟩) 1 1] 101)).drew = W1 at *
  have hsW := (hs.next hb0).next hbW
  have hcat : catP [fs, [(b, ⟨x, p, (0, 0)⟩)]] = fs ++ [(b, ⟨x, p, (0, 0)⟩)] := by simp [catP]
  refine (concat135 [fs, [(b, ⟨x, p, (0, 0)⟩)]] [.slice a fs.length c, .slice (some ⟨W0.heap.size, 0, none⟩) 1 1] (W0.heap.size + 1) 2 W1 rfl (by omega) (fun i hi => ?_) (by rw [hcat]; simp; omega) (by simp)).mono ?_
  · rcases (show i = 0 ∨ i = 1 by simp at hi; omega) with rfl | rfl
    · refine ⟨(cell_of_row _ _ 0 _ _ _ hlit).trans rfl, a, c, rfl, ha, fun j hj => ?_⟩
      obtain ⟨g, o, h1, h2, h3⟩ := hsW.ptr j hj
      exact ⟨g, o, h1, hsW.still g h2, h3⟩
    · refine ⟨(cell_of_row _ _ 1 _ _ _ hlit).trans rfl, some ⟨W0.heap.size, 0, none⟩, 1, rfl, fun h => (by cases h), fun j hj => ?_⟩
      obtain rfl : j = 0 := by simp at hj; omega
      exact ⟨W0.heap.size, 0, rfl, by omega, (cell_of_row _ _ 0 _ _ _ hlit1).trans rfl⟩
  · rintro r w2 ⟨v, rfl, hown, hb2⟩
    rw [hcat] at hown
    have hlen : (fs ++ [(b, (⟨x, p, (0, 0)⟩ : Fd))]).length = fs.length + 1 := by simp
    obtain ⟨g, cap, rfl, hg, hgl⟩ := hown.form (by rw [hlen]; omega)
    rw [hlen]
    refine ⟨g, cap, rfl, ?_⟩
    have hb02 : Below w.heap.size w w2 := hb0.trans ((hbW.trans (hb2.mono hbW.size)).mono hb0.size)
    refine (putOrderX e a fs.length c (some ⟨g, 0, none⟩) (fs.length + 1) cap v1 v2 v3 v4 v5 te w2 ((hb02.block e hel).trans he)).mono ?_
    rintro r w3 ⟨g1, g2, rfl, he3, hk3, hg1, hg2, hc1, hc2⟩
    refine ⟨g1, g2, rfl, ?_⟩
    have hcap : fs.length + 1 ≤ cap := by
      rcases hown.2 with ⟨h1, _⟩ | ⟨g', cap', cur, h1, _, _, h2, _⟩
      · simp at h1
      · simp at h1; omega
    have hsh2 : Sh w2 (fun q => S q ∨ ∃ o, (some ⟨g, 0, none⟩ : Option Addr) = some ⟨q, o, none⟩) (some ⟨g, 0, none⟩) (fs ++ [(b, ⟨x, p, (0, 0)⟩)]) := by
      have hs2 := hs.next hb02
      refine Sh.ofOwnF (B := W1.heap.size) hs2.still (fun y hy => ?_) hown (fun y hy => ?_)
      · rcases List.mem_append.1 hy with h | h
        · exact hs2.fld y h
        · obtain rfl : y = (b, ⟨x, p, (0, 0)⟩) := by simpa using h
          exact hf.next (hs.next hb0).still (hbW.trans (hb2.mono hbW.size))
      · rcases List.mem_append.1 hy with h | h
        · have := (hsW.fld y h).lt; exact this
        · obtain rfl : y = (b, ⟨x, p, (0, 0)⟩) := by simpa using h
          have := hf.lt
          show b < W1.heap.size
          omega
    have hSe' : ∀ q, (S q ∨ ∃ o, (some ⟨g, 0, none⟩ : Option Addr) = some ⟨q, o, none⟩) → q ≠ e := by
      rintro q (h | ⟨o, h⟩) hq
      · exact hSe (hq ▸ h)
      · have h1 : g = q := by injection h with h; injection h
        have := hb0.size
        have := hbW.size
        omega
    have hne : ∀ y, y ∈ fs ++ [(b, (⟨x, p, (0, 0)⟩ : Fd))] → y.1 ≠ e := fun y hy => by
      rcases List.mem_append.1 hy with h | h
      · exact hef y h
      · obtain rfl : y = (b, ⟨x, p, (0, 0)⟩) := by simpa using h
        show b ≠ e
        omega
    have hsh3 := hsh2.ks hk3 (fun q hq h => hSe' q hq h) (fun y hy h => hne y hy h)
    have hgw : w.heap.size ≤ g := by
      have := hb0.size
      have := hbW.size
      omega
    have hS' : ∀ q, (S q ∨ ∃ o, (some ⟨g, 0, none⟩ : Option Addr) = some ⟨q, o, none⟩) ↔ (S q ∨ q = g) := fun q => by
      constructor
      · rintro (h | ⟨o, h⟩)
        · exact Or.inl h
        · injection h with h; injection h with h1 h2; exact Or.inr h1.symm
      · rintro (h | rfl)
        · exact Or.inl h
        · exact Or.inr ⟨0, rfl⟩
    have hsh4 : Sh w3 (fun q => S q ∨ q = g) (some ⟨g, 0, none⟩) (fs ++ [(b, ⟨x, p, (0, 0)⟩)]) := by
      have e1 : (fun q => S q ∨ ∃ o, (some ⟨g, 0, none⟩ : Option Addr) = some ⟨q, o, none⟩) = fun q => S q ∨ q = g := funext fun q => propext (hS' q)
      rw [e1] at hsh3
      exact hsh3
    exact hSt g cap g1 g2 w3 ⟨hsh4, hbw, hgw, hcap, he3, ⟨hk3.os.trans hb02.os, hk3.tape.trans hb02.tape, hk3.output.trans hb02.output, Nat.le_trans hb02.size hk3.size, fun k hk hn => (hk3.block k (Nat.lt_of_lt_of_le hk hb02.size) hn).trans (hb02.block k hk)⟩, Nat.le_trans hb02.size hg1, Nat.le_trans hb02.size hg2, hc1, hc2⟩

set_option maxRecDepth 100000 in
set_option maxHeartbeats 4000000 in
theorem setFresh {S : Nat → Prop} (e c : Nat) (a : Option Addr) (fs : List (Nat × Fd)) (x : By) (p : Pt) (ar : Option Addr) (lr cr : Nat) (v1 v2 v3 v4 v5 : Value) (te : TypeId) (w : World) (Q : Option Addr → Nat → Nat → Value → Int → World → Prop) (hs : Sh w S a fs) (he : w.heap[e]? = some (.cells #[.slice a fs.length c, v1, v2, v3, v4, v5] te (0, 0))) (hl : fs.length < 10) (hef : ∀ f, f ∈ fs → f.1 ≠ e) (hSe : ¬ S e) (ha : a = none → c = 0)
    (hP : PIs w S p ar lr cr) (hsh : Shape p) (hgd : Good p) (htx : (txt p).length ≤ 100) (hnew : findF fs x = none)
    (hSt : ∀ b g cap g1 g2 w3, FrW S e c a fs x p v1 v2 v3 v4 v5 te w w3 b g cap g1 g2 → Calls Tryz.prog 161 #[.pointer (some ⟨e, 0, none⟩), .pointer (some ⟨b, 0, none⟩), .func (.func 192) #[] #[.pointer (some ⟨g1, 0, none⟩), .pointer (some ⟨g2, 0, none⟩)]] w3 fun r w4 => ∃ (an : Option Addr) (ln cn : Nat) (bk : Value) (er : Int), r = .returned (.tuple #[.slice an ln cn, bk, .int .i64 er]) ∧ Q an ln cn bk er w4) :
    Calls Tryz.prog 133 #[.pointer (some ⟨e, 0, none⟩), .string ⟨x.toArray⟩, .agg #[.int .i64 (p.k : Int), .string ⟨p.nm.toArray⟩, .int .i64 (p.n : Int), .slice ar lr cr]] w fun r w4 => ∃ (an : Option Addr) (ln cn : Nat) (bk : Value) (er : Int), r = .returned (.tuple #[.slice an ln cn, bk, .int .i64 er]) ∧ Q an ln cn bk er w4 := by
  have hel : e < w.heap.size := (Array.getElem?_eq_some_iff.1 he).1
  obtain ⟨⟨e0, e1, e2, e3, e4, e5⟩, ⟨z0, z1, z2, z3, z4, z5⟩, _⟩ := row6 he
  have HE := toHid he
  have HS := toHid hs
  have HF := toHid (show ∀ W, Below w.heap.size w W → Calls Tryz.prog 137 #[.pointer (some ⟨e, 0, none⟩), .string ⟨x.toArray⟩] W fun r w' => r = .returned (.pointer none) ∧ W = w' from fun W hb => by
    have := find101 x e c a fs W (hs.next hb) ((hb.cell (p := ⟨e, 0, none⟩) hel).trans e0) (by omega)
    rw [findB, hnew] at this
    exact this)
  have h10 : ((fs.length : Int) == 10) = false := beq_eq_false_iff_ne.2 (by omega)
  clear hs he
  go_enter Tryz.func133, Tryz.ntmps133
  go_wp2_with (first | (go_at_call 137; refine (HF.out _ (by first | exact Below.refl _ _ | exact (Below.refl _ _).alloc (Nat.le_refl _) _ | exact below2 _ _ _)).mono ?_; rintro r w1 ⟨rfl, rfl⟩))
  have HB0 := toHid (below2 w (.cells #[.int .i64 (p.k : Int), .string ⟨p.nm.toArray⟩, .int .i64 (p.n : Int), .slice ar lr cr] 89) (.cells #[.string ⟨x.toArray⟩, .int .i64 (p.k : Int), .string ⟨p.nm.toArray⟩, .int .i64 (p.n : Int), .slice ar lr cr, .int .i64 0, .int .i64 0] 223))
  have HR0 := toHid (alloc2_new' w (.cells #[.int .i64 (p.k : Int), .string ⟨p.nm.toArray⟩, .int .i64 (p.n : Int), .slice ar lr cr] 89) #[.string ⟨x.toArray⟩, .int .i64 (p.k : Int), .string ⟨p.nm.toArray⟩, .int .i64 (p.n : Int), .slice ar lr cr, .int .i64 0, .int .i64 0] 223)
  have hsz0 : ((w.alloc (.cells #[.int .i64 (p.k : Int), .string ⟨p.nm.toArray⟩, .int .i64 (p.n : Int), .slice ar lr cr] 89)).alloc (.cells #[.string ⟨x.toArray⟩, .int .i64 (p.k : Int), .string ⟨p.nm.toArray⟩, .int .i64 (p.n : Int), .slice ar lr cr, .int .i64 0, .int .i64 0] 223)).heap.size = w.heap.size + 2 := by simp
  generalize ((w.alloc (.cells #[.int .i64 (p.k : Int), .string ⟨p.nm.toArray⟩, .int .i64 (p.n : Int), .slice ar lr cr] 89)).alloc (.cells #[.string ⟨x.toArray⟩, .int .i64 (p.k : Int), .string ⟨p.nm.toArray⟩, .int .i64 (p.n : Int), .slice ar lr cr, .int .i64 0, .int .i64 0] 223)) = W0 at *
  obtain ⟨⟨u0, u1, u2, u3, u4, u5⟩, ⟨t0, t1, t2, t3, t4, t5⟩, hel0⟩ := row6 ((HB0.out.block e hel).trans HE.out)
  generalize hbdef : w.heap.size + 1 = b at *
  have hfsb : ∀ y, y ∈ fs → y.1 ≠ b := fun y hy => by have := (HS.out.fld y hy).lt; omega
  have HFb := toHid (show FdAt W0 S b ⟨x, p, (0, 0)⟩ from ⟨fun h => by have := HS.out.still b h; omega, hsh, hgd, htx, ar, lr, cr, HR0.out, hP.next fun q hq => HB0.out.block q (HS.out.still q hq)⟩)
  have HS0 := toHid (HS.out.next HB0.out)
  have HSET := toHid (freshTail e c a fs x p b v1 v2 v3 v4 v5 te w W0 Q HS.out HB0.out HE.out HFb.out (by omega) hsz0 hl hef hSe ha (hSt b))
  clear hSt hef hSe hP hsh hgd htx hnew HF hsz0
  unfold FreshTail at HSET
  go_wp2_with fail
  go_region_with (first | (go_at_call 164; refine HSET.out.mono ?_; rintro r w2 ⟨g, cap, rfl, hn2⟩; have C2 := toHid hn2; clear hn2) | (go_at_call 163; refine C2.out.mono ?_; rintro r w3 ⟨g1, g2, rfl, hn3⟩; have C3 := toHid hn3; clear hn3) | (go_at_call 161; refine C3.out.mono ?_; rintro r w4 ⟨an, ln, cn, bk, er, rfl, hn4⟩; have C4 := toHid hn4; clear hn4))
  all_goals go_wp2
  all_goals refine bodyPost_ret (v := .tuple #[.slice an ln cn, bk, .int .i64 er]) (by simp [results, Tryz.results133, go_sem]) (by simp [go_sem]) ?_
  all_goals exact ⟨an, ln, cn, bk, er, rfl, C4.out⟩
end Go.Proofs.YtihgojcfpnhelaaGreatDoor
namespace Go.Proofs.YtihgojcfpnhelaaGreatDoor
open Go.RowKit

/-- A text that goes on with no letter and no digit. -/
def noLD (s : By) : Prop := s = [] ∨ ∃ c r, s = c :: r ∧ isLD c = false

def hLD (x : By) : Bool := headL x || headD x

/-- A token by itself. -/
def TI (x : By) : Prop := ∃ c r, x = c :: r ∧ c ≠ 32 ∧ tokOK x = true ∧ (isL c = true → ∀ y, y ∈ r → isLD y = true) ∧ (isL c = false → isD c = true → ∀ y, y ∈ r → isD y = true) ∧ (isL c = false → isD c = false → r = [])

theorem tw_app {p : UInt8 → Bool} : ∀ (r rest : By), (∀ y, y ∈ r → p y = true) → (rest = [] ∨ ∃ c t, rest = c :: t ∧ p c = false) → (r ++ rest).takeWhile p = r
  | [], rest, _, h => by
    rcases h with rfl | ⟨c, t, rfl, h⟩
    · rfl
    · simp [h]
  | y :: r, rest, hr, h => by
    rw [List.cons_append, List.takeWhile_cons, hr y (by simp)]
    simp only [if_true]
    rw [tw_app r rest (fun z hz => hr z (by simp [hz])) h]

theorem isLD_L {c : UInt8} (h : isL c = true) : isLD c = true := by
  simp only [isL] at h
  simp [isLD, ldB, h]
theorem isLD_D {c : UInt8} (h : isD c = true) : isLD c = true := by
  simp only [isD] at h
  simp [isLD, ldB, h]

theorem rowLen_app (x rest : By) (h : TI x) (hr : hLD x = true → noLD rest) : rowLen (x ++ rest) = x.length := by
  obtain ⟨c, r, rfl, _, _, h1, h2, h3⟩ := h
  simp only [List.cons_append, rowLen]
  by_cases hL : isL c = true
  · rw [if_pos hL, tw_app r rest (h1 hL)]
    · simp; omega
    · exact hr (by simp [hLD, headL, hL])
  · have hL' : isL c = false := by simpa using hL
    rw [if_neg hL]
    by_cases hD : isD c = true
    · rw [if_pos hD, tw_app r rest (h2 hL' hD)]
      · simp; omega
      · rcases hr (by simp [hLD, headD, hD]) with rfl | ⟨c', t, rfl, hc⟩
        · exact Or.inl rfl
        · refine Or.inr ⟨c', t, rfl, ?_⟩
          cases hh : isD c' with
          | false => rfl
          | true => rw [isLD_D hh] at hc; cases hc
    · rw [if_neg hD, h3 hL' (by simpa using hD)]
      rfl

def z0 (T : List By) : List (By × Nat) := T.map fun t => (t, 0)

end Go.Proofs.YtihgojcfpnhelaaGreatDoor
namespace Go.Proofs.YtihgojcfpnhelaaGreatDoor
open Go.RowKit

/-- A word that may be a field's name. -/
structure NmOk (nm : By) : Prop where
  ti : TI nm
  k2 : kindB nm = 2
  nmb : nmB nm = nm

/-- A line that sets a field. -/
def setN (nm rest : By) : By := [115, 101, 116] ++ (32 :: (nm ++ (32 :: ([61] ++ (32 :: rest)))))

theorem toks_setN (nm : By) (h : NmOk nm) (rest : By) : toksOf (setN nm rest) = (([115, 101, 116], 0) :: (nm, 4) :: ([61], 4 + nm.length + 1) :: (toks (rest.length + nm.length + 1) rest (4 + nm.length + 3)).1, (toks (rest.length + nm.length + 1) rest (4 + nm.length + 3)).2) := by
  have hrl := rowLen_app nm (32 :: ([61] ++ (32 :: rest))) h.ti fun _ => Or.inr ⟨32, _, rfl, by decide⟩
  obtain ⟨c, r, rfl, hc, hok, _⟩ := h.ti
  have e0 : toksOf (setN (c :: r) rest) = toks (rest.length + (c :: r).length + 6 + 1) ([115, 101, 116] ++ (32 :: ((c :: r) ++ (32 :: ([61] ++ (32 :: rest)))))) 0 := by
    unfold toksOf
    rw [show (setN (c :: r) rest).length = rest.length + (c :: r).length + 6 + 1 by simp [setN]; omega]
    rfl
  rw [e0, toks_to (rest.length + (c :: r).length + 6) 115 [101, 116] _ 0 (by decide) (by simp [rowLen, show isL 115 = true from by decide, show isLD 101 = true from by decide, show isLD 116 = true from by decide, show isLD 32 = false from by decide]) (by decide)]
  rw [show rest.length + (c :: r).length + 6 = rest.length + (c :: r).length + 5 + 1 by omega, toks_sp, show rest.length + (c :: r).length + 5 = rest.length + (c :: r).length + 4 + 1 by omega, toks_to (rest.length + (c :: r).length + 4) c r _ _ hc hrl hok]
  rw [show rest.length + (c :: r).length + 4 = rest.length + (c :: r).length + 3 + 1 by omega, toks_sp, show rest.length + (c :: r).length + 3 = rest.length + (c :: r).length + 2 + 1 by omega, toks_to (rest.length + (c :: r).length + 2) 61 [] _ _ (by decide) (by simp [rowLen, show isL 61 = false from by decide, show isD 61 = false from by decide]) (by decide)]
  rw [show rest.length + (c :: r).length + 2 = rest.length + (c :: r).length + 1 + 1 by omega, toks_sp]
  simp only [List.length_cons, List.length_nil, Nat.zero_add]
end Go.Proofs.YtihgojcfpnhelaaGreatDoor
