import Derived.Test.YtihgojcfpnhelaaGreatDoorSj
set_option linter.unusedVariables false
set_option linter.unusedSimpArgs false
namespace Go.Proofs.YtihgojcfpnhelaaGreatDoor
open Go.RowKit

theorem Sh.ofOwnF {w : World} {S : Nat → Prop} {ak : Option Addr} {k : List (Nat × Fd)} {B ck : Nat} (hS : ∀ q, S q → q < w.heap.size) (hfd : ∀ x, x ∈ k → FdAt w S x.1 x.2) (ho : w.ownsRow B 220 1 (.slice ak k.length ck) k.length (ptrs k)) (hB : ∀ f, f ∈ k → f.1 < B) : Sh w (fun q => S q ∨ ∃ o, ak = some ⟨q, o, none⟩) ak k := by
  have hblk : ∀ q o, ak = some ⟨q, o, none⟩ → B ≤ q ∧ q < w.heap.size := fun q o hq => by
    subst hq
    rcases ho.2 with ⟨h1, _⟩ | ⟨g, cap, cur, h1, h2, h3, _⟩
    · simp at h1
    · simp at h1
      obtain ⟨⟨rfl, rfl⟩, _⟩ := h1
      exact ⟨h2, (Array.getElem?_eq_some_iff.1 h3).1⟩
  refine ⟨fun q hq => ?_, fun j hj => ?_, fun x hx => ?_⟩
  · rcases hq with hq | ⟨o, hq⟩
    · exact hS q hq
    · exact (hblk q o hq).2
  · obtain ⟨g, cap, hv, _, _⟩ := ho.form (by omega)
    simp at hv
    obtain ⟨rfl, rfl⟩ := hv
    refine ⟨g, 0, rfl, Or.inr ⟨0, rfl⟩, ?_⟩
    rw [Nat.zero_add, ho.cellAt j (by omega)]
    simp [ptrs, hj]
  · obtain ⟨h1, h2, h3, h4, a1, l1, c1, hh, hp⟩ := hfd x hx
    refine ⟨?_, h2, h3, h4, a1, l1, c1, hh, hp.wide fun q hq => Or.inl hq⟩
    rintro (hq | ⟨o, hq⟩)
    · exact h1 hq
    · have := (hblk _ o hq).1
      have := hB x hx
      omega

theorem hangP_none (x : By) (fs : List (Nat × Fd)) (h : ∀ f, f ∈ fs → mentP x f.2.p = false) : hangP [x] fs = [] := by
  induction fs with
  | nil => rfl
  | cons f r ih =>
    unfold hangP
    rw [if_neg (by simp [anyM, h f List.mem_cons_self])]
    exact ih fun g hg => h g (List.mem_cons_of_mem _ hg)

theorem setV_new (fs : List (Nat × Fd)) (b : Nat) (f : Fd) (v : Vl) (h : ∀ x, x ∈ fs → x.1 ≠ b) : setV (fs ++ [(b, f)]) b v = fs ++ [(b, { f with v := v })] := by
  have h1 : setV fs b v = fs := by
    unfold setV
    conv => rhs; rw [← List.map_id fs]
    apply List.map_congr_left
    intro x hx
    simp [h x hx]
  unfold setV at *
  rw [List.map_append, h1]
  simp

theorem ruleOf_new (fs : List (Nat × Fd)) (b : Nat) (f : Fd) (h : ∀ x, x ∈ fs → x.1 ≠ b) : ruleOf (fs ++ [(b, f)]) b = f.p := by
  have h1 : fs.find? (fun x => x.1 == b) = none := by
    rw [List.find?_eq_none]
    intro x hx
    simpa using h x hx
  simp [ruleOf, List.find?_append, h1]

/-- What 'Set' answers where the field is new and nothing mentions it. -/
def StPost (S : Nat → Prop) (e : Nat) (v1 v2 v3 v4 v5 : Value) (te : TypeId) (fs : List (Nat × Fd)) (x : By) (p : Pt) (w : World) (r : Ending) (w' : World) : Prop :=
  ∃ (vn : Value) (g b : Nat) (a' : Option Addr) (c' : Nat) (S' : Nat → Prop), r = .returned (.tuple #[vn, .func (.func 106) #[] #[.pointer (some ⟨g, 0, none⟩)], .int .i64 0]) ∧ w'.ownsRow w.heap.size 9 1 vn 1 (strs [x]) ∧
    (∀ y, y ∈ fs → y.1 ≠ b) ∧ w.heap.size ≤ b ∧ Sh w' S' a' (fs ++ [(b, ⟨x, p, valP (rho (fs ++ [(b, ⟨x, p, (0, 0)⟩)])) p⟩)]) ∧ (∀ q, S q → S' q) ∧ (∀ q, S' q → S q ∨ w.heap.size ≤ q) ∧ w'.heap[e]? = some (.cells #[.slice a' (fs.length + 1) c', v1, v2, v3, v4, v5] te (0, 0)) ∧ fs.length + 1 ≤ c' ∧ Ks (fun q => q = e ∨ ∃ y, y ∈ fs ∧ y.1 = q) w w'

/-- The calls that end 'Set' of a new field. -/
def SetTail (S : Nat → Prop) (e c : Nat) (a : Option Addr) (fs : List (Nat × Fd)) (x : By) (p : Pt) (b : Nat) (v1 v2 v3 v4 v5 : Value) (te : TypeId) (w W0 : World) : Prop :=
  Calls Tryz.prog 164 #[.slice (some ⟨W0.heap.size + 1, 0, none⟩) 2 2] ((W0.alloc (.cells #[.pointer (some ⟨b, 0, none⟩)] 220)).alloc (.cells #[.slice a fs.length c, .slice (some ⟨W0.heap.size, 0, none⟩) 1 1] 101)).drew fun r w2 => ∃ g cap, r = .returned (.slice (some ⟨g, 0, none⟩) (fs.length + 1) cap) ∧
    Calls Tryz.prog 163 #[.pointer (some ⟨e, 0, none⟩), .slice (some ⟨g, 0, none⟩) (fs.length + 1) cap] w2 fun r w3 => ∃ g1 g2, r = .returned (.func (.func 192) #[] #[.pointer (some ⟨g1, 0, none⟩), .pointer (some ⟨g2, 0, none⟩)]) ∧
      Calls Tryz.prog 161 #[.pointer (some ⟨e, 0, none⟩), .pointer (some ⟨b, 0, none⟩), .func (.func 192) #[] #[.pointer (some ⟨g1, 0, none⟩), .pointer (some ⟨g2, 0, none⟩)]] w3 fun r w4 => ∃ (an : Option Addr) (ln cn g4 : Nat), r = .returned (.tuple #[.slice an ln cn, .func (.func 106) #[] #[.pointer (some ⟨g4, 0, none⟩)], .int .i64 0]) ∧ StPost S e v1 v2 v3 v4 v5 te fs x p w r w4

theorem setTail {S : Nat → Prop} (e c : Nat) (a : Option Addr) (fs : List (Nat × Fd)) (x : By) (p : Pt) (b : Nat) (v1 v2 v3 v4 v5 : Value) (te : TypeId) (w W0 : World) (hs : Sh w S a fs) (hb0 : Below w.heap.size w W0) (he : w.heap[e]? = some (.cells #[.slice a fs.length c, v1, v2, v3, v4, v5] te (0, 0))) (hf : FdAt W0 S b ⟨x, p, (0, 0)⟩) (hfsb : ∀ y, y ∈ fs → y.1 ≠ b) (hbw : w.heap.size ≤ b) (hsz0 : W0.heap.size = w.heap.size + 2) (hl : fs.length < 10) (hef : ∀ f, f ∈ fs → f.1 ≠ e) (hSe : ¬ S e) (ha : a = none → c = 0) (hm1 : ∀ f, f ∈ fs → mentP x f.2.p = false) (hm2 : mentP x p = false) :
    SetTail S e c a fs x p b v1 v2 v3 v4 v5 te w W0 := by
  have hel : e < w.heap.size := (Array.getElem?_eq_some_iff.1 he).1
  have hbW : Below W0.heap.size W0 ((W0.alloc (.cells #[.pointer (some ⟨b, 0, none⟩)] 220)).alloc (.cells #[.slice a fs.length c, .slice (some ⟨W0.heap.size, 0, none⟩) 1 1] 101)).drew := (below2 W0 _ _).drew
  have hlit : ((W0.alloc (.cells #[.pointer (some ⟨b, 0, none⟩)] 220)).alloc (.cells #[.slice a fs.length c, .slice (some ⟨W0.heap.size, 0, none⟩) 1 1] 101)).drew.heap[W0.heap.size + 1]? = some (.cells #[.slice a fs.length c, .slice (some ⟨W0.heap.size, 0, none⟩) 1 1] 101 (0, 0)) := alloc2_new' W0 _ _ _
  have hlit1 : ((W0.alloc (.cells #[.pointer (some ⟨b, 0, none⟩)] 220)).alloc (.cells #[.slice a fs.length c, .slice (some ⟨W0.heap.size, 0, none⟩) 1 1] 101)).drew.heap[W0.heap.size]? = some (.cells #[.pointer (some ⟨b, 0, none⟩)] 220 (0, 0)) := alloc2_old W0 _ _ _
  have hszW : ((W0.alloc (.cells #[.pointer (some ⟨b, 0, none⟩)] 220)).alloc (.cells #[.slice a fs.length c, .slice (some ⟨W0.heap.size, 0, none⟩) 1 1] 101)).drew.heap.size = W0.heap.size + 2 := by simp
  unfold SetTail
  generalize ((W0.alloc (.cells #[.pointer (some ⟨b, 0, none⟩)] 220)).alloc (.cells #[.slice a fs.length c, .slice (some ⟨W0.heap.size, 0, none⟩) 1 1] 101)).drew = W1 at *
  have hsW := (hs.next hb0).next hbW
  have hcat : catP [fs, [(b, ⟨x, p, (0, 0)⟩)]] = fs ++ [(b, ⟨x, p, (0, 0)⟩)] := by simp [catP]
  refine (concat135 [fs, [(b, ⟨x, p, (0, 0)⟩)]] [.slice a fs.length c, .slice (some ⟨W0.heap.size, 0, none⟩) 1 1] (W0.heap.size + 1) 2 W1 rfl (by omega) (fun i hi => ?_) (by rw [hcat]; simp; omega) (by simp)).mono ?_
  · rcases (show i = 0 ∨ i = 1 by simp at hi; omega) with rfl | rfl
    · refine ⟨(cell_of_row _ _ 0 _ _ _ hlit).trans rfl, a, c, rfl, ha, fun j hj => ?_⟩
      obtain ⟨g, o, h1, h2, h3⟩ := hsW.ptr j hj
      exact ⟨g, o, h1, hsW.still g h2, h3⟩
    · refine ⟨(cell_of_row _ _ 1 _ _ _ hlit).trans rfl, some ⟨W0.heap.size, 0, none⟩, 1, rfl, fun h => (by cases h), fun j hj => ?_⟩
      obtain rfl : j = 0 := by simp at hj; omega
      exact ⟨W0.heap.size, 0, rfl, by omega, (cell_of_row _ _ 0 _ _ _ hlit1).trans rfl⟩
  · rintro r w2 ⟨v, rfl, hown, hb2⟩
    rw [hcat] at hown
    have hlen : (fs ++ [(b, (⟨x, p, (0, 0)⟩ : Fd))]).length = fs.length + 1 := by simp
    obtain ⟨g, cap, rfl, hg, hgl⟩ := hown.form (by rw [hlen]; omega)
    rw [hlen]
    refine ⟨g, cap, rfl, ?_⟩
    have hb02 : Below w.heap.size w w2 := hb0.trans ((hbW.trans (hb2.mono hbW.size)).mono hb0.size)
    refine (putOrderS e a fs.length c (some ⟨g, 0, none⟩) (fs.length + 1) cap v1 v2 v3 v4 v5 te w2 ((hb02.block e hel).trans he)).mono ?_
    rintro r w3 ⟨g1, g2, rfl, he3, hk3⟩
    refine ⟨g1, g2, rfl, ?_⟩
    have hcap : fs.length + 1 ≤ cap := by
      rcases hown.2 with ⟨h1, _⟩ | ⟨g', cap', cur, h1, _, _, h2, _⟩
      · simp at h1
      · simp at h1; omega
    have hsh2 : Sh w2 (fun q => S q ∨ ∃ o, (some ⟨g, 0, none⟩ : Option Addr) = some ⟨q, o, none⟩) (some ⟨g, 0, none⟩) (fs ++ [(b, ⟨x, p, (0, 0)⟩)]) := by
      have hs2 := hs.next hb02
      refine Sh.ofOwnF (B := W1.heap.size) hs2.still (fun y hy => ?_) hown (fun y hy => ?_)
      · rcases List.mem_append.1 hy with h | h
        · exact hs2.fld y h
        · obtain rfl : y = (b, ⟨x, p, (0, 0)⟩) := by simpa using h
          exact hf.next (hs.next hb0).still (hbW.trans (hb2.mono hbW.size))
      · rcases List.mem_append.1 hy with h | h
        · have := (hsW.fld y h).lt; exact this
        · obtain rfl : y = (b, ⟨x, p, (0, 0)⟩) := by simpa using h
          have := hf.lt
          show b < W1.heap.size
          omega
    have hSe' : ∀ q, (S q ∨ ∃ o, (some ⟨g, 0, none⟩ : Option Addr) = some ⟨q, o, none⟩) → q ≠ e := by
      rintro q (h | ⟨o, h⟩) hq
      · exact hSe (hq ▸ h)
      · have h1 : g = q := by injection h with h; injection h
        have := hb0.size
        have := hbW.size
        omega
    have hne : ∀ y, y ∈ fs ++ [(b, (⟨x, p, (0, 0)⟩ : Fd))] → y.1 ≠ e := fun y hy => by
      rcases List.mem_append.1 hy with h | h
      · exact hef y h
      · obtain rfl : y = (b, ⟨x, p, (0, 0)⟩) := by simpa using h
        show b ≠ e
        omega
    have hsh3 := hsh2.ks hk3 (fun q hq h => hSe' q hq h) (fun y hy h => hne y hy h)
    have hat : (fs ++ [(b, (⟨x, p, (0, 0)⟩ : Fd))])[fs.length]'(by simp) = (b, ⟨x, p, (0, 0)⟩) := by simp
    have hall : ∀ y, y ∈ fs ++ [(b, (⟨x, p, (0, 0)⟩ : Fd))] → mentP x y.2.p = false := fun y hy => by
      rcases List.mem_append.1 hy with h | h
      · exact hm1 y h
      · obtain rfl : y = (b, ⟨x, p, (0, 0)⟩) := by simpa using h
        exact hm2
    have hset := settleNone e cap fs.length (some ⟨g, 0, none⟩) (fs ++ [(b, ⟨x, p, (0, 0)⟩)]) (.func 192) #[.pointer (some ⟨g1, 0, none⟩), .pointer (some ⟨g2, 0, none⟩)] v1 v2 v3 v4 v5 te w3 hsh3 (by rw [hlen]; exact he3) (by rw [hlen]; omega) hne (fun h => hSe' e h rfl) (by rw [hlen]; exact hcap) (by rw [hlen]; omega)
      (fun i hi hlt => by rw [hat, List.getElem_append_left hlt]; exact hfsb _ (List.getElem_mem hlt))
      (fun i hi hlt => by rw [hat]; exact hall _ (List.getElem_mem hi))
      (fun i hi hle => by
        obtain rfl : i = fs.length := by rw [hlen] at hi; omega
        rw [hat]; exact hm2)
    rw [hat] at hset
    refine hset.mono ?_
    rintro r w4 ⟨vn, g4, rfl, hon, hs4, hk4, he4⟩
    rw [hangP_none x _ hall] at hon hs4
    obtain ⟨an, ln, cn, rfl⟩ := own_slice hon
    refine ⟨an, ln, cn, g4, rfl, _, g4, b, some ⟨g, 0, none⟩, cap, (fun q => S q ∨ ∃ o, (some ⟨g, 0, none⟩ : Option Addr) = some ⟨q, o, none⟩), rfl, own_base hon (Nat.le_trans hb02.size hk3.size), hfsb, hbw, ?_, fun q hq => Or.inl hq, ?_, he4.trans he3, hcap, ?_⟩
    · have e1 : workP (fs ++ [(b, ⟨x, p, (0, 0)⟩)]) (([(b, (⟨x, p, (0, 0)⟩ : Fd))] : List (Nat × Fd)).map fun y => y.1) = fs ++ [(b, ⟨x, p, valP (rho (fs ++ [(b, ⟨x, p, (0, 0)⟩)])) p⟩)] := by
        simp only [List.map_cons, List.map_nil, workP]
        rw [ruleOf_new fs b _ hfsb, setV_new fs b _ _ hfsb]
      rw [e1] at hs4
      exact hs4
    · rintro q (h | ⟨o, h⟩)
      · exact Or.inl h
      · right
        have h1 : g = q := by injection h with h; injection h
        have := hb0.size
        have := hbW.size
        omega
    · have hk : Ks (fun q => q = e ∨ ∃ y, y ∈ fs ++ [(b, (⟨x, p, (0, 0)⟩ : Fd))] ∧ y.1 = q) w w4 := ((Ks.of hb02).trans (hk3.wide fun q hq => Or.inl hq)).trans hk4
      refine ⟨hk.os, hk.tape, hk.output, hk.size, fun k hkl hn => hk.block k hkl ?_⟩
      rintro (h | ⟨y, hy, h⟩)
      · exact hn (Or.inl h)
      · rcases List.mem_append.1 hy with h' | h'
        · exact hn (Or.inr ⟨y, h', h⟩)
        · obtain rfl : y = (b, ⟨x, p, (0, 0)⟩) := by simpa using h'
          have : b = k := h
          omega

set_option maxRecDepth 100000 in
set_option maxHeartbeats 4000000 in
theorem setNew {S : Nat → Prop} (e c : Nat) (a : Option Addr) (fs : List (Nat × Fd)) (x : By) (p : Pt) (ar : Option Addr) (lr cr : Nat) (v1 v2 v3 v4 v5 : Value) (te : TypeId) (w : World) (hs : Sh w S a fs) (he : w.heap[e]? = some (.cells #[.slice a fs.length c, v1, v2, v3, v4, v5] te (0, 0))) (hl : fs.length < 10) (hef : ∀ f, f ∈ fs → f.1 ≠ e) (hSe : ¬ S e) (ha : a = none → c = 0)
    (hP : PIs w S p ar lr cr) (hsh : Shape p) (hgd : Good p) (htx : (txt p).length ≤ 100) (hnew : findF fs x = none) (hm1 : ∀ f, f ∈ fs → mentP x f.2.p = false) (hm2 : mentP x p = false) :
    Calls Tryz.prog 133 #[.pointer (some ⟨e, 0, none⟩), .string ⟨x.toArray⟩, .agg #[.int .i64 (p.k : Int), .string ⟨p.nm.toArray⟩, .int .i64 (p.n : Int), .slice ar lr cr]] w (StPost S e v1 v2 v3 v4 v5 te fs x p w) := by
  have hel : e < w.heap.size := (Array.getElem?_eq_some_iff.1 he).1
  obtain ⟨⟨e0, e1, e2, e3, e4, e5⟩, ⟨z0, z1, z2, z3, z4, z5⟩, _⟩ := row6 he
  have HE := toHid he
  have HS := toHid hs
  have HF := toHid (show ∀ W, Below w.heap.size w W → Calls Tryz.prog 137 #[.pointer (some ⟨e, 0, none⟩), .string ⟨x.toArray⟩] W fun r w' => r = .returned (.pointer none) ∧ W = w' from fun W hb => by
    have := find101 x e c a fs W (hs.next hb) ((hb.cell (p := ⟨e, 0, none⟩) hel).trans e0) (by omega)
    rw [findB, hnew] at this
    exact this)
  have h10 : ((fs.length : Int) == 10) = false := beq_eq_false_iff_ne.2 (by omega)
  clear hs he
  go_enter Tryz.func133, Tryz.ntmps133
  go_wp2_with (first | (go_at_call 137; refine (HF.out _ (by first | exact Below.refl _ _ | exact (Below.refl _ _).alloc (Nat.le_refl _) _ | exact below2 _ _ _)).mono ?_; rintro r w1 ⟨rfl, rfl⟩))
  have HB0 := toHid (below2 w (.cells #[.int .i64 (p.k : Int), .string ⟨p.nm.toArray⟩, .int .i64 (p.n : Int), .slice ar lr cr] 89) (.cells #[.string ⟨x.toArray⟩, .int .i64 (p.k : Int), .string ⟨p.nm.toArray⟩, .int .i64 (p.n : Int), .slice ar lr cr, .int .i64 0, .int .i64 0] 223))
  have HR0 := toHid (alloc2_new' w (.cells #[.int .i64 (p.k : Int), .string ⟨p.nm.toArray⟩, .int .i64 (p.n : Int), .slice ar lr cr] 89) #[.string ⟨x.toArray⟩, .int .i64 (p.k : Int), .string ⟨p.nm.toArray⟩, .int .i64 (p.n : Int), .slice ar lr cr, .int .i64 0, .int .i64 0] 223)
  have hsz0 : ((w.alloc (.cells #[.int .i64 (p.k : Int), .string ⟨p.nm.toArray⟩, .int .i64 (p.n : Int), .slice ar lr cr] 89)).alloc (.cells #[.string ⟨x.toArray⟩, .int .i64 (p.k : Int), .string ⟨p.nm.toArray⟩, .int .i64 (p.n : Int), .slice ar lr cr, .int .i64 0, .int .i64 0] 223)).heap.size = w.heap.size + 2 := by simp
  generalize ((w.alloc (.cells #[.int .i64 (p.k : Int), .string ⟨p.nm.toArray⟩, .int .i64 (p.n : Int), .slice ar lr cr] 89)).alloc (.cells #[.string ⟨x.toArray⟩, .int .i64 (p.k : Int), .string ⟨p.nm.toArray⟩, .int .i64 (p.n : Int), .slice ar lr cr, .int .i64 0, .int .i64 0] 223)) = W0 at *
  obtain ⟨⟨u0, u1, u2, u3, u4, u5⟩, ⟨t0, t1, t2, t3, t4, t5⟩, hel0⟩ := row6 ((HB0.out.block e hel).trans HE.out)
  generalize hbdef : w.heap.size + 1 = b at *
  have hfsb : ∀ y, y ∈ fs → y.1 ≠ b := fun y hy => by have := (HS.out.fld y hy).lt; omega
  have HFb := toHid (show FdAt W0 S b ⟨x, p, (0, 0)⟩ from ⟨fun h => by have := HS.out.still b h; omega, hsh, hgd, htx, ar, lr, cr, HR0.out, hP.next fun q hq => HB0.out.block q (HS.out.still q hq)⟩)
  have HS0 := toHid (HS.out.next HB0.out)
  have HSET := toHid (setTail e c a fs x p b v1 v2 v3 v4 v5 te w W0 HS.out HB0.out HE.out HFb.out hfsb (by omega) hsz0 hl hef hSe ha hm1 hm2)
  clear hm1 hm2 hef hSe hP hsh hgd htx hnew HF hsz0
  unfold SetTail at HSET
  go_wp2_with fail
  go_region_with (first | (go_at_call 164; refine HSET.out.mono ?_; rintro r w2 ⟨g, cap, rfl, hn2⟩; have C2 := toHid hn2; clear hn2) | (go_at_call 163; refine C2.out.mono ?_; rintro r w3 ⟨g1, g2, rfl, hn3⟩; have C3 := toHid hn3; clear hn3) | (go_at_call 161; refine C3.out.mono ?_; rintro r w4 ⟨an, ln, cn, g4, rfl, hn4⟩; have C4 := toHid hn4; clear hn4))
  all_goals go_wp2
  all_goals refine bodyPost_ret (v := .tuple #[.slice an ln cn, .func (.func 106) #[] #[.pointer (some ⟨g4, 0, none⟩)], .int .i64 0]) (by simp [results, Tryz.results133, go_sem]) (by simp [go_sem]) ?_
  all_goals exact C4.out
end Go.Proofs.YtihgojcfpnhelaaGreatDoor
