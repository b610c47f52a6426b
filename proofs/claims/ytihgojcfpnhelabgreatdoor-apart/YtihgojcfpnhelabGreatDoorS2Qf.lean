import Derived.Test.YtihgojcfpnhelabGreatDoorS2Qb
set_option maxRecDepth 100000
set_option maxHeartbeats 4000000
set_option linter.unusedVariables false
set_option linter.unusedSimpArgs false
namespace Go.Proofs.YtihgojcfpnhelabGreatDoor
open Go.RowKit
section
theorem mendF_facts (fs gs : List (Nat × Fd)) (at_ : Nat) (f : Nat × Fd) (hat : at_ < fs.length) (hf : fs[at_] = f) (h : mendF fs at_ f = .ok gs) : gs.length = fs.length ∧ ∀ x, x ∈ gs → x ∈ fs := by
 have h0 : (aheadF fs at_ f).1.length = fs.length ∧ (∀ x, x ∈ (aheadF fs at_ f).1 → x ∈ fs) ∧ (aheadF fs at_ f).2 ≤ at_ := by
  unfold aheadF
  cases hF : fstM f.2.nm (fs.take at_) with
  | none => exact ⟨rfl, fun x hx => hx, Nat.le_refl _⟩
  | some j =>
   obtain ⟨h1, _, _⟩ := fstM_some hF
   simp at h1
   obtain ⟨p1, p2, _, _⟩ := aheadP_facts fs at_ j hat (by omega)
   exact ⟨p1, p2, by simp only; omega⟩
 unfold mendF behindF at h
 generalize (aheadF fs at_ f).1 = f1 at *
 generalize (aheadF fs at_ f).2 = a1 at *
 obtain ⟨l0, m0, b0⟩ := h0
 cases hL : lstM f.2.p f1 with
 | none =>
  rw [hL] at h
  cases h
  exact ⟨l0, m0⟩
 | some l =>
  obtain ⟨h1, _, _⟩ := lstM_some hL
  rw [hL] at h
  simp only at h
  split at h
  ·cases h
   exact ⟨l0, m0⟩
  ·cases hB : behP f ((f1.drop a1).take (l + 1 - a1)) [] [] [] with
   | circ ch => rw [hB] at h; cases h
   | ok st mv =>
    rw [hB] at h
    cases h
    have hlen := behP_len _ _ _ _ _ _ _ hB
    refine ⟨?_, fun x hx => m0 x (catP4_mem (fun y hy => ?_) x hx)⟩
    ·simp only [catP, List.length_append, List.length_nil, List.length_take, List.length_drop] at hlen ⊢
     omega
    ·have := behP_mem _ _ _ _ _ _ _ hB y hy
     simp at this
     exact List.mem_of_mem_drop (List.mem_of_mem_take this)
end
section
theorem alloc3_0 (w : World) (A B C : Obj) : (((w.alloc A).alloc B).alloc C).heap[w.heap.size]? = some A := by
 rw [Below.heap_alloc _ _ _ (by simp; omega), Below.heap_alloc _ _ _ (by simp)]
 exact heap_alloc_new w A
theorem alloc3_old (w : World) (A B C : Obj) (q : Nat) (hq : q < w.heap.size) : (((w.alloc A).alloc B).alloc C).heap[q]? = w.heap[q]? := by
 rw [Below.heap_alloc _ _ _ (by simp; omega), Below.heap_alloc _ _ _ (by simp; omega), Below.heap_alloc _ _ _ hq]
def put4 (w : World) (q : Nat) (k : Int) (nm : By) (n : Int) (a : Option Addr) (l c : Nat) : World := (((w.setCell ⟨q, 1, none⟩ (.int .i64 k)).setCell ⟨q, 2, none⟩ (.string ⟨nm.toArray⟩)).setCell ⟨q, 3, none⟩ (.int .i64 n)).setCell ⟨q, 4, none⟩ (.slice a l c)
theorem putRule (q : Nat) (v0 v5 v6 : Value) (k : Int) (nm : By) (n : Int) (a : Option Addr) (l c : Nat) (k' : Int) (nm' : By) (n' : Int) (a' : Option Addr) (l' c' : Nat) (t : TypeId) (w : World) (hr : w.heap[q]? = some (.cells #[v0, .int .i64 k, .string ⟨nm.toArray⟩, .int .i64 n, .slice a l c, v5, v6] t (0, 0))) :
  Calls Tryz.prog 74 #[.pointer (some ⟨q, 1, none⟩), .agg #[.int .i64 k', .string ⟨nm'.toArray⟩, .int .i64 n', .slice a' l' c']] w fun e w' => ∃ g1 g2, e = .returned (.func (.func 94) #[] #[.pointer (some ⟨g1, 0, none⟩), .pointer (some ⟨g2, 0, none⟩)]) ∧ w.heap.size ≤ g1 ∧ w.heap.size ≤ g2 ∧ g1 ≠ g2 ∧ w'.heap[g1]? = some (.cells #[.pointer (some ⟨q, 1, none⟩)] 148 (0, 0)) ∧ w'.heap[g2]? = some (.cells #[.int .i64 k, .string ⟨nm.toArray⟩, .int .i64 n, .slice a l c] 51 (0, 0)) ∧
   w'.heap[q]? = some (.cells #[v0, .int .i64 k', .string ⟨nm'.toArray⟩, .int .i64 n', .slice a' l' c', v5, v6] t (0, 0)) ∧ Ks (fun x => x = q) w w' := by
 obtain ⟨⟨k0, k1, k2, k3, k4, k5, k6⟩, fz, hq⟩ := row7 hr
 have f1 := fz 1
 have f2 := fz 2
 have f3 := fz 3
 have f4 := fz 4
 have hq1 : q < w.heap.size + 1 := by omega
 have hq2 : q < w.heap.size + 1 + 1 := by omega
 have HR := tZ hr
 clear hr fz
 go_enter Tryz.func74, Tryz.ntmps74
 go_wp2
 go_ret
 have hsz : (put4 w q k' nm' n' a' l' c').heap.size = w.heap.size := by simp [put4]
 have h4 : (put4 w q k' nm' n' a' l' c').heap[q]? = some (.cells #[v0, .int .i64 k', .string ⟨nm'.toArray⟩, .int .i64 n', .slice a' l' c', v5, v6] t (0, 0)) :=
  (setCell_block (setCell_block (setCell_block (setCell_block HR.out 1 _) 2 _) 3 _) 4 _).trans rfl
 have hk4 : Ks (fun x => x = q) w (put4 w q k' nm' n' a' l' c') := ((((Ks.refl (fun x => x = q) w).set q 1 _ rfl).set q 2 _ rfl).set q 3 _ rfl).set q 4 _ rfl
 refine ⟨w.heap.size, w.heap.size + 1 + 1, rfl, Nat.le_refl _, by omega, by omega, ?_, ?_, ?_, ((hk4.alloc _).alloc _).alloc _⟩
 ·rw [← hsz]
  exact alloc3_0 (put4 w q k' nm' n' a' l' c') _ _ _
 ·rw [← hsz]
  exact alloc3_new (put4 w q k' nm' n' a' l' c') _ _ _ _
 ·exact (alloc3_old (put4 w q k' nm' n' a' l' c') _ _ _ q (by rw [hsz]; exact hq)).trans h4
end
section
theorem linkQ_mem {T : Nat × Fd → Prop} {g f : Nat × Fd} {ls : List (List (Nat × Fd))} {ch : List (Nat × Fd)} (h : linkQ g f ls = some ch) (hl : ∀ l, l ∈ ls → ∀ x, x ∈ l → T x) (hg : T g) (hf : T f) : ∀ x, x ∈ ch → T x := by
 unfold linkQ at h
 split at h
 ·cases h
  intro x hx
  simp at hx
  rw [hx]; exact hf
 ·obtain ⟨c', h1, h2⟩ := Option.map_eq_some_iff.1 h
  rw [← h2]
  intro x hx
  simp at hx
  rcases hx with rfl | hx
  ·exact hg
  ·exact hl c' (List.mem_of_find?_eq_some h1) x hx
theorem behP_circ {T : Nat × Fd → Prop} (f : Nat × Fd) (hf : T f) : ∀ (gs st mv : List (Nat × Fd)) (ls : List (List (Nat × Fd))) (ch : List (Nat × Fd)), behP f gs st mv ls = .circ ch → (∀ l, l ∈ ls → ∀ x, x ∈ l → T x) → (∀ x, x ∈ gs → T x) → (∀ x, x ∈ ch → T x) ∧ ch ≠ []
 | [], st, mv, ls, ch, h, _, _ => by
  simp only [behP] at h
  cases h
 | g :: r, st, mv, ls, ch, h, hl, hg => by
  simp only [behP] at h
  cases hq : linkQ g f ls with
  | none =>
   rw [hq] at h
   exact behP_circ f hf r _ _ _ _ h hl fun x hx => hg x (by simp [hx])
  | some c' =>
   rw [hq] at h
   simp only at h
   have hm := linkQ_mem hq hl (hg g (by simp)) hf
   split at h
   ·cases h
    refine ⟨hm, ?_⟩
    unfold linkQ at hq
    split at hq
    ·cases hq
     simp
    ·obtain ⟨c2, _, h2⟩ := Option.map_eq_some_iff.1 hq
     rw [← h2]
     simp
   ·refine behP_circ f hf r _ _ _ _ h (fun l hl' => ?_) fun x hx => hg x (by simp [hx])
    simp at hl'
    rcases hl' with hl' | rfl
    ·exact hl l hl'
    ·exact hm
theorem mendF_circ (fs ch : List (Nat × Fd)) (at_ : Nat) (f : Nat × Fd) (hat : at_ < fs.length) (hf : fs[at_] = f) (h : mendF fs at_ f = .circ ch) : (∀ x, x ∈ ch → x ∈ fs) ∧ ch ≠ [] := by
 have h0 : ∀ x, x ∈ (aheadF fs at_ f).1 → x ∈ fs := by
  unfold aheadF
  cases hF : fstM f.2.nm (fs.take at_) with
  | none => exact fun x hx => hx
  | some j =>
   obtain ⟨h1, _, _⟩ := fstM_some hF
   simp at h1
   exact (aheadP_facts fs at_ j hat (by omega)).2.1
 unfold mendF behindF at h
 generalize (aheadF fs at_ f).1 = f1 at *
 generalize (aheadF fs at_ f).2 = a1 at *
 cases hL : lstM f.2.p f1 with
 | none => rw [hL] at h; cases h
 | some l =>
  rw [hL] at h
  simp only at h
  split at h
  ·cases h
  ·cases hB : behP f ((f1.drop a1).take (l + 1 - a1)) [] [] [] with
   | ok st mv => rw [hB] at h; cases h
   | circ c' =>
    rw [hB] at h
    cases h
    exact behP_circ (T := fun x => x ∈ fs) f (hf ▸ List.getElem_mem hat) _ _ _ _ _ hB (fun l hl => by simp at hl) fun x hx => h0 x (List.mem_of_mem_drop (List.mem_of_mem_take hx))
end
section
theorem findB_some {fs : List (Nat × Fd)} {x : By} {f : Nat × Fd} (h : findF fs x = some f) : findB fs x = some ⟨f.1, 0, none⟩ := by simp [findB, h]
theorem setOld {S : Nat → Prop} (e c : Nat) (a : Option Addr) (fs : List (Nat × Fd)) (f : Nat × Fd) (x : By) (p : Pt) (ar : Option Addr) (lr cr : Nat) (w : World) (Q : Option Addr → Nat → Nat → Value → Int → World → Prop) (hs : Sh w S a fs) (hc : w.cell? ⟨e, 0, none⟩ = some (.slice a fs.length c)) (hel : e < w.heap.size) (hl : fs.length ≤ 100) (hfx : findF fs x = some f) (hef : f.1 ≠ e)
  (hSt : ∀ g1 g2 w1, w1.heap[f.1]? = some (.cells #[.string ⟨f.2.nm.toArray⟩, .int .i64 (p.k : Int), .string ⟨p.nm.toArray⟩, .int .i64 (p.n : Int), .slice ar lr cr, .int .i64 f.2.v.1, .int .i64 f.2.v.2] 119 (0, 0)) → Ks (fun q => q = f.1) w w1 →
   (∃ (fa : Option Addr) (fl fc : Nat), w.heap[f.1]? = some (.cells #[.string ⟨f.2.nm.toArray⟩, .int .i64 (f.2.p.k : Int), .string ⟨f.2.p.nm.toArray⟩, .int .i64 (f.2.p.n : Int), .slice fa fl fc, .int .i64 f.2.v.1, .int .i64 f.2.v.2] 119 (0, 0)) ∧ w.heap.size ≤ g1 ∧ w.heap.size ≤ g2 ∧ g1 ≠ g2 ∧ w1.heap[g1]? = some (.cells #[.pointer (some ⟨f.1, 1, none⟩)] 148 (0, 0)) ∧ w1.heap[g2]? = some (.cells #[.int .i64 (f.2.p.k : Int), .string ⟨f.2.p.nm.toArray⟩, .int .i64 (f.2.p.n : Int), .slice fa fl fc] 51 (0, 0))) →
   Calls Tryz.prog 73 #[.pointer (some ⟨e, 0, none⟩), .pointer (some ⟨f.1, 0, none⟩), .func (.func 94) #[] #[.pointer (some ⟨g1, 0, none⟩), .pointer (some ⟨g2, 0, none⟩)]] w1 fun r w' => ∃ (an : Option Addr) (ln cn : Nat) (bk : Value) (er : Int), r = .returned (.tuple #[.slice an ln cn, bk, .int .i64 er]) ∧ Q an ln cn bk er w') :
  Calls Tryz.prog 54 #[.pointer (some ⟨e, 0, none⟩), .string ⟨x.toArray⟩, .agg #[.int .i64 (p.k : Int), .string ⟨p.nm.toArray⟩, .int .i64 (p.n : Int), .slice ar lr cr]] w fun r w' => ∃ (an : Option Addr) (ln cn : Nat) (bk : Value) (er : Int), r = .returned (.tuple #[.slice an ln cn, bk, .int .i64 er]) ∧ Q an ln cn bk er w' := by
 have HF := tZ (fun W (hb : Below w.heap.size w W) => find101 x e c a fs W (hs.next hb) ((hb.cell (p := ⟨e, 0, none⟩) hel).trans hc) (by omega))
 rw [findB_some hfx] at HF
 have hff := hs.fld f (findF_mem hfx).1
 obtain ⟨_, _, _, _, fa, fl, fc, hr, _⟩ := hff
 have hfl := (Array.getElem?_eq_some_iff.1 hr).1
 have HPR := tZ (fun W (hW : Below w.heap.size w W) => (putRule f.1 (.string ⟨f.2.nm.toArray⟩) (.int .i64 f.2.v.1) (.int .i64 f.2.v.2) f.2.p.k f.2.p.nm f.2.p.n fa fl fc p.k p.nm p.n ar lr cr 119 W ((hW.block f.1 hfl).trans hr)).mono (R' := fun e' w1 => ∃ g1 g2, e' = .returned (.func (.func 94) #[] #[.pointer (some ⟨g1, 0, none⟩), .pointer (some ⟨g2, 0, none⟩)]) ∧ Hid (Calls Tryz.prog 73 #[.pointer (some ⟨e, 0, none⟩), .pointer (some ⟨f.1, 0, none⟩), .func (.func 94) #[] #[.pointer (some ⟨g1, 0, none⟩), .pointer (some ⟨g2, 0, none⟩)]] w1 fun r w' => ∃ (an : Option Addr) (ln cn : Nat) (bk : Value) (er : Int), r = .returned (.tuple #[.slice an ln cn, bk, .int .i64 er]) ∧ Q an ln cn bk er w')) (by
  rintro e' w1 ⟨g1, g2, rfl, h1, h2, h3, h4, h5, h6, h7⟩
  exact ⟨g1, g2, rfl, hSt g1 g2 w1 h6 ((Ks.of hW).trans h7) ⟨fa, fl, fc, hr, Nat.le_trans hW.size h1, Nat.le_trans hW.size h2, h3, h4, h5⟩⟩))
 clear hs hr hSt hfx
 go_enter Tryz.func54, Tryz.ntmps54
 go_wp2_with (first | (go_at_call 58; refine (HF.out _ (bZ _)).mono ?_; rintro r w1 ⟨rfl, rfl⟩; refine Hid.out ?_))
 refine tZ ?_
 clear HF
 have HP2 := tZ (HPR.out (w.alloc (.cells #[.int .i64 (p.k : Int), .string ⟨p.nm.toArray⟩, .int .i64 (p.n : Int), .slice ar lr cr] 51)).drew (bZ _).drew)
 clear HPR
 go_wp2_with fail
 go_region_with (first
  | (go_at_call 74; refine HP2.out.mono ?_; rintro e' w2 ⟨g1, g2, rfl, hst⟩)
  | (go_at_call 73; refine hst.out.mono ?_; rintro r w3 ⟨an, ln, cn, bk, er, rfl, hq⟩; have HQ := tZ hq; clear hq))
 all_goals go_wp2
 all_goals refine bodyPost_ret (v := .tuple #[.slice an ln cn, bk, .int .i64 er]) (by simp [results, Tryz.results54, go_sem]) (by simp [go_sem]) ?_
 all_goals exact ⟨an, ln, cn, bk, er, rfl, HQ.out⟩
end
end Go.Proofs.YtihgojcfpnhelabGreatDoor
