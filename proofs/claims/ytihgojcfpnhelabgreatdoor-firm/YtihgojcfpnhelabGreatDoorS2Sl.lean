import Derived.Test.YtihgojcfpnhelabGreatDoorS2Sz
set_option maxRecDepth 100000
set_option maxHeartbeats 4000000
set_option linter.unusedVariables false
set_option linter.unusedSimpArgs false
namespace Go.Proofs.YtihgojcfpnhelabGreatDoor
open Go.RowKit
section
def fstM (x : By) : List (Nat × Fd) → Option Nat
 | [] => none
 | g :: r => if mentP x g.2.p then some 0 else (fstM x r).map (· + 1)
theorem fstM_none {x : By} : ∀ {fs : List (Nat × Fd)}, fstM x fs = none → ∀ i (h : i < fs.length), mentP x (fs[i]).2.p = false
 | [], _, i, h => by simp at h
 | g :: r, hn, i, h => by
  unfold fstM at hn
  split at hn
  ·cases hn
  ·rename_i hg
   cases i with
   | zero => simpa using hg
   | succ i =>
    have : fstM x r = none := by
     cases hr : fstM x r with
     | none => rfl
     | some k => rw [hr] at hn; cases hn
    exact fstM_none this i (by simpa using h)
theorem fstM_some {x : By} : ∀ {fs : List (Nat × Fd)} {j : Nat}, fstM x fs = some j → ∃ h : j < fs.length, mentP x (fs[j]).2.p = true ∧ ∀ i (hi : i < fs.length), i < j → mentP x (fs[i]).2.p = false
 | [], j, h => by cases h
 | g :: r, j, h => by
  unfold fstM at h
  split at h
  ·rename_i hg
   cases h
   exact ⟨by simp, by simpa using hg, fun i hi h => by omega⟩
  ·rename_i hg
   obtain ⟨k, hk, rfl⟩ := Option.map_eq_some_iff.1 h
   obtain ⟨h1, h2, h3⟩ := fstM_some hk
   refine ⟨by simpa using h1, by simpa using h2, fun i hi hij => ?_⟩
   cases i with
   | zero => simpa using hg
   | succ i => exact h3 i (by simpa using hi) (by omega)
def lstM (p : Pt) : List (Nat × Fd) → Option Nat
 | [] => none
 | g :: r => match lstM p r with
  | some k => some (k + 1)
  | none => if mentP g.2.nm p then some 0 else none
theorem lstM_none {p : Pt} : ∀ {fs : List (Nat × Fd)}, lstM p fs = none → ∀ i (h : i < fs.length), mentP (fs[i]).2.nm p = false
 | [], _, i, h => by simp at h
 | g :: r, hn, i, h => by
  unfold lstM at hn
  cases hr : lstM p r with
  | some k => rw [hr] at hn; cases hn
  | none =>
   rw [hr] at hn
   simp only at hn
   split at hn
   ·cases hn
   ·rename_i hg
    cases i with
    | zero => simpa using hg
    | succ i => exact lstM_none hr i (by simpa using h)
theorem lstM_some {p : Pt} : ∀ {fs : List (Nat × Fd)} {j : Nat}, lstM p fs = some j → ∃ h : j < fs.length, mentP (fs[j]).2.nm p = true ∧ ∀ i (hi : i < fs.length), j < i → mentP (fs[i]).2.nm p = false
 | [], j, h => by cases h
 | g :: r, j, h => by
  unfold lstM at h
  cases hr : lstM p r with
  | some k =>
   rw [hr] at h
   simp only at h
   cases h
   obtain ⟨h1, h2, h3⟩ := lstM_some hr
   refine ⟨by simpa using h1, by simpa using h2, fun i hi hij => ?_⟩
   cases i with
   | zero => omega
   | succ i => exact h3 i (by simpa using hi) (by omega)
  | none =>
   rw [hr] at h
   simp only at h
   split at h
   ·rename_i hg
    cases h
    refine ⟨by simp, by simpa using hg, fun i hi hij => ?_⟩
    cases i with
    | zero => omega
    | succ i => exact lstM_none hr i (by simpa using hi)
   ·cases h
inductive MdR where
 | ok (gs : List (Nat × Fd))
 | circ (ch : List (Nat × Fd))
def aheadF (fs : List (Nat × Fd)) (at_ : Nat) (f : Nat × Fd) : List (Nat × Fd) × Nat := match fstM f.2.nm (fs.take at_) with | none => (fs, at_) | some j => (aheadP fs at_ j, j)
def behindF (fs : List (Nat × Fd)) (at_ : Nat) (f : Nat × Fd) : MdR := match lstM f.2.p fs with
 | none => .ok fs
 | some l => if l < at_ then .ok fs else match behP f ((fs.drop at_).take (l + 1 - at_)) [] [] [] with
  | .ok st mv => .ok (catP [fs.take at_, st, mv, fs.drop (l + 1)])
  | .circ ch => .circ ch
def mendF (fs : List (Nat × Fd)) (at_ : Nat) (f : Nat × Fd) : MdR := behindF (aheadF fs at_ f).1 (aheadF fs at_ f).2 f
theorem behP_mem (f : Nat × Fd) : ∀ (gs st mv : List (Nat × Fd)) (ls : List (List (Nat × Fd))) (st' mv' : List (Nat × Fd)), behP f gs st mv ls = .ok st' mv' → ∀ x, x ∈ st' ++ mv' → x ∈ st ++ mv ++ gs
 | [], st, mv, ls, st', mv', h, x, hx => by
  simp only [behP] at h
  cases h
  simpa using hx
 | g :: r, st, mv, ls, st', mv', h, x, hx => by
  simp only [behP] at h
  split at h
  ·have := behP_mem f r _ _ _ _ _ h x hx
   simp at this ⊢
   rcases this with h1 | h1 | h1 | h1
   ·exact Or.inl h1
   ·exact Or.inr (Or.inr (Or.inl h1))
   ·exact Or.inr (Or.inl h1)
   ·exact Or.inr (Or.inr (Or.inr h1))
  ·split at h
   ·cases h
   ·have := behP_mem f r _ _ _ _ _ h x hx
    simp at this ⊢
    rcases this with h1 | h1 | h1 | h1
    ·exact Or.inl h1
    ·exact Or.inr (Or.inl h1)
    ·exact Or.inr (Or.inr (Or.inl h1))
    ·exact Or.inr (Or.inr (Or.inr h1))
theorem behP_len (f : Nat × Fd) : ∀ (gs st mv : List (Nat × Fd)) (ls : List (List (Nat × Fd))) (st' mv' : List (Nat × Fd)), behP f gs st mv ls = .ok st' mv' → st'.length + mv'.length = st.length + mv.length + gs.length
 | [], st, mv, ls, st', mv', h => by
  simp only [behP] at h
  cases h
  simp
 | g :: r, st, mv, ls, st', mv', h => by
  simp only [behP] at h
  split at h
  ·have := behP_len f r _ _ _ _ _ h
   simp at this ⊢
   omega
  ·split at h
   ·cases h
   ·have := behP_len f r _ _ _ _ _ h
    simp at this ⊢
    omega
end
section
def NM (g h : Nat × Fd) : Prop := mentP h.2.nm g.2.p = false
def Topo (fs : List (Nat × Fd)) : Prop := fs.Pairwise NM ∧ ∀ g, g ∈ fs → NM g g
def Hd (ls : List (List (Nat × Fd))) (mv : List (Nat × Fd)) : Prop := ls.map List.head? = mv.map some
theorem Hd.snoc {ls : List (List (Nat × Fd))} {mv ch : List (Nat × Fd)} {g : Nat × Fd} (h : Hd ls mv) (hc : ch.head? = some g) : Hd (ls ++ [ch]) (mv ++ [g]) := by
 unfold Hd at *
 simp [h, hc]
theorem Hd.not {ls : List (List (Nat × Fd))} {mv : List (Nat × Fd)} {g f : Nat × Fd} (h : Hd ls mv) (hq : linkQ g f ls = none) : ∀ m, m ∈ mv → NM g m := by
 intro m hm
 unfold linkQ at hq
 split at hq
 ·cases hq
 ·have hn : ls.find? (lkQ g) = none := by
   cases hh : ls.find? (lkQ g) with
   | none => rfl
   | some x => rw [hh] at hq; cases hq
  have : some m ∈ ls.map List.head? := by
   rw [h]
   exact List.mem_map_of_mem hm
  obtain ⟨l, hl, he⟩ := List.mem_map.1 this
  have hno := List.find?_eq_none.1 hn l hl
  cases l with
  | nil => cases he
  | cons x r =>
   simp at he
   subst he
   simpa [lkQ, NM] using hno
theorem linkQ_head {g f : Nat × Fd} {ls : List (List (Nat × Fd))} {ch : List (Nat × Fd)} (hne : g.1 ≠ f.1) (h : linkQ g f ls = some ch) : ch.head? = some g := by
 unfold linkQ at h
 rw [if_neg hne] at h
 obtain ⟨c, _, rfl⟩ := Option.map_eq_some_iff.1 h
 rfl
theorem behP_seg (f : Nat × Fd) : ∀ (seg st mv : List (Nat × Fd)) (ls : List (List (Nat × Fd))) (st' mv' : List (Nat × Fd)), (∀ g, g ∈ seg → g.1 ≠ f.1) → seg.Pairwise NM → Hd ls mv → behP f seg st mv ls = .ok st' mv' →
  ∃ sq mq, st' = st ++ sq ∧ mv' = mv ++ mq ∧ sq.Sublist seg ∧ mq.Sublist seg ∧ (∀ g, g ∈ mq → NM f g) ∧ (∀ g, g ∈ sq → ∀ m, m ∈ mv → NM g m) ∧ (∀ g, g ∈ sq → ∀ m, m ∈ mq → NM g m)
 | [], st, mv, ls, st', mv', _, _, _, h => by
  simp only [behP] at h
  cases h
  exact ⟨[], [], by simp, by simp, List.Sublist.refl _, List.Sublist.refl _, by simp, by simp, by simp⟩
 | g :: r, st, mv, ls, st', mv', hne, hp, hh, h => by
  have hp' := List.pairwise_cons.1 hp
  have hgn := hne g (by simp)
  simp only [behP] at h
  cases hq : linkQ g f ls with
  | none =>
   rw [hq] at h
   obtain ⟨sq, mq, rfl, rfl, h1, h2, h3, h4, h5⟩ := behP_seg f r _ _ _ _ _ (fun x hx => hne x (by simp [hx])) hp'.2 hh h
   refine ⟨g :: sq, mq, by simp, rfl, h1.cons_cons g, h2.cons g, h3, fun x hx m hm => ?_, fun x hx m hm => ?_⟩
   ·rcases List.mem_cons.1 hx with rfl | hx
    ·exact hh.not hq m hm
    ·exact h4 x hx m hm
   ·rcases List.mem_cons.1 hx with rfl | hx
    ·exact hp'.1 m (h2.subset hm)
    ·exact h5 x hx m hm
  | some ch =>
   rw [hq] at h
   simp only at h
   split at h
   ·cases h
   ·rename_i hfm
    obtain ⟨sq, mq, rfl, rfl, h1, h2, h3, h4, h5⟩ := behP_seg f r _ _ _ _ _ (fun x hx => hne x (by simp [hx])) hp'.2 (hh.snoc (linkQ_head hgn hq)) h
    refine ⟨sq, g :: mq, rfl, by simp, h1.cons g, h2.cons_cons g, fun x hx => ?_, fun x hx m hm => h4 x hx m (by simp [hm]), fun x hx m hm => ?_⟩
    ·rcases List.mem_cons.1 hx with rfl | hx
     ·simpa [NM] using hfm
     ·exact h3 x hx
    ·rcases List.mem_cons.1 hm with rfl | hm
     ·exact h4 x hx m (by simp)
     ·exact h5 x hx m hm
theorem ahead_split (A B : List (Nat × Fd)) (f : Nat × Fd) : ∃ L M, (aheadF (A ++ f :: B) A.length f).1 = L ++ f :: M ∧ (aheadF (A ++ f :: B) A.length f).2 = L.length ∧ L ++ M = A ++ B ∧ ∀ g, g ∈ L → NM g f := by
 have ht : (A ++ f :: B).take A.length = A := by simp
 unfold aheadF
 rw [ht]
 cases hF : fstM f.2.nm A with
 | none =>
  refine ⟨A, B, rfl, rfl, rfl, fun g hg => ?_⟩
  obtain ⟨i, hi, rfl⟩ := List.getElem_of_mem hg
  exact fstM_none hF i hi
 | some j =>
  obtain ⟨h1, _, h3⟩ := fstM_some hF
  refine ⟨A.take j, A.drop j ++ B, ?_, by simp; omega, by rw [← List.append_assoc, List.take_append_drop], fun g hg => ?_⟩
  ·have e1 : (A ++ f :: B).take j = A.take j := by rw [List.take_append_of_le_length (by omega)]
   have e2 : ((A ++ f :: B).drop A.length).take 1 = [f] := by simp
   have e3 : ((A ++ f :: B).drop j).take (A.length - j) = A.drop j := by
    rw [List.drop_append_of_le_length (by omega), List.take_append_of_le_length (by simp)]
    exact List.take_of_length_le (by simp)
   have e4 : (A ++ f :: B).drop (A.length + 1) = B := by
    rw [List.drop_append]
    simp
   simp only [aheadP, catP, e1, e2, e3, e4]
   simp
  ·obtain ⟨i, hi, rfl⟩ := List.getElem_of_mem hg
   have hi' : i < j := by simp at hi; omega
   rw [List.getElem_take]
   exact h3 i (by omega) hi'
theorem pw_app {l1 l2 : List (Nat × Fd)} : (l1 ++ l2).Pairwise NM ↔ l1.Pairwise NM ∧ l2.Pairwise NM ∧ ∀ a, a ∈ l1 → ∀ b, b ∈ l2 → NM a b := List.pairwise_append
theorem mend_topo (A B gs : List (Nat × Fd)) (f : Nat × Fd) (hp : (A ++ B).Pairwise NM) (hs : ∀ g, g ∈ A ++ B → NM g g) (hd : ∀ g, g ∈ A ++ B → g.1 ≠ f.1) (h : mendF (A ++ f :: B) A.length f = .ok gs) : Topo gs := by
 obtain ⟨L, M, e1, e2, e3, hLf⟩ := ahead_split A B f
 unfold mendF at h
 rw [e1, e2] at h
 rw [← e3] at hp hs hd
 obtain ⟨pL, pM, pLM⟩ := pw_app.1 hp
 have whole : (∀ m, m ∈ M → NM f m) → NM f f → Topo (L ++ f :: M) := fun h1 h2 => by
  refine ⟨pw_app.2 ⟨pL, List.pairwise_cons.2 ⟨h1, pM⟩, fun a ha b hb => ?_⟩, fun g hg => ?_⟩
  ·rcases List.mem_cons.1 hb with rfl | hb
   ·exact hLf a ha
   ·exact pLM a ha b hb
  ·simp at hg
   rcases hg with hg | rfl | hg
   ·exact hs g (by simp [hg])
   ·exact h2
   ·exact hs g (by simp [hg])
 unfold behindF at h
 cases hL : lstM f.2.p (L ++ f :: M) with
 | none =>
  rw [hL] at h
  cases h
  have hn : ∀ x, x ∈ L ++ f :: M → NM f x := fun x hx => by
   obtain ⟨i, hi, rfl⟩ := List.getElem_of_mem hx
   exact lstM_none hL i hi
  exact whole (fun m hm => hn m (by simp [hm])) (hn f (by simp))
 | some l =>
  obtain ⟨h1, _, h3⟩ := lstM_some hL
  have beh : ∀ i (hi : i < M.length), l < L.length + 1 + i → NM f M[i] := fun i hi hl => by
   have := h3 (L.length + 1 + i) (by simp; omega) hl
   rw [List.getElem_append_right (by omega)] at this
   simpa [NM, show L.length + 1 + i - L.length = i + 1 by omega] using this
  rw [hL] at h
  simp only at h
  split at h
  ·rename_i hlt
   cases h
   refine whole (fun m hm => ?_) ?_
   ·obtain ⟨i, hi, rfl⟩ := List.getElem_of_mem hm
    exact beh i hi (by omega)
   ·have := h3 L.length (by simp) hlt
    rw [List.getElem_append_right (Nat.le_refl _)] at this
    simpa [NM] using this
  ·rename_i hlt
   have hkl : L.length ≤ l := by omega
   have d1 : ((L ++ f :: M).drop L.length).take (l + 1 - L.length) = f :: M.take (l - L.length) := by
    rw [List.drop_left, show l + 1 - L.length = (l - L.length) + 1 by omega, List.take_succ_cons]
   have d2 : (L ++ f :: M).drop (l + 1) = M.drop (l - L.length) := by
    rw [List.drop_append, List.drop_of_length_le (by omega), List.nil_append, show l + 1 - L.length = (l - L.length) + 1 by omega, List.drop_succ_cons]
   rw [d1, d2, List.take_left] at h
   have hD : ∀ m, m ∈ M.drop (l - L.length) → NM f m := fun m hm => by
    obtain ⟨i, hi, rfl⟩ := List.getElem_of_mem hm
    rw [List.getElem_drop]
    exact beh _ (by simp at hi; omega) (by omega)
   simp only [behP] at h
   have hq0 : linkQ f f [] = some [f] := by simp [linkQ]
   rw [hq0] at h
   simp only at h
   cases hff : mentP f.2.nm f.2.p with
   | true => rw [hff] at h; simp at h
   | false =>
    rw [hff] at h
    simp only [Bool.false_eq_true, if_false, List.nil_append] at h
    generalize hk : l - L.length = k at *
    cases hB : behP f (M.take k) [] [f] [[f]] with
    | circ ch => rw [hB] at h; cases h
    | ok st mv =>
     rw [hB] at h
     cases h
     have pT : (M.take k).Pairwise NM := pM.sublist (List.take_sublist _ _)
     obtain ⟨sq, mq, r1, r2, h4, h5, h6, h7, h8⟩ := behP_seg f (M.take k) [] [f] [[f]] st mv (fun g hg => hd g (by simp [List.mem_of_mem_take hg])) pT (by simp [Hd]) hB
     simp only [List.nil_append] at r1
     subst r1 r2
     have sT : ∀ x, x ∈ M.take k → x ∈ M := fun x hx => List.mem_of_mem_take hx
     have sD : ∀ x, x ∈ M.drop k → x ∈ M := fun x hx => List.mem_of_mem_drop hx
     have pMk : (M.take k ++ M.drop k).Pairwise NM := by rw [List.take_append_drop]; exact pM
     obtain ⟨_, pDk, pTD⟩ := pw_app.1 pMk
     refine ⟨?_, fun g hg => ?_⟩
     ·simp only [catP, List.append_nil]
      refine pw_app.2 ⟨pL, pw_app.2 ⟨pT.sublist h4, pw_app.2 ⟨?_, pDk, ?_⟩, ?_⟩, ?_⟩
      ·simp only [List.singleton_append]
       exact List.pairwise_cons.2 ⟨h6, pT.sublist h5⟩
      ·intro a ha b hb
       simp at ha
       rcases ha with rfl | ha
       ·exact hD b hb
       ·exact pTD a (h5.subset ha) b hb
      ·intro a ha b hb
       rcases List.mem_append.1 hb with hb | hb
       ·simp at hb
        rcases hb with rfl | hb
        ·exact h7 a ha b (by simp)
        ·exact h8 a ha b hb
       ·exact pTD a (h4.subset ha) b hb
      ·intro a ha b hb
       simp at hb
       rcases hb with hb | rfl | hb | hb
       ·exact pLM a ha b (sT b (h4.subset hb))
       ·exact hLf a ha
       ·exact pLM a ha b (sT b (h5.subset hb))
       ·exact pLM a ha b (sD b hb)
     ·simp [catP] at hg
      rcases hg with hg | hg | rfl | hg | hg
      ·exact hs g (by simp [hg])
      ·exact hs g (by simp [sT g (h4.subset hg)])
      ·exact hff
      ·exact hs g (by simp [sT g (h5.subset hg)])
      ·exact hs g (by simp [sD g hg])
def Chn (f : Nat × Fd) : List (Nat × Fd) → Prop
 | [] => False
 | [x] => x = f
 | x :: y :: r => mentP y.2.nm x.2.p = true ∧ Chn f (y :: r)
theorem linkQ_chn {g f : Nat × Fd} {ls : List (List (Nat × Fd))} {mv ch : List (Nat × Fd)} (hne : g.1 ≠ f.1) (hl : ∀ l, l ∈ ls → Chn f l ∧ (∀ x, x ∈ l → x ∈ mv) ∧ (l.map Prod.fst).Nodup) (hg : ∀ m, m ∈ mv → g.1 ≠ m.1) (h : linkQ g f ls = some ch) : Chn f ch ∧ (∀ x, x ∈ ch → x = g ∨ x ∈ mv) ∧ (ch.map Prod.fst).Nodup ∧ ∃ r, ch = g :: r := by
 unfold linkQ at h
 rw [if_neg hne] at h
 obtain ⟨c, h1, rfl⟩ := Option.map_eq_some_iff.1 h
 have hm := List.mem_of_find?_eq_some h1
 obtain ⟨c1, c2, c3⟩ := hl c hm
 have hk : lkQ g c = true := List.find?_some h1
 refine ⟨?_, fun x hx => ?_, ?_, c, rfl⟩
 ·cases c with
  | nil => exact c1.elim
  | cons y r => exact ⟨by simpa [lkQ] using hk, c1⟩
 ·rcases List.mem_cons.1 hx with rfl | hx
  ·exact Or.inl rfl
  ·exact Or.inr (c2 x hx)
 ·rw [List.map_cons, List.nodup_cons]
  refine ⟨fun hh => ?_, c3⟩
  obtain ⟨x, hx, he⟩ := List.mem_map.1 hh
  exact hg x (c2 x hx) he.symm
theorem behP_cyc (f : Nat × Fd) : ∀ (seg st mv : List (Nat × Fd)) (ls : List (List (Nat × Fd))) (ch : List (Nat × Fd)), (∀ g, g ∈ seg → g.1 ≠ f.1) → (seg.map Prod.fst).Nodup → (∀ g, g ∈ seg → ∀ m, m ∈ mv → g.1 ≠ m.1) → (∀ l, l ∈ ls → Chn f l ∧ (∀ x, x ∈ l → x ∈ mv) ∧ (l.map Prod.fst).Nodup) → behP f seg st mv ls = .circ ch →
  Chn f ch ∧ (ch.map Prod.fst).Nodup ∧ ∃ g r, ch = g :: r ∧ mentP g.2.nm f.2.p = true
 | [], st, mv, ls, ch, _, _, _, _, h => by
  simp only [behP] at h
  cases h
 | g :: r, st, mv, ls, ch, hne, hnd, hdj, hl, h => by
  rw [List.map_cons, List.nodup_cons] at hnd
  simp only [behP] at h
  cases hq : linkQ g f ls with
  | none =>
   rw [hq] at h
   exact behP_cyc f r _ _ _ _ (fun x hx => hne x (by simp [hx])) hnd.2 (fun x hx => hdj x (by simp [hx])) hl h
  | some c =>
   obtain ⟨k1, k2, k3, r', k4⟩ := linkQ_chn (hne g (by simp)) hl (hdj g (by simp)) hq
   rw [hq] at h
   simp only at h
   split at h
   ·rename_i hm
    cases h
    exact ⟨k1, k3, g, r', k4, hm⟩
   ·refine behP_cyc f r _ _ _ _ (fun x hx => hne x (by simp [hx])) hnd.2 (fun x hx m hm => ?_) (fun l hl' => ?_) h
    ·simp at hm
     rcases hm with hm | rfl
     ·exact hdj x (by simp [hx]) m hm
     ·exact fun e => hnd.1 (List.mem_map.2 ⟨x, hx, e⟩)
    ·simp at hl'
     rcases hl' with hl' | rfl
     ·obtain ⟨a1, a2, a3⟩ := hl l hl'
      exact ⟨a1, fun x hx => by simp [a2 x hx], a3⟩
     ·refine ⟨k1, fun x hx => ?_, k3⟩
      rcases k2 x hx with rfl | hx
      ·simp
      ·simp [hx]
theorem mend_cyc (A B ch : List (Nat × Fd)) (f : Nat × Fd) (hd : ((A ++ f :: B).map Prod.fst).Nodup) (h : mendF (A ++ f :: B) A.length f = .circ ch) : Chn f ch ∧ (ch.map Prod.fst).Nodup ∧ ∃ g r, ch = g :: r ∧ mentP g.2.nm f.2.p = true := by
 obtain ⟨L, M, e1, e2, e3, _⟩ := ahead_split A B f
 have hd' : ((L ++ M).map Prod.fst).Nodup ∧ ∀ g, g ∈ L ++ M → g.1 ≠ f.1 := by
  rw [e3]
  rw [List.map_append, List.map_cons] at hd
  have hp : (A.map Prod.fst ++ f.1 :: B.map Prod.fst).Perm (f.1 :: (A.map Prod.fst ++ B.map Prod.fst)) := List.perm_middle
  have := hp.nodup_iff.1 hd
  rw [List.nodup_cons] at this
  refine ⟨by rw [List.map_append]; exact this.2, fun g hg e => this.1 ?_⟩
  rw [← List.map_append, ← e]
  exact List.mem_map_of_mem hg
 unfold mendF at h
 rw [e1, e2] at h
 unfold behindF at h
 cases hL : lstM f.2.p (L ++ f :: M) with
 | none => rw [hL] at h; cases h
 | some l =>
  rw [hL] at h
  simp only at h
  split at h
  ·cases h
  ·rename_i hlt
   have d1 : ((L ++ f :: M).drop L.length).take (l + 1 - L.length) = f :: M.take (l - L.length) := by
    rw [List.drop_left, show l + 1 - L.length = (l - L.length) + 1 by omega, List.take_succ_cons]
   rw [d1] at h
   simp only [behP] at h
   have hq0 : linkQ f f [] = some [f] := by simp [linkQ]
   rw [hq0] at h
   simp only at h
   cases hff : mentP f.2.nm f.2.p with
   | true =>
    rw [hff] at h
    simp at h
    subst h
    exact ⟨rfl, by simp, f, [], rfl, hff⟩
   | false =>
    rw [hff] at h
    simp only [Bool.false_eq_true, if_false, List.nil_append] at h
    cases hB : behP f (M.take (l - L.length)) [] [f] [[f]] with
    | ok st mv => rw [hB] at h; cases h
    | circ c =>
     rw [hB] at h
     cases h
     have hMt : ∀ g, g ∈ M.take (l - L.length) → g.1 ≠ f.1 := fun g hg => hd'.2 g (by simp [List.mem_of_mem_take hg])
     refine behP_cyc f _ _ _ _ _ hMt ?_ (fun g hg m hm => ?_) (fun l hl => ?_) hB
     ·have h2 : (M.map Prod.fst).Nodup := by
       have := hd'.1
       rw [List.map_append] at this
       exact (List.nodup_append.1 this).2.1
      exact h2.sublist ((List.take_sublist _ _).map _)
     ·simp at hm
      rw [hm]
      exact hMt g hg
     ·simp at hl
      subst hl
      exact ⟨rfl, fun x hx => hx, by simp⟩
end
section
theorem Sh.ofOwnF {w : World} {S : Nat → Prop} {ak : Option Addr} {k : List (Nat × Fd)} {B ck : Nat} (hS : ∀ q, S q → q < w.heap.size) (hfd : ∀ x, x ∈ k → FdAt w S x.1 x.2) (ho : w.ownsRow B 116 1 (.slice ak k.length ck) k.length (ptrs k)) (hB : ∀ f, f ∈ k → f.1 < B) : Sh w (fun q => S q ∨ ∃ o, ak = some ⟨q, o, none⟩) ak k := by
 have hblk : ∀ q o, ak = some ⟨q, o, none⟩ → B ≤ q ∧ q < w.heap.size := fun q o hq => by
  subst hq
  rcases ho.2 with ⟨h1, _⟩ | ⟨g, cap, cur, h1, h2, h3, _⟩
  ·simp at h1
  ·simp at h1
   obtain ⟨⟨rfl, rfl⟩, _⟩ := h1
   exact ⟨h2, (Array.getElem?_eq_some_iff.1 h3).1⟩
 refine ⟨fun q hq => ?_, fun j hj => ?_, fun x hx => ?_⟩
 ·rcases hq with hq | ⟨o, hq⟩
  ·exact hS q hq
  ·exact (hblk q o hq).2
 ·obtain ⟨g, cap, hv, _, _⟩ := ho.form (by omega)
  simp at hv
  obtain ⟨rfl, rfl⟩ := hv
  refine ⟨g, 0, rfl, Or.inr ⟨0, rfl⟩, ?_⟩
  rw [Nat.zero_add, ho.cellAt j (by omega)]
  simp [ptrs, hj]
 ·obtain ⟨h1, h2, h3, h4, a1, l1, c1, hh, hp⟩ := hfd x hx
  refine ⟨?_, h2, h3, h4, a1, l1, c1, hh, hp.wide fun q hq => Or.inl hq⟩
  rintro (hq | ⟨o, hq⟩)
  ·exact h1 hq
  ·have := (hblk _ o hq).1
   have := hB x hx
   omega
end
section
theorem own_setNe {w : World} {base z n q j : Nat} {e : TypeId} {v u : Value} {xs : List Value} (h : w.ownsRow base e z v n xs) (hq : v.ownBlock ≠ some q) : (w.setCell ⟨q, j, none⟩ u).ownsRow base e z v n xs := by
 obtain ⟨h1, h2⟩ := h
 refine ⟨h1, h2.imp id ?_⟩
 rintro ⟨g, cap, cur, rfl, h4, h5, h6⟩
 exact ⟨g, cap, cur, rfl, h4, (Below.heap_setCell _ _ _ _ (by show g ≠ q; intro e; exact hq (by rw [e]; rfl))).trans h5, h6⟩
theorem addKeep (e : Nat) (fv : Fn) (cs : Array Value) (w : World) (Q : Ending → World → Prop) (h4 : w.cell? ⟨e, 4, none⟩ = some (.bool false))
  (hK : Calls Tryz.prog 38 #[.pointer (some ⟨e, 1, none⟩), .func fv #[] cs] w fun r w' => r = .returned (.tuple #[]) ∧ Q r w') :
  Calls Tryz.prog 37 #[.pointer (some ⟨e, 1, none⟩), .func fv #[] cs] w fun r w' => r = .returned (.tuple #[]) ∧ Q r w' := by
 have HK := tZ hK
 clear hK
 go_enter Tryz.func37, Tryz.ntmps37
 go_wp2_with (first | (go_at_call 38; refine HK.out.mono ?_; rintro r w2 ⟨rfl, hq⟩; refine Hid.out ?_))
 have HQ := tZ hq
 clear hq HK
 refine tZ ?_
 go_wp2
 go_end0
 exact ⟨rfl, HQ.out⟩
end
section
theorem value68 (x : By) {S : Nat → Prop} (e c : Nat) (a : Option Addr) (fs : List (Nat × Fd)) (w : World) (hs : Sh w S a fs) (hc : w.cell? ⟨e, 0, none⟩ = some (.slice a fs.length c)) (he : e < w.heap.size) (hl : fs.length ≤ 1000) :
  Calls Tryz.prog 40 #[.pointer (some ⟨e, 0, none⟩), .string ⟨x.toArray⟩] w fun r w' => r = .returned (.tuple #[.agg #[.int .i64 (match findF fs x with | some f => f.2.v.1 | none => 0), .int .i64 (match findF fs x with | some f => f.2.v.2 | none => 0)], .int .i64 (match findF fs x with | some _ => 0 | none => 5)]) ∧ Below w.heap.size w w' := by
 have H := tZ (fun W (hb : Below w.heap.size w W) => find101 x e c a fs W (hs.next hb) ((hb.cell (p := ⟨e, 0, none⟩) he).trans hc) hl)
 have HS := tZ hs
 clear hs
 cases hf : findF fs x with
 | some f =>
  have hfb : findB fs x = some ⟨f.1, 0, none⟩ := by simp [findB, hf]
  rw [hfb] at H
  obtain ⟨_, _, _, _, a1, l1, c1, hb, _⟩ := HS.out.fld f (findF_mem hf).1
  have HR := tZ hb
  clear hb
  go_enter Tryz.func40, Tryz.ntmps40
  go_wp2_with (first | (go_at_call 58; refine (H.out _ (bZ _)).mono ?_; rintro r w1 ⟨rfl, rfl⟩; refine Hid.out ?_))
  obtain ⟨⟨k0, k1, k2, k3, k4, k5, k6⟩, hfz, hsz⟩ := row7 ((Below.heap_alloc w (.cells #[.int .i64 0, .int .i64 0] 96) _ (HS.out.fld f (findF_mem hf).1).lt).trans HR.out)
  have hne : f.1 ≠ w.heap.size := by have := (HS.out.fld f (findF_mem hf).1).lt; omega
  have hne' : w.heap.size ≠ f.1 := fun h => hne h.symm
  generalize f.1 = q at *
  clear hfz H hf hfb
  refine tZ ?_
  go_wp2
  refine bodyPost_ret (v := .tuple #[.agg #[.int .i64 f.2.v.1, .int .i64 f.2.v.2], .int .i64 0]) (by simp [results, Tryz.results40, go_sem]) rfl ?_
  exact ⟨rfl, (Below.refl _ _).alloc (Nat.le_refl _) _⟩
 | none =>
  have hfb : findB fs x = none := by simp [findB, hf]
  rw [hfb] at H
  go_enter Tryz.func40, Tryz.ntmps40
  go_wp2_with (first | (go_at_call 58; refine (H.out _ (bZ _)).mono ?_; rintro r w1 ⟨rfl, rfl⟩))
  refine bodyPost_ret (v := .tuple #[.agg #[.int .i64 0, .int .i64 0], .int .i64 5]) (by simp [results, Tryz.results40, go_sem]) rfl ?_
  exact ⟨rfl, (Below.refl _ _).alloc (Nat.le_refl _) _⟩
def RlPost (fs : List (Nat × Fd)) (x : By) (w : World) (r : Ending) (w' : World) : Prop :=
 Below w.heap.size w w' ∧ match findF fs x with | some f => r = .returned (.tuple #[.string ⟨(txt f.2.p).toArray⟩, .int .i64 0]) | none => r = .returned (.tuple #[.string ⟨#[]⟩, .int .i64 5])
theorem rule69 (x : By) {S : Nat → Prop} (e c : Nat) (a : Option Addr) (fs : List (Nat × Fd)) (w : World) (hs : Sh w S a fs) (hE : Env w) (hc : w.cell? ⟨e, 0, none⟩ = some (.slice a fs.length c)) (he : e < w.heap.size) (hl : fs.length ≤ 1000) :
  Calls Tryz.prog 41 #[.pointer (some ⟨e, 0, none⟩), .string ⟨x.toArray⟩] w (RlPost fs x w) := by
 have H := tZ (find101 x e c a fs w hs hc hl)
 unfold RlPost
 cases hf : findF fs x with
 | some f =>
  have hfb : findB fs x = some ⟨f.1, 0, none⟩ := by simp [findB, hf]
  rw [hfb] at H
  obtain ⟨_, hsh, hgd, htx, a1, l1, c1, hb, hP⟩ := hs.fld f (findF_mem hf).1
  have HPL := tZ (rulePlain9 f.2.p a1 l1 c1 w hP hs.still hE hgd (by omega))
  obtain ⟨⟨k0, k1, k2, k3, k4, k5, k6⟩, hfz, hsz⟩ := row7 hb
  clear hb hs hE hP hsh hgd htx
  go_enter Tryz.func41, Tryz.ntmps41
  go_wp2_with (first | (go_at_call 58; refine H.out.mono ?_; rintro r w1 ⟨rfl, rfl⟩) | (go_at_call 59; refine HPL.out.mono ?_; rintro r w2 ⟨rfl, hb2⟩))
  go_ret2
  exact ⟨hb2, rfl⟩
 | none =>
  have hfb : findB fs x = none := by simp [findB, hf]
  rw [hfb] at H
  go_enter Tryz.func41, Tryz.ntmps41
  go_wp2_with (first | (go_at_call 58; refine H.out.mono ?_; rintro r w1 ⟨rfl, rfl⟩))
  go_ret2
  exact ⟨Below.refl _ _, rfl⟩
theorem order71 {S : Nat → Prop} (e c : Nat) (a : Option Addr) (fs : List (Nat × Fd)) (w : World) (hs : Sh w S a fs) (hc : w.cell? ⟨e, 0, none⟩ = some (.slice a fs.length c)) (hl : fs.length ≤ 1000) :
  Calls Tryz.prog 43 #[.pointer (some ⟨e, 0, none⟩)] w fun r w' => ∃ v, r = .returned v ∧ w'.ownsRow w.heap.size 9 1 v fs.length (strs (nmsF fs)) ∧ Below w.heap.size w w' := by
 have H := tZ (names107 a c fs w hs hl)
 clear hs
 go_enter Tryz.func43, Tryz.ntmps43
 go_wp2_with (first | (go_at_call 66; refine H.out.mono ?_; rintro r w1 ⟨v, rfl, ho, hb1⟩))
 go_ret
 exact ⟨v, rfl, ho, hb1⟩
end
end Go.Proofs.YtihgojcfpnhelabGreatDoor
