import Derived.Test.YtihgojcfpnhelaaGreatDoorR2Si
set_option maxRecDepth 100000
set_option maxHeartbeats 4000000
set_option linter.unusedVariables false
set_option linter.unusedSimpArgs false
namespace Go.Proofs.YtihgojcfpnhelaaGreatDoor
open Go.RowKit
section
theorem hangP_sub (on : List By) (fs : List (Nat × Fd)) : ∀ x, x ∈ hangP on fs → x ∈ fs := by
 induction fs generalizing on with
 | nil => intro x hx; simp [hangP] at hx
 | cons f r ih =>
  intro x hx
  unfold hangP at hx
  split at hx
  ·rcases List.mem_cons.1 hx with rfl | h
   ·exact List.mem_cons_self
   ·exact List.mem_cons_of_mem _ (ih _ x h)
  ·exact List.mem_cons_of_mem _ (ih _ x hx)
theorem hangP_len (on : List By) (fs : List (Nat × Fd)) : (hangP on fs).length ≤ fs.length := by
 induction fs generalizing on with
 | nil => simp [hangP]
 | cons f r ih =>
  unfold hangP
  split
  ·have := ih (on ++ [f.2.nm]); simp; omega
  ·have := ih on; simp; omega
theorem Sh.ofOwn {w : World} {S : Nat → Prop} {a ak : Option Addr} {fs k : List (Nat × Fd)} {B ck : Nat} (h : Sh w S a fs) (hsub : ∀ x, x ∈ k → x ∈ fs) (ho : w.ownsRow B 220 1 (.slice ak k.length ck) k.length (ptrs k)) (hB : ∀ f, f ∈ fs → f.1 < B) : Sh w (fun q => S q ∨ ∃ o, ak = some ⟨q, o, none⟩) ak k := by
 have hblk : ∀ q o, ak = some ⟨q, o, none⟩ → B ≤ q ∧ q < w.heap.size ∧ o = 0 := fun q o hq => by
  subst hq
  rcases ho.2 with ⟨h1, _⟩ | ⟨g, cap, cur, h1, h2, h3, _⟩
  ·simp at h1
  ·simp at h1
   obtain ⟨⟨rfl, rfl⟩, _⟩ := h1
   exact ⟨h2, (Array.getElem?_eq_some_iff.1 h3).1, rfl⟩
 refine ⟨fun q hq => ?_, fun j hj => ?_, fun x hx => ?_⟩
 ·rcases hq with hq | ⟨o, hq⟩
  ·exact h.still q hq
  ·exact (hblk q o hq).2.1
 ·obtain ⟨g, cap, hv, _, _⟩ := ho.form (by omega)
  simp at hv
  obtain ⟨rfl, rfl⟩ := hv
  refine ⟨g, 0, rfl, Or.inr ⟨0, rfl⟩, ?_⟩
  rw [Nat.zero_add, ho.cellAt j (by omega)]
  simp [ptrs, hj]
 ·obtain ⟨h1, h2, h3, h4, a1, l1, c1, hh, hp⟩ := h.fld x (hsub x hx)
  refine ⟨?_, h2, h3, h4, a1, l1, c1, hh, hp.wide fun q hq => Or.inl hq⟩
  rintro (hq | ⟨o, hq⟩)
  ·exact h1 hq
  ·have := (hblk _ o hq).1
   have := hB x (hsub x hx)
   omega
theorem Sh.ks {P : Nat → Prop} {w w' : World} {S : Nat → Prop} {a : Option Addr} {fs : List (Nat × Fd)} (h : Sh w S a fs) (hk : Ks P w w') (hS : ∀ q, S q → ¬ P q) (hf : ∀ f, f ∈ fs → ¬ P f.1) : Sh w' S a fs := by
 refine ⟨fun q hq => Nat.lt_of_lt_of_le (h.still q hq) hk.size, fun j hj => ?_, fun x hx => (h.fld x hx).stays (hk.block _ (h.fld x hx).lt (hf x hx)) fun q hq => hk.block q (h.still q hq) (hS q hq)⟩
 obtain ⟨g, o, h1, h2, h3⟩ := h.ptr j hj
 exact ⟨g, o, h1, h2, (World.cell?_of_block (a := ⟨g, o + j, none⟩) (hk.block g (h.still g h2) (hS g h2))).trans h3⟩
end
section
attribute [local go_sem] addr_add
def lkQ (g : Nat × Fd) (ch : List (Nat × Fd)) : Bool := match ch with | [] => false | h :: _ => mentP h.2.nm g.2.p
def linkQ (g f : Nat × Fd) (ls : List (List (Nat × Fd))) : Option (List (Nat × Fd)) := if g.1 = f.1 then some [f] else (ls.find? (lkQ g)).map fun ch => g :: ch
theorem linkedP_eq (g f : Nat × Fd) (ls : List (Nat × List (Nat × Fd))) : linkedP g f ls = linkQ g f (ls.map Prod.snd) := by
 unfold linkedP linkQ
 split
 ·rfl
 ·rw [List.find?_map]
  have : (lkQ g ∘ Prod.snd) = lkM g := by
   funext l
   rfl
  rw [this]
  cases ls.find? (lkM g) <;> rfl
theorem linkQ_len {g f : Nat × Fd} {ls : List (Nat × List (Nat × Fd))} {ch : List (Nat × Fd)} {k : Nat} (h : linkQ g f (ls.map Prod.snd) = some ch) (hl : ∀ l, l ∈ ls → l.2.length ≤ k) : ch.length ≤ k + 1 := by
 unfold linkQ at h
 split at h
 ·cases h
  simp
 ·obtain ⟨c', hc1, hc2⟩ := Option.map_eq_some_iff.1 h
  obtain ⟨l, hl1, hl2⟩ := List.mem_map.1 (List.mem_of_find?_eq_some hc1)
  have := hl l hl1
  rw [hl2] at this
  rw [← hc2]
  simp
  exact this
inductive BhR where
 | ok (st mv : List (Nat × Fd))
 | circ (ch : List (Nat × Fd))
def behP (f : Nat × Fd) : List (Nat × Fd) → List (Nat × Fd) → List (Nat × Fd) → List (List (Nat × Fd)) → BhR
 | [], st, mv, _ => .ok st mv
 | g :: r, st, mv, ls => match linkQ g f ls with
  | none => behP f r (st ++ [g]) mv ls
  | some ch => if mentP g.2.nm f.2.p then .circ ch else behP f r st (mv ++ [g]) (ls ++ [ch])
def lptrs (ls : List (Nat × List (Nat × Fd))) : List Value := ls.map fun l => .pointer (some ⟨l.1, 0, none⟩)
def Off3 (s6 s7 s8 : Value) (q : Nat) : Prop := s6.ownBlock ≠ some q ∧ s7.ownBlock ≠ some q ∧ s8.ownBlock ≠ some q
theorem own_blk {w w' : World} {base z n : Nat} {e : TypeId} {v : Value} {xs : List Value} (h : w.ownsRow base e z v n xs) (hk : ∀ q, v.ownBlock = some q → w'.heap[q]? = w.heap[q]?) : w'.ownsRow base e z v n xs := by
 obtain ⟨h1, h2⟩ := h
 refine ⟨h1, h2.imp id ?_⟩
 rintro ⟨g, cap, cur, rfl, h4, h5, h6⟩
 exact ⟨g, cap, cur, rfl, h4, (hk g rfl).trans h5, h6⟩
structure BhI (S : Nat → Prop) (w wr : World) (f : Nat × Fd) (gs : List (Nat × Fd)) (s6 s7 s8 : Value) (k : Nat) (st mv : List (Nat × Fd)) (ls : List (Nat × List (Nat × Fd))) : Prop where
 eq : behP f gs [] [] [] = behP f (gs.drop k) st mv (ls.map Prod.snd)
 o6 : wr.ownsRow w.heap.size 220 1 s6 st.length (ptrs st)
 o7 : wr.ownsRow w.heap.size 220 1 s7 mv.length (ptrs mv)
 o8 : wr.ownsRow w.heap.size 323 1 s8 ls.length (lptrs ls)
 d67 : ∀ q, s6.ownBlock = some q → s7.ownBlock ≠ some q
 d68 : ∀ q, s6.ownBlock = some q → s8.ownBlock ≠ some q
 d78 : ∀ q, s7.ownBlock = some q → s8.ownBlock ≠ some q
 lk : ∀ l, l ∈ ls → LinkAt wr (Off3 s6 s7 s8) l.1 l.2 ∧ ∀ x, x ∈ l.2 → FdAt w S x.1 x.2
 cnt : st.length + mv.length = k ∧ ls.length = mv.length
 len : ∀ l, l ∈ ls → l.2.length ≤ k
 sub : ∀ x, x ∈ st ++ mv → x ∈ gs
 bel : Below w.heap.size w wr
def BhPost (fs : List (Nat × Fd)) (at_ last : Nat) (r : BhR) (w : World) (e : Ending) (w' : World) : Prop :=
 Below w.heap.size w w' ∧ match r with
 | .ok st mv => ∃ v, e = .returned (.tuple #[v, .slice none 0 0]) ∧ w'.ownsRow w.heap.size 220 1 v (catP [fs.take at_, st, mv, fs.drop (last + 1)]).length (ptrs (catP [fs.take at_, st, mv, fs.drop (last + 1)]))
 | .circ ch => ∃ v, e = .returned (.tuple #[.slice none 0 0, v]) ∧ w'.ownsRow w.heap.size 220 1 v ch.length (ptrs ch)
theorem BhI.stay {S : Nat → Prop} {w wr w1 w2 : World} {f g : Nat × Fd} {gs : List (Nat × Fd)} {s6 s7 s8 v' : Value} {k : Nat} {st mv : List (Nat × Fd)} {ls : List (Nat × List (Nat × Fd))} (h : BhI S w wr f gs s6 s7 s8 k st mv ls) (hk : k < gs.length) (hg : gs[k] = g) (hq : linkQ g f (ls.map Prod.snd) = none)
  (hb1 : Below wr.heap.size wr w1) (hgrow : w1.grownBy w2 s6.ownBlock) (hown : w2.ownsRow w.heap.size 220 1 v' (st.length + 1) (ptrs st ++ [.pointer (some ⟨g.1, 0, none⟩)])) (hat : v'.ownBlock = s6.ownBlock ∨ ∃ q, v'.ownBlock = some q ∧ wr.heap.size ≤ q) : BhI S w w2 f gs v' s7 s8 (k + 1) (st ++ [g]) mv ls := by
 have hsz := h.bel.size
 have hs1 := hb1.size
 have l6 : ∀ q, s6.ownBlock = some q → w.heap.size ≤ q ∧ q < wr.heap.size := h.o6.lt
 have l7 : ∀ q, s7.ownBlock = some q → w.heap.size ≤ q ∧ q < wr.heap.size := h.o7.lt
 have l8 : ∀ q, s8.ownBlock = some q → w.heap.size ≤ q ∧ q < wr.heap.size := h.o8.lt
 have blk : ∀ q, q < wr.heap.size → s6.ownBlock ≠ some q → w2.heap[q]? = wr.heap[q]? := fun q hq hn => (hgrow.block q (by omega) (fun e => hn e.symm)).trans (hb1.block q hq)
 have hv : ∀ q, v'.ownBlock = some q → s6.ownBlock = some q ∨ wr.heap.size ≤ q := fun q hq => by
  rcases hat with h1 | ⟨q', h1, h2⟩
  ·exact Or.inl (h1 ▸ hq)
  ·rw [h1] at hq; cases hq; exact Or.inr h2
 have hd : gs.drop k = g :: gs.drop (k + 1) := by rw [List.drop_eq_getElem_cons hk, hg]
 refine ⟨?_, ?_, ?_, ?_, ?_, ?_, h.d78, ?_, ?_, fun l hl => Nat.le_succ_of_le (h.len l hl), ?_, ?_⟩
 ·rw [h.eq, hd]
  simp only [behP, hq]
 ·rw [List.length_append, show ptrs (st ++ [g]) = ptrs st ++ [.pointer (some ⟨g.1, 0, none⟩)] by simp [ptrs]]
  exact hown
 ·exact own_blk h.o7 fun q hq => blk q (l7 q hq).2 (fun e => h.d67 q e hq)
 ·exact own_blk h.o8 fun q hq => blk q (l8 q hq).2 (fun e => h.d68 q e hq)
 ·intro q hq e
  rcases hv q hq with h1 | h1
  ·exact h.d67 q h1 e
  ·have := (l7 q e).2; omega
 ·intro q hq e
  rcases hv q hq with h1 | h1
  ·exact h.d68 q h1 e
  ·have := (l8 q e).2; omega
 ·intro l hl
  obtain ⟨h1, h2⟩ := h.lk l hl
  refine ⟨h1.keep fun q hq hlt => ⟨blk q hlt hq.1, ?_, hq.2.1, hq.2.2⟩, h2⟩
  intro e
  rcases hv q e with h3 | h3
  ·exact hq.1 h3
  ·omega
 ·have := h.cnt
  simp
  omega
 ·intro x hx
  simp at hx
  rcases hx with hx | rfl | hx
  ·exact h.sub x (by simp [hx])
  ·rw [← hg]; exact List.getElem_mem hk
  ·exact h.sub x (by simp [hx])
 ·exact ⟨hgrow.os.trans (hb1.os.trans h.bel.os), hgrow.tape.trans (hb1.tape.trans h.bel.tape), hgrow.output.trans (hb1.output.trans h.bel.output), by have := hgrow.size; omega, fun q hq => (blk q (by omega) (fun e => by have := (l6 q e).1; omega)).trans (h.bel.block q hq)⟩
theorem BhI.move {S : Nat → Prop} {w wr w1 w2 w3 w4 : World} {f g : Nat × Fd} {gs : List (Nat × Fd)} {s6 s7 s8 v7 v8 : Value} {k b : Nat} {st mv ch : List (Nat × Fd)} {ls : List (Nat × List (Nat × Fd))} (h : BhI S w wr f gs s6 s7 s8 k st mv ls) (hk : k < gs.length) (hg : gs[k] = g) (hq : linkQ g f (ls.map Prod.snd) = some ch) (hm : mentP g.2.nm f.2.p = false)
  (hgs : ∀ x, x ∈ gs → FdAt w S x.1 x.2) (hf : FdAt w S f.1 f.2)
  (hb1 : Below wr.heap.size wr w1) (hlk : LinkAt w1 (fun q => Off3 s6 s7 s8 q ∨ wr.heap.size ≤ q) b ch)
  (hgr1 : w1.grownBy w2 s7.ownBlock) (hown7 : w2.ownsRow w.heap.size 220 1 v7 (mv.length + 1) (ptrs mv ++ [.pointer (some ⟨g.1, 0, none⟩)])) (hat7 : v7.ownBlock = s7.ownBlock ∨ ∃ q, v7.ownBlock = some q ∧ w1.heap.size ≤ q)
  (hb3 : Below w2.heap.size w2 w3) (hgr2 : w3.grownBy w4 s8.ownBlock) (hown8 : w4.ownsRow w.heap.size 323 1 v8 (ls.length + 1) (lptrs ls ++ [.pointer (some ⟨b, 0, none⟩)])) (hat8 : v8.ownBlock = s8.ownBlock ∨ ∃ q, v8.ownBlock = some q ∧ w2.heap.size ≤ q) :
  BhI S w w4 f gs s6 v7 v8 (k + 1) st (mv ++ [g]) (ls ++ [(b, ch)]) := by
 have hsz := h.bel.size
 have hs1 := hb1.size
 have hs2 := hgr1.size
 have hs3 := hb3.size
 have l6 : ∀ q, s6.ownBlock = some q → w.heap.size ≤ q ∧ q < wr.heap.size := h.o6.lt
 have l7 : ∀ q, s7.ownBlock = some q → w.heap.size ≤ q ∧ q < wr.heap.size := h.o7.lt
 have l8 : ∀ q, s8.ownBlock = some q → w.heap.size ≤ q ∧ q < wr.heap.size := h.o8.lt
 have m7 : ∀ q, v7.ownBlock = some q → w.heap.size ≤ q ∧ q < w2.heap.size := hown7.lt
 have blk1 : ∀ q, q < w1.heap.size → s7.ownBlock ≠ some q → s8.ownBlock ≠ some q → w4.heap[q]? = w1.heap[q]? := fun q hq h7 h8 => (hgr2.block q (by omega) (fun e => h8 e.symm)).trans ((hb3.block q (by omega)).trans (hgr1.block q hq (fun e => h7 e.symm)))
 have blk : ∀ q, q < wr.heap.size → s7.ownBlock ≠ some q → s8.ownBlock ≠ some q → w4.heap[q]? = wr.heap[q]? := fun q hq h7 h8 => (blk1 q (by omega) h7 h8).trans (hb1.block q hq)
 have v7s : ∀ q, v7.ownBlock = some q → s7.ownBlock = some q ∨ w1.heap.size ≤ q := fun q hq => by
  rcases hat7 with h1 | ⟨q', h1, h2⟩
  ·exact Or.inl (h1 ▸ hq)
  ·rw [h1] at hq; cases hq; exact Or.inr h2
 have v8s : ∀ q, v8.ownBlock = some q → s8.ownBlock = some q ∨ w2.heap.size ≤ q := fun q hq => by
  rcases hat8 with h1 | ⟨q', h1, h2⟩
  ·exact Or.inl (h1 ▸ hq)
  ·rw [h1] at hq; cases hq; exact Or.inr h2
 have hd : gs.drop k = g :: gs.drop (k + 1) := by rw [List.drop_eq_getElem_cons hk, hg]
 have off : ∀ q, q < w1.heap.size → Off3 s6 s7 s8 q → Off3 s6 v7 v8 q := fun q hq ho => by
  refine ⟨ho.1, fun e => ?_, fun e => ?_⟩
  ·rcases v7s q e with h3 | h3
   ·exact ho.2.1 h3
   ·omega
  ·rcases v8s q e with h3 | h3
   ·exact ho.2.2 h3
   ·omega
 refine ⟨?_, ?_, ?_, ?_, ?_, ?_, ?_, ?_, ?_, ?_, ?_, ?_⟩
 ·rw [h.eq, hd]
  simp only [behP, hq, hm]
  simp
 ·exact own_blk h.o6 fun q hq => blk q (l6 q hq).2 (fun e => h.d67 q hq e) (fun e => h.d68 q hq e)
 ·rw [List.length_append, show ptrs (mv ++ [g]) = ptrs mv ++ [.pointer (some ⟨g.1, 0, none⟩)] by simp [ptrs]]
  refine own_blk hown7 fun q hq => (hgr2.block q (by have := (m7 q hq).2; omega) (fun e => ?_)).trans (hb3.block q (m7 q hq).2)
  rcases v7s q hq with h3 | h3
  ·exact h.d78 q h3 e.symm
  ·have := (l8 q e.symm).2; omega
 ·rw [List.length_append, show lptrs (ls ++ [(b, ch)]) = lptrs ls ++ [.pointer (some ⟨b, 0, none⟩)] by simp [lptrs]]
  exact hown8
 ·intro q hq e
  rcases v7s q e with h3 | h3
  ·exact h.d67 q hq h3
  ·have := (l6 q hq).2; omega
 ·intro q hq e
  rcases v8s q e with h3 | h3
  ·exact h.d68 q hq h3
  ·have := (l6 q hq).2; omega
 ·intro q hq e
  rcases v8s q e with h3 | h3
  ·rcases v7s q hq with h4 | h4
   ·exact h.d78 q h4 h3
   ·have := (l8 q h3).2; omega
  ·have := (m7 q hq).2; omega
 ·intro l hl
  simp at hl
  rcases hl with hl | rfl
  ·obtain ⟨h1, h2⟩ := h.lk l hl
   exact ⟨h1.keep fun q hq' hlt => ⟨blk q hlt hq'.2.1 hq'.2.2, off q (by omega) hq'⟩, h2⟩
  ·refine ⟨hlk.keep fun q hq' hlt => ?_, ?_⟩
   ·have ho : Off3 s6 s7 s8 q := by
     rcases hq' with h1 | h1
     ·exact h1
     ·exact ⟨fun e => by have := (l6 q e).2; omega, fun e => by have := (l7 q e).2; omega, fun e => by have := (l8 q e).2; omega⟩
    exact ⟨blk1 q hlt ho.2.1 ho.2.2, off q hlt ho⟩
   ·intro x hx
    unfold linkQ at hq
    split at hq
    ·cases hq
     simp at hx
     rw [hx]; exact hf
    ·obtain ⟨c', hc1, hc2⟩ := Option.map_eq_some_iff.1 hq
     subst hc2
     simp at hx
     rcases hx with rfl | hx
     ·exact hgs _ (by rw [← hg]; exact List.getElem_mem hk)
     ·obtain ⟨l, hl1, hl2⟩ := List.mem_map.1 (List.mem_of_find?_eq_some hc1)
      exact (h.lk l hl1).2 x (by rw [hl2]; exact hx)
 ·have := h.cnt
  simp
  omega
 ·intro l hl
  simp at hl
  rcases hl with hl | rfl
  ·exact Nat.le_succ_of_le (h.len l hl)
  ·exact linkQ_len hq h.len
 ·intro x hx
  simp at hx
  rcases hx with hx | hx | rfl
  ·exact h.sub x (by simp [hx])
  ·exact h.sub x (by simp [hx])
  ·rw [← hg]; exact List.getElem_mem hk
 ·exact ⟨hgr2.os.trans (hb3.os.trans (hgr1.os.trans (hb1.os.trans h.bel.os))), hgr2.tape.trans (hb3.tape.trans (hgr1.tape.trans (hb1.tape.trans h.bel.tape))), hgr2.output.trans (hb3.output.trans (hgr1.output.trans (hb1.output.trans h.bel.output))), by have := hgr2.size; omega, fun q hq => (blk q (by omega) (fun e => by have := (l7 q e).1; omega) (fun e => by have := (l8 q e).1; omega)).trans (h.bel.block q hq)⟩
end
end Go.Proofs.YtihgojcfpnhelaaGreatDoor
