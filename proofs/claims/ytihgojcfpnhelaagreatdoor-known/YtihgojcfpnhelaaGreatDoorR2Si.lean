import Derived.Test.YtihgojcfpnhelaaGreatDoorR2Sn
set_option maxRecDepth 100000
set_option maxHeartbeats 4000000
set_option linter.unusedVariables false
set_option linter.unusedSimpArgs false
namespace Go.Proofs.YtihgojcfpnhelaaGreatDoor
open Go.RowKit
section
inductive LinkAt (w : World) (P : Nat → Prop) : Nat → List (Nat × Fd) → Prop
 | last (b : Nat) (f : Nat × Fd) : P b → w.heap[b]? = some (.cells #[.pointer (some ⟨f.1, 0, none⟩), .pointer none] 344 (0, 0)) → LinkAt w P b [f]
 | more (b b' : Nat) (f g : Nat × Fd) (r : List (Nat × Fd)) : P b → w.heap[b]? = some (.cells #[.pointer (some ⟨f.1, 0, none⟩), .pointer (some ⟨b', 0, none⟩)] 344 (0, 0)) → LinkAt w P b' (g :: r) → LinkAt w P b (f :: g :: r)
theorem LinkAt.keep {w w' : World} {P P' : Nat → Prop} {b : Nat} {ch : List (Nat × Fd)} (h : LinkAt w P b ch) (hb : ∀ q, P q → q < w.heap.size → w'.heap[q]? = w.heap[q]? ∧ P' q) : LinkAt w' P' b ch := by
 induction h with
 | last b f hp h =>
  obtain ⟨h1, h2⟩ := hb b hp (Array.getElem?_eq_some_iff.1 h).1
  exact .last b f h2 (h1.trans h)
 | more b b' f g r hp h _ ih =>
  obtain ⟨h1, h2⟩ := hb b hp (Array.getElem?_eq_some_iff.1 h).1
  exact .more b b' f g r h2 (h1.trans h) ih
theorem LinkAt.next {w w' : World} {P : Nat → Prop} {b : Nat} {ch : List (Nat × Fd)} (h : LinkAt w P b ch) (hb : Below w.heap.size w w') : LinkAt w' P b ch := h.keep fun q hp hq => ⟨hb.block q hq, hp⟩
theorem LinkAt.head {w : World} {P : Nat → Prop} {b : Nat} {ch : List (Nat × Fd)} (h : LinkAt w P b ch) : ∃ f r nx, ch = f :: r ∧ w.heap[b]? = some (.cells #[.pointer (some ⟨f.1, 0, none⟩), .pointer nx] 344 (0, 0)) ∧ ((r = [] ∧ nx = none) ∨ ∃ b', nx = some ⟨b', 0, none⟩ ∧ LinkAt w P b' r) := by
 cases h with
 | last b f _ h => exact ⟨f, [], none, rfl, h, Or.inl ⟨rfl, rfl⟩⟩
 | more b b' f g r _ h h' => exact ⟨f, g :: r, some ⟨b', 0, none⟩, rfl, h, Or.inr ⟨b', rfl, h'⟩⟩
theorem fields226 {P : Nat → Prop} (b : Nat) (ch : List (Nat × Fd)) (w : World) (h : LinkAt w P b ch) (hl : ch.length ≤ 500) :
  Calls Tryz.prog 235 #[.pointer (some ⟨b, 0, none⟩)] w fun r w' => ∃ v, r = .returned v ∧ w'.ownsRow w.heap.size 220 1 v ch.length (ptrs ch) ∧ Below w.heap.size w w' := by
 obtain ⟨i1, gi, gz0, gz1, gz2⟩ := info_parts infoPtr
 have HL := tZ h
 clear h
 go_enter Tryz.func235, Tryz.ntmps235
 go_wp2_with fail
 go_loopg [0, 3] (ch.length + 1) (fun gk s0 s3 wr => ∃ (dn rs : List (Nat × Fd)), ch = dn ++ rs ∧ rs.length < gk ∧ ((rs = [] ∧ s0 = .pointer none) ∨ ∃ b', s0 = .pointer (some ⟨b', 0, none⟩) ∧ Hid (LinkAt w P b' rs)) ∧ Hid (wr.ownsRow w.heap.size 220 1 s3 dn.length (ptrs dn)) ∧ Hid (Below w.heap.size w wr))
 case atStart => exact ⟨[], ch, rfl, by omega, Or.inr ⟨b, rfl, HL⟩, World.ownsRow_nil _ _ _ _, Below.refl _ _⟩
 case round =>
  obtain ⟨dn, rs, hch, hrl, hs0, HO, HB⟩ := hrel
  have hsz := HB.out.size
  rcases hs0 with ⟨rfl, rfl⟩ | ⟨b', rfl, HLr⟩
  ·go_wp2
   go_ret
   rw [List.append_nil] at hch
   rw [hch]
   exact ⟨_, rfl, HO.out, HB.out⟩
  ·obtain ⟨f, r, nx, rfl, hrow, hnx⟩ := HLr.out.head
   have hbl := (Array.getElem?_eq_some_iff.1 hrow).1
   obtain ⟨⟨k0, k1⟩, _, _⟩ := row2 ((HB.out.block b' hbl).trans hrow)
   have HNX := tZ hnx
   have HROW := tZ hrow
   have hll : dn.length + 1 + r.length ≤ 500 := by rw [hch] at hl; simp at hl; omega
   clear hrow hnx
   go_wp2_with (first | (at_builtin; refine wpList_append_own _ rfl (.tmp 10) (.tmp 15) 101 rfl w.heap.size 220 i1 (.pointer none) 1 8 Tryz.underlying101 gi gz0 gz1 gz2 rfl (by decide) u3 dn.length (ptrs dn) rfl (HO.out.alloc _) ⟨wr.heap.size, 0, none⟩ 1 1 [.pointer (some ⟨f.1, 0, none⟩)] rfl rfl (fun q u hq => cells_new wr [.pointer (some ⟨f.1, 0, none⟩)] 220 q u hq) (fun u hu => by simp at hu; subst hu; rfl) (by unfold maxLen; omega) (by omega) (by simp; omega) ?_; intro v' w2 hown' hgrow _; refine Hid.out ?_))
   have HB2 := tZ ((HB.out.alloc hsz (.cells #[.pointer (some ⟨f.1, 0, none⟩)] 220)).grown hgrow (by simp; omega) (fun q hq => (HO.out.lt q hq).1))
   have HO2 := tZ (show w2.ownsRow w.heap.size 220 1 v' (dn ++ [f]).length (ptrs (dn ++ [f])) by rw [List.length_append]; simpa [ptrs] using hown')
   obtain ⟨⟨m0, m1⟩, _, _⟩ := row2 ((HB2.out.block b' hbl).trans HROW.out)
   clear hgrow hown'
   refine tZ ?_
   go_wp2
   go_roundg (r.length + 1)
   case measure => simp at hrl; omega
   case rel =>
    refine ⟨dn ++ [f], r, by rw [hch]; simp, by omega, ?_, HO2, HB2⟩
    rcases HNX.out with ⟨rfl, rfl⟩ | ⟨b2, rfl, h2⟩
    ·exact Or.inl ⟨rfl, rfl⟩
    ·exact Or.inr ⟨b2, rfl, h2⟩
def lkM (g : Nat × Fd) (l : Nat × List (Nat × Fd)) : Bool := match l.2 with | [] => false | h :: _ => mentP h.2.nm g.2.p
theorem lkM_cons {g h : Nat × Fd} {l : Nat × List (Nat × Fd)} {r : List (Nat × Fd)} (e : l.2 = h :: r) : lkM g l = mentP h.2.nm g.2.p := by simp [lkM, e]
def linkedP (g f : Nat × Fd) (ls : List (Nat × List (Nat × Fd))) : Option (List (Nat × Fd)) :=
 if g.1 = f.1 then some [f] else (ls.find? (lkM g)).map fun l => g :: l.2
theorem find_at {α : Type} (p : α → Bool) (l : List α) (k : Nat) (h : k < l.length) (h1 : ∀ j (hj : j < l.length), j < k → p l[j] = false) (h2 : p l[k] = true) : l.find? p = some l[k] := by
 induction l generalizing k with
 | nil => simp at h
 | cons x l ih =>
  cases k with
  | zero => simp at h2; simp [h2]
  | succ k =>
   have h0 : p x = false := h1 0 (by simp) (by omega)
   rw [List.find?_cons_of_neg (by simp [h0])]
   exact ih k (by simpa using h) (fun j hj hjk => h1 (j + 1) (by simpa using hj) (by omega)) h2
theorem find_no {α : Type} (p : α → Bool) (l : List α) (h1 : ∀ j (hj : j < l.length), p l[j] = false) : l.find? p = none := by
 rw [List.find?_eq_none]
 intro x hx
 obtain ⟨j, hj, rfl⟩ := List.getElem_of_mem hx
 simp [h1 j hj]
def LkPost (P : Nat → Prop) (g f : Nat × Fd) (ls : List (Nat × List (Nat × Fd))) (w : World) (r : Ending) (w' : World) : Prop :=
 Below w.heap.size w w' ∧ match linkedP g f ls with | none => r = .returned (.pointer none) | some ch => ∃ b, r = .returned (.pointer (some ⟨b, 0, none⟩)) ∧ w.heap.size ≤ b ∧ LinkAt w' (fun q => P q ∨ w.heap.size ≤ q) b ch
theorem linked225 {S P : Nat → Prop} (g f : Nat × Fd) (ls : List (Nat × List (Nat × Fd))) (al : Option Addr) (cl : Nat) (w : World) (hS : ∀ q, S q → q < w.heap.size) (hg : FdAt w S g.1 g.2) (hf : FdAt w S f.1 f.2) (hl : ls.length ≤ 500)
  (hls : ∀ j (h : j < ls.length), LinkAt w P (ls[j]).1 (ls[j]).2 ∧ (∀ x, x ∈ (ls[j]).2 → FdAt w S x.1 x.2) ∧ ∃ gb, al = some ⟨gb, 0, none⟩ ∧ gb < w.heap.size ∧ w.cell? ⟨gb, j, none⟩ = some (.pointer (some ⟨(ls[j]).1, 0, none⟩))) :
  Calls Tryz.prog 234 #[.pointer (some ⟨g.1, 0, none⟩), .pointer (some ⟨f.1, 0, none⟩), .slice al ls.length cl] w (LkPost P g f ls w) := by
 by_cases he : g.1 = f.1
 ·have hsame := ptr_same f.1 w
  have HE := tZ he
  have HFIN := tZ (show ∀ w1 b, Below w.heap.size w w1 → w.heap.size ≤ b → LinkAt w1 (fun q => P q ∨ w.heap.size ≤ q) b [f] → LkPost P g f ls w (.returned (.pointer (some ⟨b, 0, none⟩))) w1 from fun w1 b h1 h2 h3 => by
   unfold LkPost linkedP
   rw [if_pos HE.out]
   exact ⟨h1, b, rfl, h2, h3⟩)
  rw [he]
  clear hls
  go_enter Tryz.func234, Tryz.ntmps234
  go_wp2
  go_ret
  exact HFIN.out _ _ (bZ _) (Nat.le_refl _) (.last _ f (Or.inr (Nat.le_refl _)) (heap_alloc_new w _))
 ·have hother := ptr_other w hg hf he
  have HLS := tZ hls
  have HE := tZ he
  have HPOST := tZ (show ∀ w1 l b, Below w.heap.size w w1 → ls.find? (lkM g) = some l → w.heap.size ≤ b → LinkAt w1 (fun q => P q ∨ w.heap.size ≤ q) b (g :: l.2) → LkPost P g f ls w (.returned (.pointer (some ⟨b, 0, none⟩))) w1 from fun w1 l b h1 h2 h3 h4 => by
   unfold LkPost linkedP
   rw [if_neg HE.out, h2]
   exact ⟨h1, b, rfl, h3, h4⟩)
  have HNONE := tZ (show ∀ w1, Below w.heap.size w w1 → ls.find? (lkM g) = none → LkPost P g f ls w (.returned (.pointer none)) w1 from fun w1 h1 h2 => by
   unfold LkPost linkedP
   rw [if_neg HE.out, h2]
   exact ⟨h1, rfl⟩)
  obtain ⟨_, _, _, _, a1, l1, c1, hgb, hP⟩ := hg
  have hgl := (Array.getElem?_eq_some_iff.1 hgb).1
  have HG := tZ hgb
  have HM := tZ (fun x W (hW : Below w.heap.size w W) => ruleMentions x g.2.p a1 l1 c1 W (hP.next fun q hq => hW.block q (hS q hq)) (fun q hq => Nat.lt_of_lt_of_le (hS q hq) hW.size))
  clear hls hgb hP hf
  go_enter Tryz.func234, Tryz.ntmps234
  go_wp2_with fail
  go_loopg [8, 17] ls.length (fun gk _ s17 wr => ∃ j : Nat, j ≤ ls.length ∧ ls.length ≤ j + gk ∧ s17 = .int .i64 (j : Int) ∧ Hid (Below w.heap.size w wr) ∧ Hid (∀ i (hi : i < ls.length), i < j → lkM g ls[i] = false))
  case atStart => exact ⟨0, Nat.zero_le _, by omega, rfl, Below.refl _ _, fun i hi h => by omega⟩
  case round =>
   obtain ⟨j, hj, hgk, rfl, HB, HF⟩ := hrel
   by_cases hlt : j < ls.length
   ·have hltz : (j : Int) < (ls.length : Int) := by omega
    obtain ⟨hla, hfd, gb, rfl, hgbl, hp⟩ := HLS.out j hlt
    have hp' := (HB.out.cell (p := ⟨gb, j, none⟩) hgbl).trans hp
    obtain ⟨h, rr, nx, hch, hrow, _⟩ := hla.head
    have hlb := (Array.getElem?_eq_some_iff.1 hrow).1
    obtain ⟨⟨k0, _⟩, _, _⟩ := row2 ((HB.out.block _ hlb).trans hrow)
    have hhf := hfd h (by rw [hch]; exact List.mem_cons_self)
    have hhl := hhf.lt
    obtain ⟨_, _, _, _, a2, l2, c2, hb2, _⟩ := hhf
    obtain ⟨⟨n0, _⟩, _, _⟩ := row7 ((HB.out.block _ hhl).trans hb2)
    obtain ⟨⟨_, j1, j2, j3, j4, _⟩, _, _⟩ := row7 ((HB.out.block g.1 hgl).trans HG.out)
    have HC := tZ (HM.out h.2.nm wr.drew HB.out.drew)
    have hsz := HB.out.size
    have HLA := tZ (hla.next HB.out)
    have hmt : lkM g ls[j] = mentP h.2.nm g.2.p := lkM_cons hch
    clear hp hrow hb2
    cases hm : mentP h.2.nm g.2.p with
    | true =>
     have HFIN := tZ (find_at (lkM g) ls j hlt (fun i hi h => HF.out i hi h) (by rw [hmt, hm]))
     have HCH := tZ hch
     rw [hm] at HC
     clear hm hmt HF hch hla hfd
     generalize ls[j] = lj at *
     go_wp2_with fail
     go_region_with (first | (go_at_call 195; refine HC.out.mono ?_; rintro e w1 ⟨rfl, hb1⟩; have B1 := tZ hb1; clear hb1))
     all_goals go_wp2
     all_goals refine bodyPost_ret (v := .pointer (some ⟨w1.heap.size, 0, none⟩)) (by simp [results, Tryz.results234, go_sem]) (by simp [go_sem]) ?_
     all_goals refine HPOST.out _ _ _ ((HB.out.drew.trans (B1.out.mono hsz)).alloc (Nat.le_trans hsz B1.out.size) _) HFIN.out (Nat.le_trans hsz B1.out.size) ?_
     all_goals have hL2 := ((HLA.out.next ((Below.refl _ _).drew.trans B1.out)).next (bZ (.cells #[.pointer (some ⟨g.1, 0, none⟩), .pointer (some ⟨lj.1, 0, none⟩)] 344))).keep (P' := fun q => P q ∨ w.heap.size ≤ q) fun q hq _ => ⟨rfl, Or.inl hq⟩
     all_goals rw [HCH.out] at hL2 ⊢
     all_goals exact .more _ lj.1 g h rr (Or.inr (Nat.le_trans hsz B1.out.size)) (heap_alloc_new w1 _) hL2
    | false =>
     have HF2 := tZ (show ∀ i (hi : i < ls.length), i < j + 1 → lkM g ls[i] = false from fun i hi h => by
      by_cases e : i = j
      ·subst e; rw [hmt, hm]
      ·exact HF.out i hi (by omega))
     rw [hm] at HC
     clear hm hmt HF hch hla hfd
     generalize ls[j] = lj at *
     go_wp2_with fail
     go_region_with (first | (go_at_call 195; refine HC.out.mono ?_; rintro e w1 ⟨rfl, hb1⟩; have B1 := tZ hb1; clear hb1))
     all_goals go_wp2
     all_goals go_roundg (ls.length - (j + 1))
     all_goals try (case measure => omega)
     all_goals exact ⟨j + 1, by omega, by omega, by go_num, HB.out.drew.trans (B1.out.mono hsz), HF2⟩
   ·have hltz : ¬ (j : Int) < (ls.length : Int) := by omega
    go_wp2
    go_ret
    exact HNONE.out _ HB.out (find_no _ _ fun i hi => HF.out i hi (by omega))
end
section
structure Ks (P : Nat → Prop) (w w' : World) : Prop where
 os : w'.os = w.os
 tape : w'.tape = w.tape
 output : w'.output = w.output
 size : w.heap.size ≤ w'.heap.size
 block : ∀ k, k < w.heap.size → ¬ P k → w'.heap[k]? = w.heap[k]?
theorem Ks.of {P : Nat → Prop} {w w' : World} (h : Below w.heap.size w w') : Ks P w w' := ⟨h.os, h.tape, h.output, h.size, fun k hk _ => h.block k hk⟩
theorem Ks.trans {P : Nat → Prop} {w w' w'' : World} (h : Ks P w w') (g : Ks P w' w'') : Ks P w w'' :=
 ⟨g.os.trans h.os, g.tape.trans h.tape, g.output.trans h.output, Nat.le_trans h.size g.size, fun k hk hP => (g.block k (Nat.lt_of_lt_of_le hk h.size) hP).trans (h.block k hk hP)⟩
theorem Ks.refl (P : Nat → Prop) (w : World) : Ks P w w := ⟨rfl, rfl, rfl, Nat.le_refl _, fun _ _ _ => rfl⟩
theorem Ks.wide {P P' : Nat → Prop} {w w' : World} (h : Ks P w w') (hp : ∀ q, P q → P' q) : Ks P' w w' := ⟨h.os, h.tape, h.output, h.size, fun k hk hn => h.block k hk fun hh => hn (hp k hh)⟩
theorem Ks.set {P : Nat → Prop} {w w' : World} (h : Ks P w w') (q j : Nat) (v : Value) (hq : P q) : Ks P w (w'.setCell ⟨q, j, none⟩ v) :=
 h.trans ⟨rfl, rfl, rfl, by simp, fun k _ hP => Below.heap_setCell _ _ _ _ (fun e => hP (by rw [show k = q from e]; exact hq))⟩
theorem Ks.alloc {P : Nat → Prop} {w w' : World} (h : Ks P w w') (o : Obj) : Ks P w (w'.alloc o) := h.trans (Ks.of (bZ _))
def setV (fs : List (Nat × Fd)) (b : Nat) (v : Vl) : List (Nat × Fd) := fs.map fun f => if f.1 = b then (f.1, { f.2 with v := v }) else f
def ruleOf (fs : List (Nat × Fd)) (b : Nat) : Pt := match fs.find? (fun f => f.1 == b) with | some f => f.2.p | none => .atom 1 [] 0
def workP : List (Nat × Fd) → List Nat → List (Nat × Fd)
 | fs, [] => fs
 | fs, b :: r => workP (setV fs b (valP (rho fs) (ruleOf fs b))) r
theorem FdAt.stays {w w' : World} {S : Nat → Prop} {b : Nat} {f : Fd} (h : FdAt w S b f) (hb : w'.heap[b]? = w.heap[b]?) (hS : ∀ q, S q → w'.heap[q]? = w.heap[q]?) : FdAt w' S b f := by
 obtain ⟨h1, h2, h3, h4, a, l, c, hh, hp⟩ := h
 exact ⟨h1, h2, h3, h4, a, l, c, hb.trans hh, hp.next hS⟩
theorem infoBack : (Tryz.prog.info? 151).map (fun i => (i.zero, i.size, i.bytes)) = some (some .nilFunc, 1, 8) := by kernel_rfl
theorem map_setV (fs : List (Nat × Fd)) (b : Nat) (v : Vl) : (setV fs b v).map (fun f => f.1) = fs.map fun f => f.1 := by
 simp only [setV, List.map_map]
 congr 1
 funext f
 simp only [Function.comp]
 split <;> rfl
end
end Go.Proofs.YtihgojcfpnhelaaGreatDoor
