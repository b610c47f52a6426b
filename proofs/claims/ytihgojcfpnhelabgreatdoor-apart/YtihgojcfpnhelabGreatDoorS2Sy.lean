import Derived.Test.YtihgojcfpnhelabGreatDoorS2Sn
set_option maxRecDepth 100000
set_option maxHeartbeats 4000000
set_option linter.unusedVariables false
set_option linter.unusedSimpArgs false
namespace Go.Proofs.YtihgojcfpnhelabGreatDoor
open Go.RowKit
section
inductive LinkAt (w : World) (P : Nat → Prop) : Nat → List (Nat × Fd) → Prop
 | last (b : Nat) (f : Nat × Fd) : P b → w.heap[b]? = some (.cells #[.pointer (some ⟨f.1, 0, none⟩), .pointer none] 252 (0, 0)) → LinkAt w P b [f]
 | more (b b' : Nat) (f g : Nat × Fd) (r : List (Nat × Fd)) : P b → w.heap[b]? = some (.cells #[.pointer (some ⟨f.1, 0, none⟩), .pointer (some ⟨b', 0, none⟩)] 252 (0, 0)) → LinkAt w P b' (g :: r) → LinkAt w P b (f :: g :: r)
theorem LinkAt.keep {w w' : World} {P P' : Nat → Prop} {b : Nat} {ch : List (Nat × Fd)} (h : LinkAt w P b ch) (hb : ∀ q, P q → q < w.heap.size → w'.heap[q]? = w.heap[q]? ∧ P' q) : LinkAt w' P' b ch := by
 induction h with
 | last b f hp h =>
  obtain ⟨h1, h2⟩ := hb b hp (Array.getElem?_eq_some_iff.1 h).1
  exact .last b f h2 (h1.trans h)
 | more b b' f g r hp h _ ih =>
  obtain ⟨h1, h2⟩ := hb b hp (Array.getElem?_eq_some_iff.1 h).1
  exact .more b b' f g r h2 (h1.trans h) ih
theorem LinkAt.next {w w' : World} {P : Nat → Prop} {b : Nat} {ch : List (Nat × Fd)} (h : LinkAt w P b ch) (hb : Below w.heap.size w w') : LinkAt w' P b ch := h.keep fun q hp hq => ⟨hb.block q hq, hp⟩
theorem LinkAt.head {w : World} {P : Nat → Prop} {b : Nat} {ch : List (Nat × Fd)} (h : LinkAt w P b ch) : ∃ f r nx, ch = f :: r ∧ w.heap[b]? = some (.cells #[.pointer (some ⟨f.1, 0, none⟩), .pointer nx] 252 (0, 0)) ∧ ((r = [] ∧ nx = none) ∨ ∃ b', nx = some ⟨b', 0, none⟩ ∧ LinkAt w P b' r) := by
 cases h with
 | last b f _ h => exact ⟨f, [], none, rfl, h, Or.inl ⟨rfl, rfl⟩⟩
 | more b b' f g r _ h h' => exact ⟨f, g :: r, some ⟨b', 0, none⟩, rfl, h, Or.inr ⟨b', rfl, h'⟩⟩
theorem fields226 {P : Nat → Prop} (b : Nat) (ch : List (Nat × Fd)) (w : World) (h : LinkAt w P b ch) (hl : ch.length ≤ 500) :
  Calls Tryz.prog 153 #[.pointer (some ⟨b, 0, none⟩)] w fun r w' => ∃ v, r = .returned v ∧ w'.ownsRow w.heap.size 116 1 v ch.length (ptrs ch) ∧ Below w.heap.size w w' := by
 obtain ⟨i1, gi, gz0, gz1, gz2⟩ := info_parts infoPtr
 have HL := tZ h
 clear h
 go_enter Tryz.func153, Tryz.ntmps153
 go_wp2_with fail
 go_loopg [0, 3] (ch.length + 1) (fun gk s0 s3 wr => ∃ (dn rs : List (Nat × Fd)), ch = dn ++ rs ∧ rs.length < gk ∧ ((rs = [] ∧ s0 = .pointer none) ∨ ∃ b', s0 = .pointer (some ⟨b', 0, none⟩) ∧ Hid (LinkAt w P b' rs)) ∧ Hid (wr.ownsRow w.heap.size 116 1 s3 dn.length (ptrs dn)) ∧ Hid (Below w.heap.size w wr))
 case atStart => exact ⟨[], ch, rfl, by omega, Or.inr ⟨b, rfl, HL⟩, World.ownsRow_nil _ _ _ _, Below.refl _ _⟩
 case round =>
  obtain ⟨dn, rs, hch, hrl, hs0, HO, HB⟩ := hrel
  have hsz := HB.out.size
  rcases hs0 with ⟨rfl, rfl⟩ | ⟨b', rfl, HLr⟩
  ·go_wp2
   go_ret
   rw [List.append_nil] at hch
   rw [hch]
   exact ⟨_, rfl, HO.out, HB.out⟩
  ·obtain ⟨f, r, nx, rfl, hrow, hnx⟩ := HLr.out.head
   have hbl := (Array.getElem?_eq_some_iff.1 hrow).1
   obtain ⟨⟨k0, k1⟩, _, _⟩ := row2 ((HB.out.block b' hbl).trans hrow)
   have HNX := tZ hnx
   have HROW := tZ hrow
   have hll : dn.length + 1 + r.length ≤ 500 := by rw [hch] at hl; simp at hl; omega
   clear hrow hnx
   go_wp2_with (first | (at_builtin; refine wpList_append_own _ rfl (.tmp 10) (.tmp 15) 58 rfl w.heap.size 116 i1 (.pointer none) 1 8 Tryz.underlying58 gi gz0 gz1 gz2 rfl (by decide) u3 dn.length (ptrs dn) rfl (HO.out.alloc _) ⟨wr.heap.size, 0, none⟩ 1 1 [.pointer (some ⟨f.1, 0, none⟩)] rfl rfl (fun q u hq => cells_new wr [.pointer (some ⟨f.1, 0, none⟩)] 116 q u hq) (fun u hu => by simp at hu; subst hu; rfl) (by unfold maxLen; omega) (by omega) (by simp; omega) ?_; intro v' w2 hown' hgrow _; refine Hid.out ?_))
   have HB2 := tZ ((HB.out.alloc hsz (.cells #[.pointer (some ⟨f.1, 0, none⟩)] 116)).grown hgrow (by simp; omega) (fun q hq => (HO.out.lt q hq).1))
   have HO2 := tZ (show w2.ownsRow w.heap.size 116 1 v' (dn ++ [f]).length (ptrs (dn ++ [f])) by rw [List.length_append]; simpa [ptrs] using hown')
   obtain ⟨⟨m0, m1⟩, _, _⟩ := row2 ((HB2.out.block b' hbl).trans HROW.out)
   clear hgrow hown'
   refine tZ ?_
   go_wp2
   go_roundg (r.length + 1)
   case measure => simp at hrl; omega
   case rel =>
    refine ⟨dn ++ [f], r, by rw [hch]; simp, by omega, ?_, HO2, HB2⟩
    rcases HNX.out with ⟨rfl, rfl⟩ | ⟨b2, rfl, h2⟩
    ·exact Or.inl ⟨rfl, rfl⟩
    ·exact Or.inr ⟨b2, rfl, h2⟩
def lkM (g : Nat × Fd) (l : Nat × List (Nat × Fd)) : Bool := match l.2 with | [] => false | h :: _ => mentP h.2.nm g.2.p
theorem lkM_cons {g h : Nat × Fd} {l : Nat × List (Nat × Fd)} {r : List (Nat × Fd)} (e : l.2 = h :: r) : lkM g l = mentP h.2.nm g.2.p := by simp [lkM, e]
def linkedP (g f : Nat × Fd) (ls : List (Nat × List (Nat × Fd))) : Option (List (Nat × Fd)) :=
 if g.1 = f.1 then some [f] else (ls.find? (lkM g)).map fun l => g :: l.2
theorem find_at {α : Type} (p : α → Bool) (l : List α) (k : Nat) (h : k < l.length) (h1 : ∀ j (hj : j < l.length), j < k → p l[j] = false) (h2 : p l[k] = true) : l.find? p = some l[k] := by
 induction l generalizing k with
 | nil => simp at h
 | cons x l ih =>
  cases k with
  | zero => simp at h2; simp [h2]
  | succ k =>
   have h0 : p x = false := h1 0 (by simp) (by omega)
   rw [List.find?_cons_of_neg (by simp [h0])]
   exact ih k (by simpa using h) (fun j hj hjk => h1 (j + 1) (by simpa using hj) (by omega)) h2
theorem find_no {α : Type} (p : α → Bool) (l : List α) (h1 : ∀ j (hj : j < l.length), p l[j] = false) : l.find? p = none := by
 rw [List.find?_eq_none]
 intro x hx
 obtain ⟨j, hj, rfl⟩ := List.getElem_of_mem hx
 simp [h1 j hj]
def LkPost (P : Nat → Prop) (g f : Nat × Fd) (ls : List (Nat × List (Nat × Fd))) (w : World) (r : Ending) (w' : World) : Prop :=
 Below w.heap.size w w' ∧ match linkedP g f ls with | none => r = .returned (.pointer none) | some ch => ∃ b, r = .returned (.pointer (some ⟨b, 0, none⟩)) ∧ w.heap.size ≤ b ∧ LinkAt w' (fun q => P q ∨ w.heap.size ≤ q) b ch
theorem linked225 {S P : Nat → Prop} (g f : Nat × Fd) (ls : List (Nat × List (Nat × Fd))) (al : Option Addr) (cl : Nat) (w : World) (hS : ∀ q, S q → q < w.heap.size) (hg : FdAt w S g.1 g.2) (hf : FdAt w S f.1 f.2) (hl : ls.length ≤ 500)
  (hls : ∀ j (h : j < ls.length), LinkAt w P (ls[j]).1 (ls[j]).2 ∧ (∀ x, x ∈ (ls[j]).2 → FdAt w S x.1 x.2) ∧ ∃ gb, al = some ⟨gb, 0, none⟩ ∧ gb < w.heap.size ∧ w.cell? ⟨gb, j, none⟩ = some (.pointer (some ⟨(ls[j]).1, 0, none⟩))) :
  Calls Tryz.prog 152 #[.pointer (some ⟨g.1, 0, none⟩), .pointer (some ⟨f.1, 0, none⟩), .slice al ls.length cl] w (LkPost P g f ls w) := by
 by_cases he : g.1 = f.1
 ·have hsame := ptr_same f.1 w
  have HE := tZ he
  have HFIN := tZ (show ∀ w1 b, Below w.heap.size w w1 → w.heap.size ≤ b → LinkAt w1 (fun q => P q ∨ w.heap.size ≤ q) b [f] → LkPost P g f ls w (.returned (.pointer (some ⟨b, 0, none⟩))) w1 from fun w1 b h1 h2 h3 => by
   unfold LkPost linkedP
   rw [if_pos HE.out]
   exact ⟨h1, b, rfl, h2, h3⟩)
  rw [he]
  clear hls
  go_enter Tryz.func152, Tryz.ntmps152
  go_wp2
  go_ret
  exact HFIN.out _ _ (bZ _) (Nat.le_refl _) (.last _ f (Or.inr (Nat.le_refl _)) (heap_alloc_new w _))
 ·have hother := ptr_other w hg hf he
  have HLS := tZ hls
  have HE := tZ he
  have HPOST := tZ (show ∀ w1 l b, Below w.heap.size w w1 → ls.find? (lkM g) = some l → w.heap.size ≤ b → LinkAt w1 (fun q => P q ∨ w.heap.size ≤ q) b (g :: l.2) → LkPost P g f ls w (.returned (.pointer (some ⟨b, 0, none⟩))) w1 from fun w1 l b h1 h2 h3 h4 => by
   unfold LkPost linkedP
   rw [if_neg HE.out, h2]
   exact ⟨h1, b, rfl, h3, h4⟩)
  have HNONE := tZ (show ∀ w1, Below w.heap.size w w1 → ls.find? (lkM g) = none → LkPost P g f ls w (.returned (.pointer none)) w1 from fun w1 h1 h2 => by
   unfold LkPost linkedP
   rw [if_neg HE.out, h2]
   exact ⟨h1, rfl⟩)
  obtain ⟨_, _, _, _, a1, l1, c1, hgb, hP⟩ := hg
  have hgl := (Array.getElem?_eq_some_iff.1 hgb).1
  have HG := tZ hgb
  have HM := tZ (fun x W (hW : Below w.heap.size w W) => ruleMentions x g.2.p a1 l1 c1 W (hP.next fun q hq => hW.block q (hS q hq)) (fun q hq => Nat.lt_of_lt_of_le (hS q hq) hW.size))
  clear hls hgb hP hf
  go_enter Tryz.func152, Tryz.ntmps152
  go_wp2_with fail
  go_loopg [8, 17] ls.length (fun gk _ s17 wr => ∃ j : Nat, j ≤ ls.length ∧ ls.length ≤ j + gk ∧ s17 = .int .i64 (j : Int) ∧ Hid (Below w.heap.size w wr) ∧ Hid (∀ i (hi : i < ls.length), i < j → lkM g ls[i] = false))
  case atStart => exact ⟨0, Nat.zero_le _, by omega, rfl, Below.refl _ _, fun i hi h => by omega⟩
  case round =>
   obtain ⟨j, hj, hgk, rfl, HB, HF⟩ := hrel
   by_cases hlt : j < ls.length
   ·have hltz : (j : Int) < (ls.length : Int) := by omega
    obtain ⟨hla, hfd, gb, rfl, hgbl, hp⟩ := HLS.out j hlt
    have hp' := (HB.out.cell (p := ⟨gb, j, none⟩) hgbl).trans hp
    obtain ⟨h, rr, nx, hch, hrow, _⟩ := hla.head
    have hlb := (Array.getElem?_eq_some_iff.1 hrow).1
    obtain ⟨⟨k0, _⟩, _, _⟩ := row2 ((HB.out.block _ hlb).trans hrow)
    have hhf := hfd h (by rw [hch]; exact List.mem_cons_self)
    have hhl := hhf.lt
    obtain ⟨_, _, _, _, a2, l2, c2, hb2, _⟩ := hhf
    obtain ⟨⟨n0, _⟩, _, _⟩ := row7 ((HB.out.block _ hhl).trans hb2)
    obtain ⟨⟨_, j1, j2, j3, j4, _⟩, _, _⟩ := row7 ((HB.out.block g.1 hgl).trans HG.out)
    have HC := tZ (HM.out h.2.nm wr.drew HB.out.drew)
    have hsz := HB.out.size
    have HLA := tZ (hla.next HB.out)
    have hmt : lkM g ls[j] = mentP h.2.nm g.2.p := lkM_cons hch
    clear hp hrow hb2
    cases hm : mentP h.2.nm g.2.p with
    | true =>
     have HFIN := tZ (find_at (lkM g) ls j hlt (fun i hi h => HF.out i hi h) (by rw [hmt, hm]))
     have HCH := tZ hch
     rw [hm] at HC
     clear hm hmt HF hch hla hfd
     generalize ls[j] = lj at *
     go_wp2_with fail
     go_region_with (first | (go_at_call 98; refine HC.out.mono ?_; rintro e w1 ⟨rfl, hb1⟩; have B1 := tZ hb1; clear hb1))
     all_goals go_wp2
     all_goals refine bodyPost_ret (v := .pointer (some ⟨w1.heap.size, 0, none⟩)) (by simp [results, Tryz.results152, go_sem]) (by simp [go_sem]) ?_
     all_goals refine HPOST.out _ _ _ ((HB.out.drew.trans (B1.out.mono hsz)).alloc (Nat.le_trans hsz B1.out.size) _) HFIN.out (Nat.le_trans hsz B1.out.size) ?_
     all_goals have hL2 := ((HLA.out.next ((Below.refl _ _).drew.trans B1.out)).next (bZ (.cells #[.pointer (some ⟨g.1, 0, none⟩), .pointer (some ⟨lj.1, 0, none⟩)] 252))).keep (P' := fun q => P q ∨ w.heap.size ≤ q) fun q hq _ => ⟨rfl, Or.inl hq⟩
     all_goals rw [HCH.out] at hL2 ⊢
     all_goals exact .more _ lj.1 g h rr (Or.inr (Nat.le_trans hsz B1.out.size)) (heap_alloc_new w1 _) hL2
    | false =>
     have HF2 := tZ (show ∀ i (hi : i < ls.length), i < j + 1 → lkM g ls[i] = false from fun i hi h => by
      by_cases e : i = j
      ·subst e; rw [hmt, hm]
      ·exact HF.out i hi (by omega))
     rw [hm] at HC
     clear hm hmt HF hch hla hfd
     generalize ls[j] = lj at *
     go_wp2_with fail
     go_region_with (first | (go_at_call 98; refine HC.out.mono ?_; rintro e w1 ⟨rfl, hb1⟩; have B1 := tZ hb1; clear hb1))
     all_goals go_wp2
     all_goals go_roundg (ls.length - (j + 1))
     all_goals try (case measure => omega)
     all_goals exact ⟨j + 1, by omega, by omega, by go_num, HB.out.drew.trans (B1.out.mono hsz), HF2⟩
   ·have hltz : ¬ (j : Int) < (ls.length : Int) := by omega
    go_wp2
    go_ret
    exact HNONE.out _ HB.out (find_no _ _ fun i hi => HF.out i hi (by omega))
end
section
structure Ks (P : Nat → Prop) (w w' : World) : Prop where
 os : w'.os = w.os
 tape : w'.tape = w.tape
 output : w'.output = w.output
 size : w.heap.size ≤ w'.heap.size
 block : ∀ k, k < w.heap.size → ¬ P k → w'.heap[k]? = w.heap[k]?
theorem Ks.of {P : Nat → Prop} {w w' : World} (h : Below w.heap.size w w') : Ks P w w' := ⟨h.os, h.tape, h.output, h.size, fun k hk _ => h.block k hk⟩
theorem Ks.trans {P : Nat → Prop} {w w' w'' : World} (h : Ks P w w') (g : Ks P w' w'') : Ks P w w'' :=
 ⟨g.os.trans h.os, g.tape.trans h.tape, g.output.trans h.output, Nat.le_trans h.size g.size, fun k hk hP => (g.block k (Nat.lt_of_lt_of_le hk h.size) hP).trans (h.block k hk hP)⟩
theorem Ks.refl (P : Nat → Prop) (w : World) : Ks P w w := ⟨rfl, rfl, rfl, Nat.le_refl _, fun _ _ _ => rfl⟩
theorem Ks.wide {P P' : Nat → Prop} {w w' : World} (h : Ks P w w') (hp : ∀ q, P q → P' q) : Ks P' w w' := ⟨h.os, h.tape, h.output, h.size, fun k hk hn => h.block k hk fun hh => hn (hp k hh)⟩
theorem Ks.set {P : Nat → Prop} {w w' : World} (h : Ks P w w') (q j : Nat) (v : Value) (hq : P q) : Ks P w (w'.setCell ⟨q, j, none⟩ v) :=
 h.trans ⟨rfl, rfl, rfl, by simp, fun k _ hP => Below.heap_setCell _ _ _ _ (fun e => hP (by rw [show k = q from e]; exact hq))⟩
theorem Ks.alloc {P : Nat → Prop} {w w' : World} (h : Ks P w w') (o : Obj) : Ks P w (w'.alloc o) := h.trans (Ks.of (bZ _))
def setV (fs : List (Nat × Fd)) (b : Nat) (v : Vl) : List (Nat × Fd) := fs.map fun f => if f.1 = b then (f.1, { f.2 with v := v }) else f
def ruleOf (fs : List (Nat × Fd)) (b : Nat) : Pt := match fs.find? (fun f => f.1 == b) with | some f => f.2.p | none => .atom 1 [] 0
def workP : List (Nat × Fd) → List Nat → List (Nat × Fd)
 | fs, [] => fs
 | fs, b :: r => workP (setV fs b (valP (rho fs) (ruleOf fs b))) r
theorem FdAt.stays {w w' : World} {S : Nat → Prop} {b : Nat} {f : Fd} (h : FdAt w S b f) (hb : w'.heap[b]? = w.heap[b]?) (hS : ∀ q, S q → w'.heap[q]? = w.heap[q]?) : FdAt w' S b f := by
 obtain ⟨h1, h2, h3, h4, a, l, c, hh, hp⟩ := h
 exact ⟨h1, h2, h3, h4, a, l, c, hb.trans hh, hp.next hS⟩
theorem infoBack : (Tryz.prog.info? 84).map (fun i => (i.zero, i.size, i.bytes)) = some (some .nilFunc, 1, 8) := by kernel_rfl
theorem map_setV (fs : List (Nat × Fd)) (b : Nat) (v : Vl) : (setV fs b v).map (fun f => f.1) = fs.map fun f => f.1 := by
 simp only [setV, List.map_map]
 congr 1
 funext f
 simp only [Function.comp]
 split <;> rfl
end
section
theorem hangP_sub (on : List By) (fs : List (Nat × Fd)) : ∀ x, x ∈ hangP on fs → x ∈ fs := by
 induction fs generalizing on with
 | nil => intro x hx; simp [hangP] at hx
 | cons f r ih =>
  intro x hx
  unfold hangP at hx
  split at hx
  ·rcases List.mem_cons.1 hx with rfl | h
   ·exact List.mem_cons_self
   ·exact List.mem_cons_of_mem _ (ih _ x h)
  ·exact List.mem_cons_of_mem _ (ih _ x hx)
theorem hangP_len (on : List By) (fs : List (Nat × Fd)) : (hangP on fs).length ≤ fs.length := by
 induction fs generalizing on with
 | nil => simp [hangP]
 | cons f r ih =>
  unfold hangP
  split
  ·have := ih (on ++ [f.2.nm]); simp; omega
  ·have := ih on; simp; omega
theorem Sh.ofOwn {w : World} {S : Nat → Prop} {a ak : Option Addr} {fs k : List (Nat × Fd)} {B ck : Nat} (h : Sh w S a fs) (hsub : ∀ x, x ∈ k → x ∈ fs) (ho : w.ownsRow B 116 1 (.slice ak k.length ck) k.length (ptrs k)) (hB : ∀ f, f ∈ fs → f.1 < B) : Sh w (fun q => S q ∨ ∃ o, ak = some ⟨q, o, none⟩) ak k := by
 have hblk : ∀ q o, ak = some ⟨q, o, none⟩ → B ≤ q ∧ q < w.heap.size ∧ o = 0 := fun q o hq => by
  subst hq
  rcases ho.2 with ⟨h1, _⟩ | ⟨g, cap, cur, h1, h2, h3, _⟩
  ·simp at h1
  ·simp at h1
   obtain ⟨⟨rfl, rfl⟩, _⟩ := h1
   exact ⟨h2, (Array.getElem?_eq_some_iff.1 h3).1, rfl⟩
 refine ⟨fun q hq => ?_, fun j hj => ?_, fun x hx => ?_⟩
 ·rcases hq with hq | ⟨o, hq⟩
  ·exact h.still q hq
  ·exact (hblk q o hq).2.1
 ·obtain ⟨g, cap, hv, _, _⟩ := ho.form (by omega)
  simp at hv
  obtain ⟨rfl, rfl⟩ := hv
  refine ⟨g, 0, rfl, Or.inr ⟨0, rfl⟩, ?_⟩
  rw [Nat.zero_add, ho.cellAt j (by omega)]
  simp [ptrs, hj]
 ·obtain ⟨h1, h2, h3, h4, a1, l1, c1, hh, hp⟩ := h.fld x (hsub x hx)
  refine ⟨?_, h2, h3, h4, a1, l1, c1, hh, hp.wide fun q hq => Or.inl hq⟩
  rintro (hq | ⟨o, hq⟩)
  ·exact h1 hq
  ·have := (hblk _ o hq).1
   have := hB x (hsub x hx)
   omega
theorem Sh.ks {P : Nat → Prop} {w w' : World} {S : Nat → Prop} {a : Option Addr} {fs : List (Nat × Fd)} (h : Sh w S a fs) (hk : Ks P w w') (hS : ∀ q, S q → ¬ P q) (hf : ∀ f, f ∈ fs → ¬ P f.1) : Sh w' S a fs := by
 refine ⟨fun q hq => Nat.lt_of_lt_of_le (h.still q hq) hk.size, fun j hj => ?_, fun x hx => (h.fld x hx).stays (hk.block _ (h.fld x hx).lt (hf x hx)) fun q hq => hk.block q (h.still q hq) (hS q hq)⟩
 obtain ⟨g, o, h1, h2, h3⟩ := h.ptr j hj
 exact ⟨g, o, h1, h2, (World.cell?_of_block (a := ⟨g, o + j, none⟩) (hk.block g (h.still g h2) (hS g h2))).trans h3⟩
end
section
attribute [local go_sem] addr_add
def lkQ (g : Nat × Fd) (ch : List (Nat × Fd)) : Bool := match ch with | [] => false | h :: _ => mentP h.2.nm g.2.p
def linkQ (g f : Nat × Fd) (ls : List (List (Nat × Fd))) : Option (List (Nat × Fd)) := if g.1 = f.1 then some [f] else (ls.find? (lkQ g)).map fun ch => g :: ch
theorem linkedP_eq (g f : Nat × Fd) (ls : List (Nat × List (Nat × Fd))) : linkedP g f ls = linkQ g f (ls.map Prod.snd) := by
 unfold linkedP linkQ
 split
 ·rfl
 ·rw [List.find?_map]
  have : (lkQ g ∘ Prod.snd) = lkM g := by
   funext l
   rfl
  rw [this]
  cases ls.find? (lkM g) <;> rfl
theorem linkQ_len {g f : Nat × Fd} {ls : List (Nat × List (Nat × Fd))} {ch : List (Nat × Fd)} {k : Nat} (h : linkQ g f (ls.map Prod.snd) = some ch) (hl : ∀ l, l ∈ ls → l.2.length ≤ k) : ch.length ≤ k + 1 := by
 unfold linkQ at h
 split at h
 ·cases h
  simp
 ·obtain ⟨c', hc1, hc2⟩ := Option.map_eq_some_iff.1 h
  obtain ⟨l, hl1, hl2⟩ := List.mem_map.1 (List.mem_of_find?_eq_some hc1)
  have := hl l hl1
  rw [hl2] at this
  rw [← hc2]
  simp
  exact this
inductive BhR where
 | ok (st mv : List (Nat × Fd))
 | circ (ch : List (Nat × Fd))
def behP (f : Nat × Fd) : List (Nat × Fd) → List (Nat × Fd) → List (Nat × Fd) → List (List (Nat × Fd)) → BhR
 | [], st, mv, _ => .ok st mv
 | g :: r, st, mv, ls => match linkQ g f ls with
  | none => behP f r (st ++ [g]) mv ls
  | some ch => if mentP g.2.nm f.2.p then .circ ch else behP f r st (mv ++ [g]) (ls ++ [ch])
def lptrs (ls : List (Nat × List (Nat × Fd))) : List Value := ls.map fun l => .pointer (some ⟨l.1, 0, none⟩)
def Off3 (s6 s7 s8 : Value) (q : Nat) : Prop := s6.ownBlock ≠ some q ∧ s7.ownBlock ≠ some q ∧ s8.ownBlock ≠ some q
theorem own_blk {w w' : World} {base z n : Nat} {e : TypeId} {v : Value} {xs : List Value} (h : w.ownsRow base e z v n xs) (hk : ∀ q, v.ownBlock = some q → w'.heap[q]? = w.heap[q]?) : w'.ownsRow base e z v n xs := by
 obtain ⟨h1, h2⟩ := h
 refine ⟨h1, h2.imp id ?_⟩
 rintro ⟨g, cap, cur, rfl, h4, h5, h6⟩
 exact ⟨g, cap, cur, rfl, h4, (hk g rfl).trans h5, h6⟩
structure BhI (S : Nat → Prop) (w wr : World) (f : Nat × Fd) (gs : List (Nat × Fd)) (s6 s7 s8 : Value) (k : Nat) (st mv : List (Nat × Fd)) (ls : List (Nat × List (Nat × Fd))) : Prop where
 eq : behP f gs [] [] [] = behP f (gs.drop k) st mv (ls.map Prod.snd)
 o6 : wr.ownsRow w.heap.size 116 1 s6 st.length (ptrs st)
 o7 : wr.ownsRow w.heap.size 116 1 s7 mv.length (ptrs mv)
 o8 : wr.ownsRow w.heap.size 230 1 s8 ls.length (lptrs ls)
 d67 : ∀ q, s6.ownBlock = some q → s7.ownBlock ≠ some q
 d68 : ∀ q, s6.ownBlock = some q → s8.ownBlock ≠ some q
 d78 : ∀ q, s7.ownBlock = some q → s8.ownBlock ≠ some q
 lk : ∀ l, l ∈ ls → LinkAt wr (Off3 s6 s7 s8) l.1 l.2 ∧ ∀ x, x ∈ l.2 → FdAt w S x.1 x.2
 cnt : st.length + mv.length = k ∧ ls.length = mv.length
 len : ∀ l, l ∈ ls → l.2.length ≤ k
 sub : ∀ x, x ∈ st ++ mv → x ∈ gs
 bel : Below w.heap.size w wr
def BhPost (fs : List (Nat × Fd)) (at_ last : Nat) (r : BhR) (w : World) (e : Ending) (w' : World) : Prop :=
 Below w.heap.size w w' ∧ match r with
 | .ok st mv => ∃ v, e = .returned (.tuple #[v, .slice none 0 0]) ∧ w'.ownsRow w.heap.size 116 1 v (catP [fs.take at_, st, mv, fs.drop (last + 1)]).length (ptrs (catP [fs.take at_, st, mv, fs.drop (last + 1)]))
 | .circ ch => ∃ v, e = .returned (.tuple #[.slice none 0 0, v]) ∧ w'.ownsRow w.heap.size 116 1 v ch.length (ptrs ch)
theorem BhI.stay {S : Nat → Prop} {w wr w1 w2 : World} {f g : Nat × Fd} {gs : List (Nat × Fd)} {s6 s7 s8 v' : Value} {k : Nat} {st mv : List (Nat × Fd)} {ls : List (Nat × List (Nat × Fd))} (h : BhI S w wr f gs s6 s7 s8 k st mv ls) (hk : k < gs.length) (hg : gs[k] = g) (hq : linkQ g f (ls.map Prod.snd) = none)
  (hb1 : Below wr.heap.size wr w1) (hgrow : w1.grownBy w2 s6.ownBlock) (hown : w2.ownsRow w.heap.size 116 1 v' (st.length + 1) (ptrs st ++ [.pointer (some ⟨g.1, 0, none⟩)])) (hat : v'.ownBlock = s6.ownBlock ∨ ∃ q, v'.ownBlock = some q ∧ wr.heap.size ≤ q) : BhI S w w2 f gs v' s7 s8 (k + 1) (st ++ [g]) mv ls := by
 have hsz := h.bel.size
 have hs1 := hb1.size
 have l6 : ∀ q, s6.ownBlock = some q → w.heap.size ≤ q ∧ q < wr.heap.size := h.o6.lt
 have l7 : ∀ q, s7.ownBlock = some q → w.heap.size ≤ q ∧ q < wr.heap.size := h.o7.lt
 have l8 : ∀ q, s8.ownBlock = some q → w.heap.size ≤ q ∧ q < wr.heap.size := h.o8.lt
 have blk : ∀ q, q < wr.heap.size → s6.ownBlock ≠ some q → w2.heap[q]? = wr.heap[q]? := fun q hq hn => (hgrow.block q (by omega) (fun e => hn e.symm)).trans (hb1.block q hq)
 have hv : ∀ q, v'.ownBlock = some q → s6.ownBlock = some q ∨ wr.heap.size ≤ q := fun q hq => by
  rcases hat with h1 | ⟨q', h1, h2⟩
  ·exact Or.inl (h1 ▸ hq)
  ·rw [h1] at hq; cases hq; exact Or.inr h2
 have hd : gs.drop k = g :: gs.drop (k + 1) := by rw [List.drop_eq_getElem_cons hk, hg]
 refine ⟨?_, ?_, ?_, ?_, ?_, ?_, h.d78, ?_, ?_, fun l hl => Nat.le_succ_of_le (h.len l hl), ?_, ?_⟩
 ·rw [h.eq, hd]
  simp only [behP, hq]
 ·rw [List.length_append, show ptrs (st ++ [g]) = ptrs st ++ [.pointer (some ⟨g.1, 0, none⟩)] by simp [ptrs]]
  exact hown
 ·exact own_blk h.o7 fun q hq => blk q (l7 q hq).2 (fun e => h.d67 q e hq)
 ·exact own_blk h.o8 fun q hq => blk q (l8 q hq).2 (fun e => h.d68 q e hq)
 ·intro q hq e
  rcases hv q hq with h1 | h1
  ·exact h.d67 q h1 e
  ·have := (l7 q e).2; omega
 ·intro q hq e
  rcases hv q hq with h1 | h1
  ·exact h.d68 q h1 e
  ·have := (l8 q e).2; omega
 ·intro l hl
  obtain ⟨h1, h2⟩ := h.lk l hl
  refine ⟨h1.keep fun q hq hlt => ⟨blk q hlt hq.1, ?_, hq.2.1, hq.2.2⟩, h2⟩
  intro e
  rcases hv q e with h3 | h3
  ·exact hq.1 h3
  ·omega
 ·have := h.cnt
  simp
  omega
 ·intro x hx
  simp at hx
  rcases hx with hx | rfl | hx
  ·exact h.sub x (by simp [hx])
  ·rw [← hg]; exact List.getElem_mem hk
  ·exact h.sub x (by simp [hx])
 ·exact ⟨hgrow.os.trans (hb1.os.trans h.bel.os), hgrow.tape.trans (hb1.tape.trans h.bel.tape), hgrow.output.trans (hb1.output.trans h.bel.output), by have := hgrow.size; omega, fun q hq => (blk q (by omega) (fun e => by have := (l6 q e).1; omega)).trans (h.bel.block q hq)⟩
theorem BhI.move {S : Nat → Prop} {w wr w1 w2 w3 w4 : World} {f g : Nat × Fd} {gs : List (Nat × Fd)} {s6 s7 s8 v7 v8 : Value} {k b : Nat} {st mv ch : List (Nat × Fd)} {ls : List (Nat × List (Nat × Fd))} (h : BhI S w wr f gs s6 s7 s8 k st mv ls) (hk : k < gs.length) (hg : gs[k] = g) (hq : linkQ g f (ls.map Prod.snd) = some ch) (hm : mentP g.2.nm f.2.p = false)
  (hgs : ∀ x, x ∈ gs → FdAt w S x.1 x.2) (hf : FdAt w S f.1 f.2)
  (hb1 : Below wr.heap.size wr w1) (hlk : LinkAt w1 (fun q => Off3 s6 s7 s8 q ∨ wr.heap.size ≤ q) b ch)
  (hgr1 : w1.grownBy w2 s7.ownBlock) (hown7 : w2.ownsRow w.heap.size 116 1 v7 (mv.length + 1) (ptrs mv ++ [.pointer (some ⟨g.1, 0, none⟩)])) (hat7 : v7.ownBlock = s7.ownBlock ∨ ∃ q, v7.ownBlock = some q ∧ w1.heap.size ≤ q)
  (hb3 : Below w2.heap.size w2 w3) (hgr2 : w3.grownBy w4 s8.ownBlock) (hown8 : w4.ownsRow w.heap.size 230 1 v8 (ls.length + 1) (lptrs ls ++ [.pointer (some ⟨b, 0, none⟩)])) (hat8 : v8.ownBlock = s8.ownBlock ∨ ∃ q, v8.ownBlock = some q ∧ w2.heap.size ≤ q) :
  BhI S w w4 f gs s6 v7 v8 (k + 1) st (mv ++ [g]) (ls ++ [(b, ch)]) := by
 have hsz := h.bel.size
 have hs1 := hb1.size
 have hs2 := hgr1.size
 have hs3 := hb3.size
 have l6 : ∀ q, s6.ownBlock = some q → w.heap.size ≤ q ∧ q < wr.heap.size := h.o6.lt
 have l7 : ∀ q, s7.ownBlock = some q → w.heap.size ≤ q ∧ q < wr.heap.size := h.o7.lt
 have l8 : ∀ q, s8.ownBlock = some q → w.heap.size ≤ q ∧ q < wr.heap.size := h.o8.lt
 have m7 : ∀ q, v7.ownBlock = some q → w.heap.size ≤ q ∧ q < w2.heap.size := hown7.lt
 have blk1 : ∀ q, q < w1.heap.size → s7.ownBlock ≠ some q → s8.ownBlock ≠ some q → w4.heap[q]? = w1.heap[q]? := fun q hq h7 h8 => (hgr2.block q (by omega) (fun e => h8 e.symm)).trans ((hb3.block q (by omega)).trans (hgr1.block q hq (fun e => h7 e.symm)))
 have blk : ∀ q, q < wr.heap.size → s7.ownBlock ≠ some q → s8.ownBlock ≠ some q → w4.heap[q]? = wr.heap[q]? := fun q hq h7 h8 => (blk1 q (by omega) h7 h8).trans (hb1.block q hq)
 have v7s : ∀ q, v7.ownBlock = some q → s7.ownBlock = some q ∨ w1.heap.size ≤ q := fun q hq => by
  rcases hat7 with h1 | ⟨q', h1, h2⟩
  ·exact Or.inl (h1 ▸ hq)
  ·rw [h1] at hq; cases hq; exact Or.inr h2
 have v8s : ∀ q, v8.ownBlock = some q → s8.ownBlock = some q ∨ w2.heap.size ≤ q := fun q hq => by
  rcases hat8 with h1 | ⟨q', h1, h2⟩
  ·exact Or.inl (h1 ▸ hq)
  ·rw [h1] at hq; cases hq; exact Or.inr h2
 have hd : gs.drop k = g :: gs.drop (k + 1) := by rw [List.drop_eq_getElem_cons hk, hg]
 have off : ∀ q, q < w1.heap.size → Off3 s6 s7 s8 q → Off3 s6 v7 v8 q := fun q hq ho => by
  refine ⟨ho.1, fun e => ?_, fun e => ?_⟩
  ·rcases v7s q e with h3 | h3
   ·exact ho.2.1 h3
   ·omega
  ·rcases v8s q e with h3 | h3
   ·exact ho.2.2 h3
   ·omega
 refine ⟨?_, ?_, ?_, ?_, ?_, ?_, ?_, ?_, ?_, ?_, ?_, ?_⟩
 ·rw [h.eq, hd]
  simp only [behP, hq, hm]
  simp
 ·exact own_blk h.o6 fun q hq => blk q (l6 q hq).2 (fun e => h.d67 q hq e) (fun e => h.d68 q hq e)
 ·rw [List.length_append, show ptrs (mv ++ [g]) = ptrs mv ++ [.pointer (some ⟨g.1, 0, none⟩)] by simp [ptrs]]
  refine own_blk hown7 fun q hq => (hgr2.block q (by have := (m7 q hq).2; omega) (fun e => ?_)).trans (hb3.block q (m7 q hq).2)
  rcases v7s q hq with h3 | h3
  ·exact h.d78 q h3 e.symm
  ·have := (l8 q e.symm).2; omega
 ·rw [List.length_append, show lptrs (ls ++ [(b, ch)]) = lptrs ls ++ [.pointer (some ⟨b, 0, none⟩)] by simp [lptrs]]
  exact hown8
 ·intro q hq e
  rcases v7s q e with h3 | h3
  ·exact h.d67 q hq h3
  ·have := (l6 q hq).2; omega
 ·intro q hq e
  rcases v8s q e with h3 | h3
  ·exact h.d68 q hq h3
  ·have := (l6 q hq).2; omega
 ·intro q hq e
  rcases v8s q e with h3 | h3
  ·rcases v7s q hq with h4 | h4
   ·exact h.d78 q h4 h3
   ·have := (l8 q h3).2; omega
  ·have := (m7 q hq).2; omega
 ·intro l hl
  simp at hl
  rcases hl with hl | rfl
  ·obtain ⟨h1, h2⟩ := h.lk l hl
   exact ⟨h1.keep fun q hq' hlt => ⟨blk q hlt hq'.2.1 hq'.2.2, off q (by omega) hq'⟩, h2⟩
  ·refine ⟨hlk.keep fun q hq' hlt => ?_, ?_⟩
   ·have ho : Off3 s6 s7 s8 q := by
     rcases hq' with h1 | h1
     ·exact h1
     ·exact ⟨fun e => by have := (l6 q e).2; omega, fun e => by have := (l7 q e).2; omega, fun e => by have := (l8 q e).2; omega⟩
    exact ⟨blk1 q hlt ho.2.1 ho.2.2, off q hlt ho⟩
   ·intro x hx
    unfold linkQ at hq
    split at hq
    ·cases hq
     simp at hx
     rw [hx]; exact hf
    ·obtain ⟨c', hc1, hc2⟩ := Option.map_eq_some_iff.1 hq
     subst hc2
     simp at hx
     rcases hx with rfl | hx
     ·exact hgs _ (by rw [← hg]; exact List.getElem_mem hk)
     ·obtain ⟨l, hl1, hl2⟩ := List.mem_map.1 (List.mem_of_find?_eq_some hc1)
      exact (h.lk l hl1).2 x (by rw [hl2]; exact hx)
 ·have := h.cnt
  simp
  omega
 ·intro l hl
  simp at hl
  rcases hl with hl | rfl
  ·exact Nat.le_succ_of_le (h.len l hl)
  ·exact linkQ_len hq h.len
 ·intro x hx
  simp at hx
  rcases hx with hx | hx | rfl
  ·exact h.sub x (by simp [hx])
  ·exact h.sub x (by simp [hx])
  ·rw [← hg]; exact List.getElem_mem hk
 ·exact ⟨hgr2.os.trans (hb3.os.trans (hgr1.os.trans (hb1.os.trans h.bel.os))), hgr2.tape.trans (hb3.tape.trans (hgr1.tape.trans (hb1.tape.trans h.bel.tape))), hgr2.output.trans (hb3.output.trans (hgr1.output.trans (hb1.output.trans h.bel.output))), by have := hgr2.size; omega, fun q hq => (blk q (by omega) (fun e => by have := (l7 q e).1; omega) (fun e => by have := (l8 q e).1; omega)).trans (h.bel.block q hq)⟩
end
end Go.Proofs.YtihgojcfpnhelabGreatDoor
