import Derived.Test.YtihgojcfpnhelaaGreatDoorR2Bj
import Derived.Test.YtihgojcfpnhelaaGreatDoorR2Be
set_option maxRecDepth 100000
set_option maxHeartbeats 4000000
set_option linter.unusedVariables false
set_option linter.unusedSimpArgs false
namespace Go.Proofs.YtihgojcfpnhelaaGreatDoor
open Go.RowKit
section
variable {S S1 O : Nat → Prop} {e : Nat} {D D1 : Nat → Prop} {σ σ0 σ1 : Sta} {v1 v2 v3 v4 v5 : Value} {te : TypeId} {w w' W w1 w2 : World} {ws0 us : List Wr} {b N : Nat} {cs : Array Value} {ar : AR} {r : Ending}
theorem PhS.less (h : PhS w S e D1 σ1 v1 v2 v3 v4 v5 te) (hd : ∀ q, D q → D1 q) (hm : ∀ q, D q → σ1.mem q = σ.mem q) (ho : σ1.ord = σ.ord) (hs : ∀ b, b ∈ σ.ord → D b) : PhS w S e D σ v1 v2 v3 v4 v5 te := by
 obtain ⟨a, c, h1, h2, h3, h4⟩ := h.row
 rw [ho] at h1 h2 h4
 exact ⟨h.still, h.eS, fun hh => h.eD (hd e hh), fun q hq => by rw [← hm q hq]; exact h.fld q (hd q hq), hs, a, c, h1, h2, h3, h4⟩
theorem EdPost.lift (hs0 : ∀ q, S q → S1 q) (hs1 : ∀ q, S1 q → S q ∨ w.heap.size ≤ q) (hd0 : ∀ q, D q → D1 q) (hd1 : ∀ q, D1 q → D q ∨ w.heap.size ≤ q) (hk : Ks (fun q => q = e ∨ D q) w w1) (hm : ∀ q, D q → σ1.mem q = σ.mem q) (ho : σ1.ord = σ.ord) (hsub : ∀ b, b ∈ σ.ord → D b)
  (h : EdPost S1 e D1 σ1 v1 v2 v3 v4 v5 te ar w1 r w') : EdPost S e D σ v1 v2 v3 v4 v5 te ar w r w' := by
 have com : ∀ {S' D' : Nat → Prop} {nm : List By} {an : Option Addr} {cn : Nat}, EdCom S1 e D1 S' D' nm an cn w1 w' → EdCom S e D S' D' nm an cn w w' := fun {S' D' nm an cn} hc => by
  refine ⟨fun q hq => hc.s0 q (hs0 q hq), fun q hq => ?_, fun q hq => hc.d0 q (hd0 q hq), fun q hq => ?_, ⟨hc.ks.os.trans hk.os, hc.ks.tape.trans hk.tape, hc.ks.output.trans hk.output, Nat.le_trans hk.size hc.ks.size, fun k hkl hn => ?_⟩, own_base hc.own hk.size, hc.ob⟩
  ·rcases hc.s1 q hq with h1 | h1
   ·exact hs1 q h1
   ·exact Or.inr (Nat.le_trans hk.size h1)
  ·rcases hc.d1 q hq with h1 | h1
   ·exact hd1 q h1
   ·exact Or.inr (Nat.le_trans hk.size h1)
  ·refine (hc.ks.block k (Nat.lt_of_lt_of_le hkl hk.size) ?_).trans (hk.block k hkl hn)
   rintro (h1 | h1)
   ·exact hn (Or.inl h1)
   ·rcases hd1 k h1 with h2 | h2
    ·exact hn (Or.inr h2)
    ·omega
 cases ar with
 | ok fs nm =>
  obtain ⟨an, cn, S', D', N', cs', σ2, ws, h1, h2, h3, h4, h5, h6, h7⟩ := h
  exact ⟨an, cn, S', D', N', cs', σ2, ws, com h1, h2, fun q hq => (h3 q (hd0 q hq)).trans (hm q hq), h4.trans ho, h5, h6, h7⟩
 | err c nm =>
  obtain ⟨an, cn, S', h1, h2, h3⟩ := h
  refine ⟨an, cn, S', ?_, h2, h3.less hd0 hm ho hsub⟩
  have := com h1
  exact ⟨this.s0, this.s1, fun _ h => h, fun _ h => Or.inl h, this.ks, this.own, this.ob⟩
theorem EdPost.shape (h : EdPost S e D σ v1 v2 v3 v4 v5 te ar w r w') : ∃ (an : Option Addr) (ln cn : Nat) (bk : Value) (er : Int), r = .returned (.tuple #[.slice an ln cn, bk, .int .i64 er]) ∧ EdPost S e D σ v1 v2 v3 v4 v5 te ar w (.returned (.tuple #[.slice an ln cn, bk, .int .i64 er])) w' := by
 cases ar with
 | ok fs nm =>
  obtain ⟨an, cn, S', D', N', cs', σ2, ws, h1, rfl, h3⟩ := h
  exact ⟨an, _, cn, _, _, rfl, an, cn, S', D', N', cs', σ2, ws, h1, rfl, h3⟩
 | err c nm =>
  obtain ⟨an, cn, S', h1, rfl, h3⟩ := h
  exact ⟨an, _, cn, _, _, rfl, an, cn, S', h1, rfl, h3⟩
theorem setFull (e c : Nat) (a : Option Addr) (fs : List (Nat × Fd)) (x : By) (p : Pt) (al : Option Addr) (lr cr : Nat) (w : World) (hs : Sh w S a fs) (hc : w.cell? ⟨e, 0, none⟩ = some (.slice a fs.length c)) (hel : e < w.heap.size) (hl : fs.length = 10) (hnew : findF fs x = none) :
  Calls Tryz.prog 133 #[.pointer (some ⟨e, 0, none⟩), .string ⟨x.toArray⟩, .agg #[.int .i64 (p.k : Int), .string ⟨p.nm.toArray⟩, .int .i64 (p.n : Int), .slice al lr cr]] w fun r w' => r = .returned (.tuple #[.slice none 0 0, .nilFunc, .int .i64 7]) ∧ Below w.heap.size w w' := by
 have HF := tZ (show ∀ W, Below w.heap.size w W → Calls Tryz.prog 137 #[.pointer (some ⟨e, 0, none⟩), .string ⟨x.toArray⟩] W fun r w' => r = .returned (.pointer none) ∧ W = w' from fun W hb => by
  have := find101 x e c a fs W (hs.next hb) ((hb.cell (p := ⟨e, 0, none⟩) hel).trans hc) (by omega)
  rw [findB, hnew] at this
  exact this)
 rw [hl] at hc
 have hc' : w.cell? ⟨e, 0, none⟩ = some (.slice a 10 c) := hc
 clear hs hc
 go_enter Tryz.func133, Tryz.ntmps133
 go_wp2_with (first | (go_at_call 137; refine (HF.out _ (by first | exact Below.refl _ _ | exact (Below.refl _ _).alloc (Nat.le_refl _) _ | exact below2 _ _ _)).mono ?_; rintro r w1 ⟨rfl, rfl⟩))
 refine bodyPost_ret (v := .tuple #[.slice none 0 0, .nilFunc, .int .i64 7]) (by simp [results, Tryz.results133, go_sem]) (by simp [go_sem]) ?_
 exact ⟨rfl, by first | exact (Below.refl _ _).alloc (Nat.le_refl _) _ | exact below2 _ _ _ | exact Below.refl _ _⟩
theorem setS (h : PhS w S e D σ v1 v2 v3 v4 v5 te) (hnd : σ.ord.Nodup) (hl : σ.ord.length ≤ 10) (x : By) (p : Pt) (al : Option Addr) (lr cr : Nat) (hP : PIs w S p al lr cr) (hsh : Shape p) (hgd : Good p) (htx : (txt p).length ≤ 100) :
  Calls Tryz.prog 133 #[.pointer (some ⟨e, 0, none⟩), .string ⟨x.toArray⟩, .agg #[.int .i64 (p.k : Int), .string ⟨p.nm.toArray⟩, .int .i64 (p.n : Int), .slice al lr cr]] w (EdPost S e D σ v1 v2 v3 v4 v5 te (setA (σ.fs.map Prod.snd) x p) w) := by
 have hel := h.lt
 have hfl : σ.fs.length = σ.ord.length := by simp [Sta.fs]
 obtain ⟨a, c, hs, hcc, hac, hrow⟩ := h.sh
 unfold setA
 cases hf : findF σ.fs x with
 | some f =>
  obtain ⟨i, hi1, hi2⟩ := findIdx_some hf
  obtain ⟨ho1, ho2⟩ := fs_at hi2
  have hfm := (findF_mem hf).1
  have hDf : D f.1 := h.sub f.1 (List.mem_of_getElem? ho1)
  have e1 : (σ.fs.map Prod.snd)[i]? = some f.2 := by rw [List.getElem?_map, hi2]; rfl
  rw [hi1]
  simp only [e1]
  refine (setOld e c a σ.fs f x p al lr cr w (fun an ln cn bk er w' => EdPost S e D σ v1 v2 v3 v4 v5 te (settleA ((σ.fs.map Prod.snd).set i ⟨f.2.nm, p, f.2.v⟩) i ⟨f.2.nm, p, f.2.v⟩) w (.returned (.tuple #[.slice an ln cn, bk, .int .i64 er])) w') hs (row6 hrow).1.1 hel (by omega) hf (fun e' => h.eD (e' ▸ hDf)) ?_).mono (by
   rintro r w' ⟨an, ln, cn, bk, er, rfl, hq⟩
   exact hq)
  intro g1 g2 w1 hrow1 hk1 hcl
  obtain ⟨fa, fl, fc, hr0, hg1, hg2, _, hc1, hc2⟩ := hcl
  have hmem : f.2 = σ.mem f.1 := by rw [ho2]
  obtain ⟨q1, q2, q3, q4, fa', fl', fc', r1, r2⟩ := h.fld f.1 hDf
  rw [hmem] at hrow1 hr0 hc2
  have hfa : (fa, fl, fc) = (fa', fl', fc') := by
   rw [r1] at hr0
   simp at hr0
   obtain ⟨e1, e2, e3⟩ := hr0
   rw [e1, e2, e3]
  cases hfa
  have blk : ∀ q, S q → w1.heap[q]? = w.heap[q]? := fun q hq => hk1.block q (h.still q hq) (fun e' => q1 (e' ▸ hq))
  have hfb := (h.fld f.1 hDf).lt
  have hp1 : PhS w1 (S2 S g1 g2) e D (σ.put f.1 ⟨(σ.mem f.1).nm, p, (σ.mem f.1).v⟩) v1 v2 v3 v4 v5 te := h.fldPut hDf _ ⟨by
   rintro (h1 | h1 | h1)
   ·exact q1 h1
   ·omega
   ·omega, hsh, hgd, htx, al, lr, cr, hrow1, (hP.next blk).wide S2_old⟩ hk1 S2_old (S2_lt hg1 hg2 hc1 hc2)
  have hb1 : BkAt e D w1 (S2 S g1 g2) 191 #[.pointer (some ⟨g1, 0, none⟩), .pointer (some ⟨g2, 0, none⟩)] (invW [.rl f.1 p] σ) := .rl g1 g2 f.1 _ fa fl fc (Or.inr (Or.inl rfl)) (Or.inr (Or.inr rfl)) hc1 hc2 ((r2.next blk).wide S2_old) q2 q3 q4 hDf
  have hst := settleS (σ := σ.put f.1 ⟨(σ.mem f.1).nm, p, (σ.mem f.1).v⟩) (b := f.1) (σ0 := σ) (ws0 := [.rl f.1 p]) i _ _ hp1 rfl hb1 (by show σ.ord.length ≤ 100; omega) ho1 hnd
  rw [put_fs i hnd ho1, put_mem] at hst
  refine hst.mono fun r w' hr => ?_
  rw [hmem]
  exact (hr.lift S2_old (fun q hq => (S2_new hg1 hg2 hc1 hc2 q hq).imp id fun h => h.1) (fun _ h => h) (fun _ h => Or.inl h) (hk1.wide fun q hq => Or.inr (by rw [show q = f.1 from hq]; exact hDf)) (fun _ _ => rfl) rfl h.sub).shape
 | none =>
  rw [findIdx_none hf]
  simp only [List.length_map]
  by_cases hten : σ.fs.length = 10
  ·rw [if_pos hten]
   refine (setFull e c a σ.fs x p al lr cr w hs (row6 hrow).1.1 hel hten hf).mono ?_
   rintro r w' ⟨rfl, hb⟩
   exact ⟨none, 0, S, ⟨fun _ h => h, fun _ h => Or.inl h, fun _ h => h, fun _ h => Or.inl h, Ks.of hb, World.ownsRow_nil _ _ _ _, fun q hq => by simp [Value.ownBlock] at hq⟩, rfl, h.next hb⟩
  ·rw [if_neg hten]
   refine (setFresh e c a σ.fs x p al lr cr v1 v2 v3 v4 v5 te w (fun an ln cn bk er w' => EdPost S e D σ v1 v2 v3 v4 v5 te (settleA (σ.fs.map Prod.snd ++ [⟨x, p, (0, 0)⟩]) σ.fs.length ⟨x, p, (0, 0)⟩) w (.returned (.tuple #[.slice an ln cn, bk, .int .i64 er])) w') hs hrow (by omega) (fun f hf' e' => ?_) h.eS hac hP hsh hgd htx hf ?_).mono (by
    rintro r w' ⟨an, ln, cn, bk, er, rfl, hq⟩
    exact hq)
   ·obtain ⟨q, hq, rfl⟩ := List.mem_map.1 hf'
    exact h.eD (e' ▸ h.sub q hq)
   ·intro b g cap g1 g2 w3 hW
    have hbD : ∀ q, D q → q ≠ b := fun q hq e' => by have := (h.fld q hq).lt; have := hW.hb; omega
    have hk3 := hW.ks
    have blk : ∀ q, S q → w3.heap[q]? = w.heap[q]? := fun q hq => hk3.block q (h.still q hq) (fun e' => h.eS (e' ▸ hq))
    have hgc : ∃ cc t z, w3.heap[g]? = some (.cells cc t z) := by
     obtain ⟨g', o, e', _, h3⟩ := hW.sh.ptr 0 (by simp)
     cases e'
     unfold World.cell? at h3
     cases hh : w3.heap[g]? with
     | none => rw [hh] at h3; simp at h3
     | some ob =>
      rw [hh] at h3
      cases ob <;> simp at h3
      exact ⟨_, _, _, rfl⟩
    have hS3 : ∀ q, (S2 S g1 g2 q ∨ q = g) → S q ∨ (w.heap.size ≤ q ∧ ∃ c t z, w3.heap[q]? = some (.cells c t z)) := by
     rintro q (hq | rfl)
     ·exact S2_new hW.hg1 hW.hg2 hW.hc1 hW.hc2 q hq
     ·exact Or.inr ⟨hW.hg, hgc⟩
    have hlt : ∀ q, (S2 S g1 g2 q ∨ q = g) → q < w3.heap.size := fun q hq => by
     rcases hS3 q hq with h1 | ⟨_, _, _, _, h1⟩
     ·exact Nat.lt_of_lt_of_le (h.still q h1) hk3.size
     ·exact (Array.getElem?_eq_some_iff.1 h1).1
    have hbF := hW.sh.fld (b, ⟨x, p, (0, 0)⟩) (by simp)
    obtain ⟨fa, fl, fc, hbr, _⟩ := hbF.open
    have hne : ∀ q c t, w3.heap[q]? = some (.cells c t (0, 0)) → t ≠ 223 → q ≠ b := fun q c t hq ht e' => by
     rw [e', hbr] at hq
     simp at hq
     exact ht hq.2.symm
    have hSb : ¬ (S2 S g1 g2 b ∨ b = g) := by
     rintro ((h1 | h1 | h1) | h1)
     ·exact hbF.1 (Or.inl h1)
     ·exact hne g1 _ _ hW.hc1 (by decide) h1.symm
     ·exact hne g2 _ _ hW.hc2 (by decide) h1.symm
     ·exact hbF.1 (Or.inr h1)
    have hp3 : PhS w3 (fun q => S2 S g1 g2 q ∨ q = g) e (fun q => D q ∨ q = b) ⟨σ.ord ++ [b], (σ.put b ⟨x, p, (0, 0)⟩).mem⟩ v1 v2 v3 v4 v5 te := by
     refine ⟨hlt, fun hq => ?_, fun hq => ?_, fun q hq => ?_, fun q hq => ?_, some ⟨g, 0, none⟩, cap, fun j hj => ?_, by simpa [hfl] using hW.cp, fun h => (by cases h), ?_⟩
     ·rcases hS3 e hq with h1 | h1
      ·exact h.eS h1
      ·omega
     ·rcases hq with h1 | h1
      ·exact h.eD h1
      ·have := hW.hb; omega
     ·by_cases e' : q = b
      ·subst e'
       rw [show (⟨σ.ord ++ [q], (σ.put q ⟨x, p, (0, 0)⟩).mem⟩ : Sta).mem q = (σ.put q ⟨x, p, (0, 0)⟩).mem q from rfl, put_mem]
       refine hbF.more ?_ hSb
       rintro k (h1 | h1)
       ·exact Or.inl (Or.inl h1)
       ·exact Or.inr h1
      ·have hq' : D q := hq.resolve_right e'
       rw [show (⟨σ.ord ++ [b], (σ.put b ⟨x, p, (0, 0)⟩).mem⟩ : Sta).mem q = (σ.put b ⟨x, p, (0, 0)⟩).mem q from rfl, put_mem_ne _ _ _ _ e']
       refine ((h.fld q hq').stays (hk3.block q (h.fld q hq').lt fun e' => h.eD (e' ▸ hq')) blk).more (fun k hk => Or.inl (Or.inl hk)) fun h1 => ?_
       rcases hS3 q h1 with h2 | h2
       ·exact (h.fld q hq').1 h2
       ·have := (h.fld q hq').lt; omega
     ·rcases List.mem_append.1 hq with h1 | h1
      ·exact Or.inl (h.sub q h1)
      ·exact Or.inr (by simpa using h1)
     ·have hj' : j < (σ.fs ++ [(b, (⟨x, p, (0, 0)⟩ : Fd))]).length := by simpa [hfl] using hj
      obtain ⟨g', o, e', _, h3⟩ := hW.sh.ptr j hj'
      cases e'
      refine ⟨g, 0, rfl, Or.inr rfl, ?_⟩
      have e2 : ((σ.fs ++ [(b, (⟨x, p, (0, 0)⟩ : Fd))])[j]).1 = (σ.ord ++ [b])[j] := by
       have : ((σ.fs ++ [(b, (⟨x, p, (0, 0)⟩ : Fd))]).map Prod.fst) = σ.ord ++ [b] := by simp [fs_fst]
       rw [← List.getElem_map Prod.fst]
       simp only [this]
       exact (by simpa using hj')
      rw [e2] at h3
      exact h3
     ·have := hW.row
      rw [hfl] at this
      simpa using this
    have hb3 : BkAt e (fun q => D q ∨ q = b) w3 (fun q => S2 S g1 g2 q ∨ q = g) 192 #[.pointer (some ⟨g1, 0, none⟩), .pointer (some ⟨g2, 0, none⟩)] (invW [.ord (σ.ord ++ [b])] (σ.put b ⟨x, p, (0, 0)⟩)) := by
     obtain ⟨a0, c0, k1, k2, k3, k4⟩ := h.row
     have hc2 := hW.hc2
     rw [hfl] at hc2 hrow
     have hac0 : a = a0 ∧ c = c0 := by
      rw [k4] at hrow
      simp at hrow
      exact ⟨hrow.1.symm, hrow.2.symm⟩
     obtain ⟨rfl, rfl⟩ := hac0
     exact .ord g1 g2 a c σ.ord (Or.inl (Or.inr (Or.inl rfl))) (Or.inl (Or.inr (Or.inr rfl))) hW.hc1 hc2 ((k1.next blk).wide fun q hq => Or.inl (Or.inl hq)) k2 k3 fun q hq => Or.inl (h.sub q hq)
    have hbo : b ∉ σ.ord := fun hb => hbD b (h.sub b hb) rfl
    have hst := settleS (σ := ⟨σ.ord ++ [b], (σ.put b ⟨x, p, (0, 0)⟩).mem⟩) (b := b) (σ0 := σ.put b ⟨x, p, (0, 0)⟩) (ws0 := [.ord (σ.ord ++ [b])]) σ.ord.length _ _ hp3 rfl hb3 (by simp; omega) (by simp) (by
     rw [List.nodup_append]
     refine ⟨hnd, by simp, fun q hq r hr => ?_⟩
     simp at hr
     rw [hr]
     exact fun e' => hbo (e' ▸ hq))
    have e3 : (⟨σ.ord ++ [b], (σ.put b ⟨x, p, (0, 0)⟩).mem⟩ : Sta).fs.map Prod.snd = σ.fs.map Prod.snd ++ [⟨x, p, (0, 0)⟩] := by
     unfold Sta.fs
     simp only [List.map_append, List.map_map, List.map_cons, List.map_nil, put_mem]
     congr 1
     refine List.map_congr_left fun q hq => ?_
     simp only [Function.comp]
     exact put_mem_ne _ _ _ _ fun e' => hbo (e' ▸ hq)
    rw [e3, show (⟨σ.ord ++ [b], (σ.put b ⟨x, p, (0, 0)⟩).mem⟩ : Sta).mem b = ⟨x, p, (0, 0)⟩ from put_mem _ _ _, ← hfl] at hst
    refine hst.mono fun r w' hr => ?_
    refine (hr.lift (S := S) (D := D) (σ := σ) (w := w) (fun q hq => Or.inl (Or.inl hq)) (fun q hq => (hS3 q hq).imp id fun h => h.1) (fun q hq => Or.inl hq) (fun q hq => hq.imp id fun e' => by rw [e']; exact hW.hb) (hk3.wide fun q hq => Or.inl hq) (fun q hq => put_mem_ne _ _ _ _ (hbD q hq)) rfl h.sub).shape
end
end Go.Proofs.YtihgojcfpnhelaaGreatDoor
