import Derived.Test.YtihgojcfpnhelabGreatDoorS2Jq
set_option maxRecDepth 100000
set_option maxHeartbeats 4000000
set_option linter.unusedVariables false
set_option linter.unusedSimpArgs false
namespace Go.Proofs.YtihgojcfpnhelabGreatDoor
open Go.RowKit
section
theorem ln_tok (s : By) (p : Nat) (hl : s.length ≤ 120) (h : (toksOf s).2 = some p) : IsLn s (.err 0 2 p) := isLn (show (_ : Int) ≠ 0 by decide) (Or.inr (Or.inl ⟨hl, p, h, rfl⟩))
theorem ln_no (s : By) (p : Nat) (hl : s.length ≤ 120) (ht : (toksOf s).2 = none) (hk : ∀ k (h : k < 12), (headsW[k]'h).1 ≠ nT (toksOf s).1 0) (hp : pAt s.length (toksOf s).1 0 = p) : IsLn s (.err 0 3 p) :=
 isLn (show (_ : Int) ≠ 0 by decide) (Or.inr (Or.inr ⟨hl, (toksOf s).1, Prod.ext rfl ht, Or.inr ⟨hk, by rw [hp]; rfl⟩⟩))
theorem ln_set1 (s : By) (p : Nat) (hl : s.length ≤ 120) (ht : (toksOf s).2 = none) (h0 : [115, 101, 116] = nT (toksOf s).1 0) (h1 : kN (toksOf s).1 1 ≠ 2) (hp : pAt s.length (toksOf s).1 1 = p) : IsLn s (.err 1 3 p) :=
 isLn (show (_ : Int) ≠ 0 by decide) (Or.inr (Or.inr ⟨hl, (toksOf s).1, Prod.ext rfl ht, Or.inl ⟨0, by decide, h0, Or.inl ⟨0, by decide, fun i hi => absurd hi (Nat.not_lt_zero i), h1, by rw [← hp]; rfl⟩⟩⟩))
theorem ln_set2 (s : By) (er : Int) (p : Nat) (hl : s.length ≤ 120) (ht : (toksOf s).2 = none) (h0 : [115, 101, 116] = nT (toksOf s).1 0) (h1 : kN (toksOf s).1 1 = 2) (h2 : kN (toksOf s).1 2 = 18) (hr : runB s.length 400 [symB 82 0] ((toksOf s).1.drop 3) = some (er, p)) (he : er ≠ 0) : IsLn s (.err 1 er p) :=
 isLn he (Or.inr (Or.inr ⟨hl, (toksOf s).1, Prod.ext rfl ht, Or.inl ⟨0, by decide, h0, Or.inr ⟨fun i hi => by obtain rfl : i = 0 := Nat.lt_one_iff.1 hi; exact h1, Or.inr (Or.inr (Or.inr ⟨rfl, h2, er, p, 400, by decide, hr, Or.inl ⟨he, rfl⟩⟩))⟩⟩⟩))
theorem ln_tail (s : By) (p : Nat) (hl : s.length ≤ 120) (ht : (toksOf s).2 = none) (h0 : [117, 110, 100, 111] = nT (toksOf s).1 0) (h1 : kN (toksOf s).1 1 ≠ 0) (hp : pAt s.length (toksOf s).1 1 = p) : IsLn s (.err 7 3 p) :=
 isLn (show (_ : Int) ≠ 0 by decide) (Or.inr (Or.inr ⟨hl, (toksOf s).1, Prod.ext rfl ht, Or.inl ⟨6, by decide, h0, Or.inr ⟨fun i hi => absurd hi (Nat.not_lt_zero i), Or.inl ⟨rfl, h1, by rw [← hp]; rfl⟩⟩⟩⟩))
theorem nm_1 : ∀ c : Fin 26, kindB [UInt8.ofNat (97 + c.1)] = 2 ∧ nmB [UInt8.ofNat (97 + c.1)] = [UInt8.ofNat (97 + c.1)] ∧ isL (UInt8.ofNat (97 + c.1)) = true := by decide +kernel
theorem nm_let (c : Fin 26) : NmOk [UInt8.ofNat (97 + c.1)] := nmOk_w ⟨by simp, fun y hy => by rw [List.mem_singleton.1 hy]; exact (nm_1 c).2.2, by simp⟩ (nm_1 c).1 (nm_1 c).2.1
theorem nm_a : NmOk [97] := nm_let 0
theorem nm_c : NmOk [99] := nm_let 2
theorem nm_d : NmOk [100] := nm_let 3
theorem nm_m : NmOk [109] := nm_let 12
theorem nmo_l (c : UInt8) : NmO [c] := ⟨by simp, by simp⟩
def fmL : List (By × Ln × Int × Int) :=
 [([], .err 0 3 0, 3, 0),
  ([32, 32], .err 0 3 2, 3, 2),
  ([65], .err 0 2 0, 2, 0),
  ([119, 104, 97, 116], .err 0 3 0, 3, 0),
  ([115, 101, 116], .err 1 3 3, 3, 3),
  ([115, 101, 116, 32, 105, 102, 32, 61, 32, 50], .err 1 3 4, 3, 4),
  ([115, 101, 116, 32, 97, 32, 61], .err 1 3 7, 3, 7),
  ([115, 101, 116, 32, 97, 32, 61, 32, 49, 32, 50], .err 1 3 10, 3, 10),
  ([115, 101, 116, 32, 97, 32, 61, 32, 36], .err 0 2 8, 2, 8),
  ([115, 101, 116, 32, 97, 32, 61, 32, 41], .err 1 3 8, 3, 8),
  ([115, 101, 116, 32, 97, 32, 61, 32, 40, 40, 40, 40, 40, 40, 45, 49], .err 1 4 14, 4, 14),
  ([115, 101, 116, 32, 97, 32, 61, 32, 110, 111, 116, 32, 110, 111, 116, 32, 110, 111, 116, 32, 110, 111, 116, 32, 110, 111, 116, 32, 110, 111, 116, 32, 110, 111, 116, 32, 49], .err 1 4 32, 4, 32),
  ([100, 101, 108, 101, 116, 101, 32, 99], .del [99], 5, 0),
  ([118, 97, 108, 117, 101, 32, 99], .value [99], 5, 0),
  ([114, 117, 108, 101, 32, 99], .rule [99], 5, 0),
  ([114, 101, 110, 97, 109, 101, 32, 99, 32, 100], .ren [99] [100], 5, 0),
  ([114, 101, 110, 97, 109, 101, 32, 97, 32, 109], .ren [97] [109], 6, 0),
  ([114, 101, 110, 97, 109, 101, 32, 97, 32, 97], .ren [97] [97], 6, 0),
  ([99, 111, 109, 109, 105, 116], .commit, 10, 0),
  ([99, 97, 110, 99, 101, 108], .cancel, 10, 0),
  ([114, 101, 100, 111], .redo, 11, 0),
  ([117, 110, 100, 111, 32, 49], .err 7 3 5, 3, 5)]
theorem fm_read : ∀ x, x ∈ fmL → IsLn x.1 x.2.1 := by
 intro x hx
 simp only [fmL, List.mem_cons, List.not_mem_nil, or_false] at hx
 rcases hx with rfl | rfl | rfl | rfl | rfl | rfl | rfl | rfl | rfl | rfl | rfl | rfl | rfl | rfl | rfl | rfl | rfl | rfl | rfl | rfl | rfl | rfl
 ·exact ln_no [] 0 (by decide) (by decide +kernel) (by decide +kernel) (by decide +kernel)
 ·exact ln_no [32, 32] 2 (by decide) (by decide +kernel) (by decide +kernel) (by decide +kernel)
 ·exact ln_tok [65] 0 (by decide) (by decide +kernel)
 ·exact ln_no [119, 104, 97, 116] 0 (by decide) (by decide +kernel) (by decide +kernel) (by decide +kernel)
 ·exact ln_set1 [115, 101, 116] 3 (by decide) (by decide +kernel) (by decide +kernel) (by decide +kernel) (by decide +kernel)
 ·exact ln_set1 [115, 101, 116, 32, 105, 102, 32, 61, 32, 50] 4 (by decide) (by decide +kernel) (by decide +kernel) (by decide +kernel) (by decide +kernel)
 ·exact ln_set2 [115, 101, 116, 32, 97, 32, 61] 3 7 (by decide) (by decide +kernel) (by decide +kernel) (by decide +kernel) (by decide +kernel) (by decide +kernel) (by decide)
 ·exact ln_set2 [115, 101, 116, 32, 97, 32, 61, 32, 49, 32, 50] 3 10 (by decide) (by decide +kernel) (by decide +kernel) (by decide +kernel) (by decide +kernel) (by decide +kernel) (by decide)
 ·exact ln_tok [115, 101, 116, 32, 97, 32, 61, 32, 36] 8 (by decide) (by decide +kernel)
 ·exact ln_set2 [115, 101, 116, 32, 97, 32, 61, 32, 41] 3 8 (by decide) (by decide +kernel) (by decide +kernel) (by decide +kernel) (by decide +kernel) (by decide +kernel) (by decide)
 ·exact ln_set2 [115, 101, 116, 32, 97, 32, 61, 32, 40, 40, 40, 40, 40, 40, 45, 49] 4 14 (by decide) (by decide +kernel) (by decide +kernel) (by decide +kernel) (by decide +kernel) (by decide +kernel) (by decide)
 ·exact ln_set2 [115, 101, 116, 32, 97, 32, 61, 32, 110, 111, 116, 32, 110, 111, 116, 32, 110, 111, 116, 32, 110, 111, 116, 32, 110, 111, 116, 32, 110, 111, 116, 32, 110, 111, 116, 32, 49] 4 32 (by decide) (by decide +kernel) (by decide +kernel) (by decide +kernel) (by decide +kernel) (by decide +kernel) (by decide)
 ·exact isLn_delete _ nm_c (nmo_l _)
 ·exact isLn_value _ nm_c (nmo_l _)
 ·exact isLn_rule _ nm_c (nmo_l _)
 ·exact isLn_ren _ _ nm_c nm_d (nmo_l _) (nmo_l _)
 ·exact isLn_ren _ _ nm_a nm_m (nmo_l _) (nmo_l _)
 ·exact isLn_ren _ _ nm_a nm_a (nmo_l _) (nmo_l _)
 ·exact isLn_commit
 ·exact isLn_cancel
 ·exact isLn_redo
 ·exact ln_tail [117, 110, 100, 111, 32, 49] 5 (by decide) (by decide +kernel) (by decide +kernel) (by decide +kernel) (by decide +kernel)
end
section
variable {a b : Ab} {fs fs' : List Fd} {x y : By} {p : Pt} {nms : List By} {f : Fd} {M : Nat} {P : List (List Fd)}
theorem set_self (hG : GF fs) (hsh : Shape p) (hx : x ∈ fs.map fun g => g.nm) (hm : mentP x p = true) : ∃ nm, setA fs x p = .err 8 nm := by
 have hno : ∀ fs' nm, setA fs x p ≠ .ok fs' nm := fun fs' nm he => by
  obtain ⟨h1, h2⟩ := setA_right hG hsh he
  have hmem : (x, p) ∈ fs'.map fun g => (g.nm, g.p) := by
   rcases h2 with ⟨A, f, B, _, _, hp⟩ | ⟨_, _, hp⟩
   ·exact hp.mem_iff.2 (by simp)
   ·exact hp.mem_iff.2 (by simp)
  obtain ⟨f, hf, he⟩ := List.mem_map.1 hmem
  simp only [Prod.mk.injEq] at he
  have hq0 : f ∈ (enumF fs').map Prod.snd := by rw [enumF_snd]; exact hf
  obtain ⟨q, hq, rfl⟩ := List.mem_map.1 hq0
  have := h1.topo.2 q hq
  unfold NM at this
  rw [he.1, he.2, hm] at this
  cases this
 unfold setA at hno ⊢
 cases hf : fs.findIdx? (fun f => f.nm == x) with
 | none =>
  obtain ⟨g, hg, he⟩ := List.mem_map.1 hx
  have := List.findIdx?_eq_none_iff.1 hf g hg
  simp [he] at this
 | some i =>
  obtain ⟨hi, _⟩ := List.findIdx?_eq_some_iff_getElem.1 hf
  rw [hf] at hno
  simp only [List.getElem?_eq_getElem hi] at hno ⊢
  unfold settleA at hno ⊢
  split
  ·rename_i gs hgs
   rw [hgs] at hno
   exact absurd rfl (hno _ _)
  ·exact ⟨_, rfl⟩
theorem arB_has (hok : FsOk fs) (hx : ¬ Few x) (hm : x ∈ fs.map fun g => g.nm) (r : By) (he : arB fs r = .ok fs' nms) : FsOk fs' ∧ x ∈ fs'.map fun g => g.nm := by
 have f1 := few_fewB (nextB r 8).2
 have f2 := few_fewB (fewB (nextB r 8).2).2
 obtain ⟨f, hf, rfl⟩ := List.mem_map.1 hm
 have out : ∀ q : By × Pt, q.1 = f.nm → q ∈ fs'.map (fun g => (g.nm, g.p)) → f.nm ∈ fs'.map fun g => g.nm := fun q hq hq2 => by
  obtain ⟨g, hg, rfl⟩ := List.mem_map.1 hq2
  exact List.mem_map.2 ⟨g, hg, hq⟩
 unfold arB at he
 split at he
 ·refine ⟨hok.del he, ?_⟩
  obtain ⟨_, A, g, B, rfl, e, hp⟩ := delA_right hok.gf he
  refine out (f.nm, f.p) rfl ?_
  rw [hp]
  refine List.mem_map.2 ⟨f, ?_, rfl⟩
  simp only [List.mem_append, List.mem_cons] at hf ⊢
  rcases hf with h | rfl | h
  ·exact Or.inl h
  ·exact absurd (e ▸ f1) hx
  ·exact Or.inr h
 ·split at he
  ·have hy : NmO (fewB (fewB (nextB r 8).2).2).1 := by rw [fewB_fN]; exact fN_o _
   refine ⟨hok.ren hy he, ?_⟩
   obtain ⟨_, _, _, hp⟩ := renA_right hok.gf (fun f hf => (hok.nmo f hf).1) hy.1 he
   refine out ((renF (fewB (nextB r 8).2).1 (fewB (fewB (nextB r 8).2).2).1 f).nm, (renF (fewB (nextB r 8).2).1 (fewB (fewB (nextB r 8).2).2).1 f).p) ?_ ?_
   ·show (if f.nm = _ then _ else f.nm) = f.nm
    rw [if_neg fun e => hx (by rw [show f.nm = _ from e]; exact f1)]
   ·rw [hp.mem_iff, List.map_map]
    exact List.mem_map.2 ⟨f, hf, rfl⟩
  ·obtain ⟨_, _, _, h4⟩ := rlP_facts (nextB (fewB (nextB r 8).2).2 3).1 (nextB (fewB (nextB r 8).2).2 3).2
   obtain ⟨ts, _, hD⟩ := h4 _ 0 (Nat.le_refl _)
   refine ⟨hok.set hD.shape (by rw [fewB_fN]; exact fN_o _) he, ?_⟩
   rcases (setA_right hok.gf hD.shape he).2 with ⟨A, g, B, rfl, e, hp⟩ | ⟨_, _, hp⟩
   ·refine out (f.nm, f.p) rfl ?_
    rw [hp.mem_iff]
    refine List.mem_map.2 ⟨f, ?_, rfl⟩
    simp only [List.mem_append, List.mem_cons] at hf ⊢
    rcases hf with h | rfl | h
    ·exact Or.inl h
    ·exact absurd (e ▸ f1) hx
    ·exact Or.inr (Or.inr h)
   ·refine out (f.nm, f.p) rfl ?_
    rw [hp.mem_iff]
    exact List.mem_map.2 ⟨f, by simp [hf], rfl⟩
theorem eds_has (S : Nat → By) (hg : a.grp = none) (hok : FsOk a.fs) (hx : ¬ Few x) (hm : x ∈ a.fs.map fun g => g.nm) : ∀ n, FsOk (edsA a S n).fs ∧ x ∈ (edsA a S n).fs.map fun g => g.nm
 | 0 => ⟨hok, hm⟩
 | n + 1 => by
  obtain ⟨h1, h2⟩ := eds_has S hg hok hx hm n
  have hgn := edsA_grp S hg n
  show FsOk (lnA (edsA a S n) (lnB (S n))).2.fs ∧ x ∈ (lnA (edsA a S n) (lnB (S n))).2.fs.map fun g => g.nm
  rw [lnA_arB]
  cases har : arB (edsA a S n).fs (S n) with
  | ok fs' nm =>
   have := arB_has h1 hx h2 _ har
   simpa [edR, editA, doneA, hgn] using this
  | err c nm => simpa [edR, editA, failA, hgn] using And.intro h1 h2
def nP (c : UInt8) : Pt := .atom 2 [c] 0
def fmF : List Fd := [⟨[97], nP 98, (3, 3)⟩, ⟨[109], nP 97, (3, 3)⟩]
theorem fm_s1 : setA [] [97] (nP 98) = .ok [⟨[97], nP 98, (3, 3)⟩] [[97]] := by rfl
theorem fm_s2 : setA [⟨[97], nP 98, (3, 3)⟩] [109] (nP 97) = .ok fmF [[109]] := by rfl
theorem nP_shape (c : UInt8) : Shape (nP c) := by simp [nP, Shape]
theorem fm_ok : FsOk fmF := (fsOk_nil.set (nP_shape 98) (nmo_l 97) fm_s1).set (nP_shape 97) (nmo_l 109) fm_s2
theorem isLn_nm (x y : Fin 26) : IsLn (setN [UInt8.ofNat (97 + x.1)] [UInt8.ofNat (97 + y.1)]) (.set [UInt8.ofNat (97 + x.1)] (nP (UInt8.ofNat (97 + y.1)))) := by
 have key : ∀ y : Fin 26, toks 3 [UInt8.ofNat (97 + y.1)] 8 = ([([UInt8.ofNat (97 + y.1)], 8)], none) ∧ headD [UInt8.ofNat (97 + y.1)] = false ∧ nameB [UInt8.ofNat (97 + y.1)] = true ∧ nuB [UInt8.ofNat (97 + y.1)] = 0 ∧ (txt (nP (UInt8.ofNat (97 + y.1)))).length ≤ 100 := by decide +kernel
 obtain ⟨h1, h2, h3, h4, h5⟩ := key y
 refine isLn_set (nm_let x) (nmo_l _) (by simp) h1 ?_ (by simp [nP, opn]) h5
 have h := der1 [UInt8.ofNat (97 + y.1)] 2 8 (Or.inr (Or.inl ⟨h2, h3, rfl⟩)) (by omega)
 rw [(nm_1 y).2.1, h4] at h
 exact h
def fmI : Pt := .ifs (dgP 1) (dgP 2) (nP 109)
theorem isLn_if : IsLn [115, 101, 116, 32, 97, 32, 61, 32, 105, 102, 40, 49, 44, 32, 50, 44, 32, 109, 41] (.set [97] fmI) := by
 have d1 := RIp.one [49] 1 (Or.inr (Or.inr (Or.inl ⟨49, rfl, by decide⟩))) (by decide) (Or.inl ⟨by decide, rfl⟩) (by omega) (by decide +kernel)
 have d2 := RIp.one [50] 1 (Or.inr (Or.inr (Or.inl ⟨50, rfl, by decide⟩))) (by decide) (Or.inl ⟨by decide, rfl⟩) (by omega) (by decide +kernel)
 have d3 := RIp.one [109] 2 (gword ⟨by simp, by decide, by simp⟩) (by decide) (Or.inr (Or.inl ⟨by decide, by decide, rfl⟩)) (by omega) (by decide +kernel)
 have h := (RIp.ifs (d1.up 1 (by decide) (by decide) (by decide)) (d2.up 1 (by decide) (by decide) (by decide)) (d3.up 1 (by decide) (by decide) (by decide))).up 1 (by decide) (by decide) (by decide)
 obtain ⟨ts, ht, hD⟩ := h.reads 13 8 (by decide)
 exact isLn_set (rest := [105, 102, 40, 49, 44, 32, 50, 44, 32, 109, 41]) nm_a (nmo_l 97) (by decide) ht hD (by decide) (by decide +kernel)
theorem edR_8 {ar : AR} (hc : ar.code = 8) (hg : a.grp = none) : edR a ar = (⟨8, 0, [], ar.names, 0, 0⟩, a) := by
 cases ar with
 | ok fs n => simp [AR.code] at hc
 | err c n =>
  have hc' : c = 8 := hc
  subst hc'
  simp [edR, editA, failA, hg, AR.code]
def fmC : List (By × Ln) := [([115, 101, 116, 32, 99, 32, 61, 32, 99], .set [99] (nP 99)), ([114, 101, 110, 97, 109, 101, 32, 109, 32, 98], .ren [109] [98]), ([115, 101, 116, 32, 97, 32, 61, 32, 109], .set [97] (nP 109)), ([115, 101, 116, 32, 97, 32, 61, 32, 105, 102, 40, 49, 44, 32, 50, 44, 32, 109, 41], .set [97] fmI)]
theorem fc_read : ∀ x, x ∈ fmC → IsLn x.1 x.2 := by
 intro x hx
 simp only [fmC, List.mem_cons, List.not_mem_nil, or_false] at hx
 rcases hx with rfl | rfl | rfl | rfl
 ·exact isLn_nm 2 2
 ·exact isLn_ren _ _ nm_m (nm_let 1) (nmo_l _) (nmo_l _)
 ·exact isLn_nm 0 12
 ·exact isLn_if
theorem fc_ans : ∀ x, x ∈ fmC → ∃ nm, nm ≠ [] ∧ lnA ⟨M, fmF, P, [], none⟩ x.2 = (⟨8, 0, [], nm, 0, 0⟩, ⟨M, fmF, P, [], none⟩) := by
 intro x hx
 simp only [fmC, List.mem_cons, List.not_mem_nil, or_false] at hx
 rcases hx with rfl | rfl | rfl | rfl
 ·exact ⟨_, by decide +kernel, edR_8 (ar := setA fmF [99] (nP 99)) (by decide +kernel) rfl⟩
 ·exact ⟨_, by decide +kernel, edR_8 (ar := renA fmF [109] [98]) (by decide +kernel) rfl⟩
 ·exact ⟨_, by decide +kernel, edR_8 (ar := setA fmF [97] (nP 109)) (by decide +kernel) rfl⟩
 ·exact ⟨_, by decide +kernel, edR_8 (ar := setA fmF [97] fmI) (by decide +kernel) rfl⟩
theorem fm_ans : ∀ x, x ∈ fmL → lnA ⟨M, fmF, P, [], none⟩ x.2.1 = (⟨x.2.2.1, x.2.2.2, [], [], 0, 0⟩, ⟨M, fmF, P, [], none⟩) := by
 intro x hx
 simp only [fmL, List.mem_cons, List.not_mem_nil, or_false] at hx
 rcases hx with rfl | rfl | rfl | rfl | rfl | rfl | rfl | rfl | rfl | rfl | rfl | rfl | rfl | rfl | rfl | rfl | rfl | rfl | rfl | rfl | rfl | rfl <;> rfl
theorem fm_val : valA fmF [109] = (0, 3, 3) := rfl
end
section
variable {fs fs' : List Fd} {x y : By} {p : Pt} {nms : List By} {W0 w : World} {T : Nat → Prop} {E : List En} {i : Nat}
def zz : By := [122, 122]
end
section
attribute [local go_sem] idx_eq app_eq
variable {W0 w w' W w1 w2 : World} {T T' : Nat → Prop} {e k i : Nat} {a a' : Ab} {s : By} {l : Ln} {fs fs' : List Fd} {nm : List By}
theorem oneE (n : Nat) {er at_ kd nn : Int} {tx : By} (h : Sts W0 T [⟨e, 0, a⟩] w) (hE : Env W0) (hL : EnvL W0) (hl : IsLn s l) (hr : lnA a l = (⟨er, at_, tx, nm, kd, nn⟩, a')) (hn : nm.length = n) (hg : a'.grp = none) :
  Calls Tryz.prog 8 #[.pointer (some ⟨e, 0, none⟩), .string ⟨s.toArray⟩] w fun r w' => ∃ bn cn, r = .returned (.agg #[.int .i64 er, .int .i64 at_, .string ⟨tx.toArray⟩, .slice bn n cn, .int .i64 kd, .int .i64 nn]) ∧ w'.ownsRow w.heap.size 9 1 (.slice bn n cn) n (strs nm) ∧ Lv W0 T [⟨e, 0, a'⟩] w w' ∧ Sts W0 (fun q => T q ∨ (Value.slice bn n cn).ownBlock = some q) [⟨e, 0, a'⟩] w' := by
 subst hn
 refine (Sts.doB (E := [⟨e, 0, a⟩]) (i := 0) 0 h hE hL (by simp) (by simp) hl hr (Or.inr hg)).mono ?_
 rintro r w' ⟨bn, cn, rfl, h2, h3, h4⟩
 exact ⟨bn, cn, rfl, h2, ⟨h3, h4.less fun q hq => Or.inl hq⟩, h4⟩
theorem oneD {tx : By} {kd nn : Int} (h : Sts W0 T [⟨e, 0, a⟩] w) (hE : Env W0) (hL : EnvL W0) (hl : IsLn s l) (hr : lnA a l = (⟨0, 0, tx, nm, kd, nn⟩, a')) (hg : a'.grp = none) :
  Calls Tryz.prog 6 #[.pointer (some ⟨e, 0, none⟩), .string ⟨s.toArray⟩] w fun r w' => r = .returned (.bool true) ∧ Lv W0 T [⟨e, 0, a'⟩] w w' :=
 Sts.doesA (E := [⟨e, 0, a⟩]) (i := 0) 0 h hE hL (by simp) (by simp) hl hr (Or.inr hg) rfl rfl
theorem oneT (h : Sts W0 T [⟨e, 0, a⟩] w) (hE : Env W0) (hL : EnvL W0) (hg : a.grp = none) :
  Calls Tryz.prog 7 #[.pointer (some ⟨e, 0, none⟩)] w fun r w' => r = .returned (.string ⟨(lsA a.fs).toArray⟩) ∧ Lv W0 T [⟨e, 0, a⟩] w w' :=
 Sts.toldA (E := [⟨e, 0, a⟩]) (i := 0) h hE hL (by simp) (by simp) hg
theorem Lv.add1 {A : Ab} {o : Obj} (h : Lv W0 T [⟨e, 0, A⟩] w w1) : Sts W0 (fun q => T q ∨ q = w1.heap.size) [⟨e, 0, A⟩] (w1.alloc o) :=
 (h.2.grow (bZ _)).less fun q hq => hq.imp_right fun h => by subst h; exact ⟨Nat.le_refl _, by simp⟩
end
end Go.Proofs.YtihgojcfpnhelabGreatDoor
