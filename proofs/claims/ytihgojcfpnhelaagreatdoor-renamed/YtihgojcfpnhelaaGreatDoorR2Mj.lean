import Derived.Test.YtihgojcfpnhelaaGreatDoorR2Kd
import Derived.Test.YtihgojcfpnhelaaGreatDoorR2Mq
import Derived.Test.YtihgojcfpnhelaaGreatDoorR2Xba
import Derived.Lib.SliceRun
import Derived.Lib.Walk
import Derived.Deep.Cut
import Derived.Deep.DeepCutAuto
import Derived.Deep.RegionWith
set_option maxRecDepth 100000
set_option maxHeartbeats 4000000
set_option linter.unusedVariables false
set_option linter.unusedSimpArgs false
namespace Go.Proofs.YtihgojcfpnhelaaGreatDoor
open Go.RowKit
section
theorem L_notD {c : UInt8} (h : isL c = true) : isD c = false := by
 simp only [isL, letB, decide_eq_true_eq] at h
 simp only [isD, digB, decide_eq_false_iff_not]
 omega
def GI (x : By) : Prop := x = [32] ∨ inB x signW = true ∨ (∃ d, x = [d] ∧ isD d = true) ∨ (x ≠ [] ∧ (∀ y, y ∈ x → isL y = true) ∧ x.length ≤ 6) ∨ (∃ d, x = [102, d] ∧ isD d = true)
theorem GI.ti {x : By} (h : GI x) (hx : x ≠ [32]) : TI x := by
 rcases h with h | h | ⟨d, rfl, hd⟩ | ⟨h0, h1, h2⟩ | ⟨d, rfl, hd⟩
 ·exact absurd h hx
 ·simp only [inB, signW, List.contains_iff_mem, List.mem_cons, List.not_mem_nil, or_false] at h
  rcases h with rfl | rfl | rfl | rfl | rfl | rfl | rfl | rfl | rfl | rfl <;> exact ⟨_, [], rfl, by decide, by decide, fun _ y hy => by simp at hy, fun _ _ y hy => by simp at hy, fun _ _ => rfl⟩
 ·refine ⟨d, [], rfl, ?_, ?_, fun _ y hy => by simp at hy, fun _ _ y hy => by simp at hy, fun _ _ => rfl⟩
  ·rintro rfl
   revert hd; decide
  ·have := d.toNat_lt
   simp [tokOK, headD, hd, valD, top63]
   omega
 ·obtain ⟨c, r, rfl⟩ : ∃ c r, x = c :: r := by
   cases x with
   | nil => exact absurd rfl h0
   | cons c r => exact ⟨c, r, rfl⟩
  have hc := h1 c (by simp)
  refine ⟨c, r, rfl, ?_, ?_, fun _ y hy => isLD_L (h1 y (by simp [hy])), fun h => ?_, fun h => ?_⟩
  ·rintro rfl
   revert hc; decide
  ·simp only [List.length_cons] at h2
   simp [tokOK, headD, headL, hc, L_notD hc]
   omega
  ·rw [hc] at h; cases h
  ·rw [hc] at h; cases h
 ·refine ⟨102, [d], rfl, by decide, ?_, fun _ y hy => ?_, fun h => ?_, fun h => ?_⟩
  ·simp [tokOK, headD, headL, show isL 102 = true from by decide, show isD 102 = false from by decide]
  ·simp at hy
   rw [hy]
   exact isLD_D hd
  ·exact absurd h (by decide)
  ·exact absurd h (by decide)
def MF (p : Pt) : Prop := ∀ x, mentP x p = true → ∃ d, isD d = true ∧ x = [102, d]
def RI (n : Nat) (s : By) (m : Nat) : Prop := ∃ (its : List By) (p : Pt), its.flatten = s ∧ (∀ x, x ∈ its → GI x) ∧ (∀ rest, noLD rest → OkI its rest) ∧ Der (z0 (tks its)) n 0 (tks its).length p ∧ txt p = s ∧ opn p ≤ m ∧ MF p
def RIp (n : Nat) (s : By) (m : Nat) (p : Pt) : Prop := ∃ its : List By, its.flatten = s ∧ (∀ x, x ∈ its → GI x) ∧ (∀ rest, noLD rest → OkI its rest) ∧ Der (z0 (tks its)) n 0 (tks its).length p ∧ txt p = s ∧ opn p ≤ m
theorem RIp.ri {n m : Nat} {s : By} {p : Pt} (h : RIp n s m p) (hm : MF p) : RI n s m := by
 obtain ⟨its, a, b, c, d, e, f⟩ := h
 exact ⟨its, p, a, b, c, d, e, f, hm⟩
theorem RI.rip {n m : Nat} {s : By} (h : RI n s m) : ∃ p, RIp n s m p ∧ MF p := by
 obtain ⟨its, p, a, b, c, d, e, f, hm⟩ := h
 exact ⟨p, ⟨its, a, b, c, d, e, f⟩, hm⟩
theorem noLD_c (c : UInt8) (r : By) (h : isLD c = false) : noLD (c :: r) := Or.inr ⟨c, r, rfl, h⟩
theorem RIp.up {n m : Nat} {s : By} {p : Pt} (h : RIp n s m p) (k : Nat) (h1 : 1 ≤ k) (h2 : k ≤ n) (h6 : n ≤ 6) : RIp k s m p := by
 obtain ⟨its, a, b, c, d, e⟩ := h
 refine ⟨its, a, b, c, ?_, e⟩
 have e : k + (n - k) = n := by omega
 exact Der.ups (n - k) k (by rw [e]; exact d) h1 (by omega)
theorem RI.up {n m : Nat} {s : By} (h : RI n s m) (k : Nat) (h1 : 1 ≤ k) (h2 : k ≤ n) (h6 : n ≤ 6) : RI k s m := by
 obtain ⟨p, h, hm⟩ := h.rip
 exact (h.up k h1 h2 h6).ri hm
theorem RI.le {n m m' : Nat} {s : By} (h : RI n s m) (hm : m ≤ m') : RI n s m' := by
 obtain ⟨its, p, a, b, c, d, e, f, g⟩ := h
 exact ⟨its, p, a, b, c, d, e, by omega, g⟩
theorem RIp.one (x : By) (k : Nat) (hx : GI x) (h32 : x ≠ [32]) (hc : Cls x k) (hk : k = 1 ∨ k = 2 ∨ k = 7 ∨ k = 8) (ht : txt (.atom k (nmB x) (nuB x)) = x) : RIp 6 x 0 (.atom k (nmB x) (nuB x)) := by
 have e : tks [x] = [x] := by simp [tks, h32]
 refine ⟨[x], by simp, fun y hy => by rw [List.mem_singleton.1 hy]; exact hx, fun rest hr => ⟨Or.inr ⟨hx.ti h32, fun _ => by simpa using hr⟩, trivial⟩, ?_, ht, Nat.le_refl _⟩
 rw [e]
 exact .atom (ts := z0 [x]) 0 k (by simp [z0]) hc hk
theorem RI.one (x : By) (k : Nat) (hx : GI x) (h32 : x ≠ [32]) (hc : Cls x k) (hk : k = 1 ∨ k = 2 ∨ k = 7 ∨ k = 8) (ht : txt (.atom k (nmB x) (nuB x)) = x) (hm : MF (.atom k (nmB x) (nuB x))) : RI 6 x 0 := (RIp.one x k hx h32 hc hk ht).ri hm
theorem g40 : GI [40] := Or.inr (Or.inl (by decide))
theorem g41 : GI [41] := Or.inr (Or.inl (by decide))
theorem g44 : GI [44] := Or.inr (Or.inl (by decide))
theorem g45 : GI [45] := Or.inr (Or.inl (by decide))
theorem g32 : GI [32] := Or.inl rfl
theorem gif : GI [105, 102] := Or.inr (Or.inr (Or.inr (Or.inl ⟨by simp, by decide, by simp⟩)))
theorem gnot : GI [110, 111, 116] := Or.inr (Or.inr (Or.inr (Or.inl ⟨by simp, by decide, by simp⟩)))
theorem OkI.sign {x : By} {l : List By} {rest : By} (hx : GI x) (h : hLD x = false) (hl : OkI l rest) : OkI (x :: l) rest := by
 refine ⟨?_, hl⟩
 by_cases e : x = [32]
 ·exact Or.inl e
 ·exact Or.inr ⟨hx.ti e, fun h' => by rw [h] at h'; cases h'⟩
theorem OkI.wordy {x : By} {l : List By} {rest : By} (hx : GI x) (h : noLD (l.flatten ++ rest)) (hl : OkI l rest) : OkI (x :: l) rest := by
 refine ⟨?_, hl⟩
 by_cases e : x = [32]
 ·exact Or.inl e
 ·exact Or.inr ⟨hx.ti e, fun _ => h⟩
theorem RIp.br {s : By} {m : Nat} {p : Pt} (h : RIp 1 s m p) : RIp 6 ([40] ++ s ++ [41]) (m + 1) (.un 9 p) := by
 obtain ⟨its, rfl, hg, ho, hD, ht, hop⟩ := h
 refine ⟨[40] :: (its ++ [[41]]), by simp, ?_, ?_, ?_, ?_, by simp only [opn]; omega⟩
 ·intro x hx
  simp at hx
  rcases hx with rfl | hx | rfl
  ·exact g40
  ·exact hg x hx
  ·exact g41
 ·intro rest hr
  refine .sign g40 (by decide) (.app (ho _ ?_) (.sign g41 (by decide) trivial))
  exact noLD_c 41 _ (by decide)
 ·have e : tks ([40] :: (its ++ [[41]])) = ([[40]] : List By) ++ tks its ++ [[41]] := by simp [tks]
  rw [e]
  have := Der.br (ts := z0 (([[40]] : List By) ++ tks its ++ [[41]])) 0 (1 + (tks its).length) p ?_ (hD.sub [[40]] [[41]]) ?_
  ·rw [show (([[40]] : List By) ++ tks its ++ [[41]] : List By).length = 1 + (tks its).length + 1 by simp; omega]
   exact this
  ·rw [tAt_z0]; rfl
  ·rw [tAt_z0, gd_right _ _ _ (by simp; omega)]
   rw [show 1 + (tks its).length - (([[40]] : List By) ++ tks its).length = 0 by simp; omega]
   rfl
 ·simp [txt, ahd, bhd, btw, ahdW, bhdW, btwW, numT, jn, ht]
theorem RI.br {s : By} {m : Nat} (h : RI 1 s m) : RI 6 ([40] ++ s ++ [41]) (m + 1) := by
 obtain ⟨p, h, hm⟩ := h.rip
 refine h.br.ri ?_
 intro x hx
 simp [mentP] at hx
 exact hm x hx
theorem RIp.nots {s : By} {m : Nat} {p : Pt} (h : RIp 3 s m p) : RIp 3 ([110, 111, 116, 32] ++ s) (m + 1) (.un 6 p) := by
 obtain ⟨its, rfl, hg, ho, hD, ht, hop⟩ := h
 refine ⟨[110, 111, 116] :: [32] :: its, by simp, ?_, ?_, ?_, ?_, by simp only [opn]; omega⟩
 ·intro x hx
  simp at hx
  rcases hx with rfl | rfl | hx
  ·exact gnot
  ·exact g32
  ·exact hg x hx
 ·intro rest hr
  exact .wordy gnot (noLD_c 32 _ (by decide)) (.sign g32 (by decide) (ho rest hr))
 ·have e : tks ([110, 111, 116] :: [32] :: its) = ([[110, 111, 116]] : List By) ++ tks its ++ [] := by simp [tks]
  rw [e]
  have := Der.nots (ts := z0 (([[110, 111, 116]] : List By) ++ tks its ++ [])) 0 (1 + (tks its).length) p ?_ (hD.sub [[110, 111, 116]] [])
  ·rw [show (([[110, 111, 116]] : List By) ++ tks its ++ [] : List By).length = 1 + (tks its).length by simp; omega]
   exact this
  ·rw [tAt_z0]; rfl
 ·simp [txt, ahd, bhd, btw, ahdW, bhdW, btwW, numT, jn, ht]
theorem RI.nots {s : By} {m : Nat} (h : RI 3 s m) : RI 3 ([110, 111, 116, 32] ++ s) (m + 1) := by
 obtain ⟨p, h, hm⟩ := h.rip
 refine h.nots.ri ?_
 intro x hx
 simp [mentP] at hx
 exact hm x hx
theorem RIp.neg {s : By} {m : Nat} {p : Pt} (h : RIp 6 s m p) : RIp 6 ([45] ++ s) (m + 1) (.un 14 p) := by
 obtain ⟨its, rfl, hg, ho, hD, ht, hop⟩ := h
 refine ⟨[45] :: its, by simp, ?_, ?_, ?_, ?_, by simp only [opn]; omega⟩
 ·intro x hx
  simp at hx
  rcases hx with rfl | hx
  ·exact g45
  ·exact hg x hx
 ·intro rest hr
  exact .sign g45 (by decide) (ho rest hr)
 ·have e : tks ([45] :: its) = ([[45]] : List By) ++ tks its ++ [] := by simp [tks]
  rw [e]
  have := Der.neg (ts := z0 (([[45]] : List By) ++ tks its ++ [])) 0 (1 + (tks its).length) p ?_ (hD.sub [[45]] [])
  ·rw [show (([[45]] : List By) ++ tks its ++ [] : List By).length = 1 + (tks its).length by simp; omega]
   exact this
  ·rw [tAt_z0]; rfl
 ·simp [txt, ahd, bhd, btw, ahdW, bhdW, btwW, numT, jn, ht]
theorem RI.neg {s : By} {m : Nat} (h : RI 6 s m) : RI 6 ([45] ++ s) (m + 1) := by
 obtain ⟨p, h, hm⟩ := h.rip
 refine h.neg.ri ?_
 intro x hx
 simp [mentP] at hx
 exact hm x hx
theorem RIp.two {n k : Nat} {a b op : By} {ma mb : Nat} {pa pb : Pt} (h1 : 1 ≤ n) (h5 : n ≤ 5) (ha : RIp (if n = 3 then 4 else n) a ma pa) (hb : RIp (n + 1) b mb pb) (hg : GI op) (h32 : op ≠ [32]) (hs : inB op (sgn n) = true) (hc : Cls op k) (hbt : btw k = 32 :: op ++ [32] ∧ ahd k = [] ∧ bhd k = [] ∧ k ≠ 1) : RIp n (a ++ [32] ++ op ++ [32] ++ b) (max ma mb) (.bin k pa pb) := by
 obtain ⟨ia, rfl, ga, oa, Da, ta, ha'⟩ := ha
 obtain ⟨ib, rfl, gb, ob, Db, tb, hb'⟩ := hb
 refine ⟨ia ++ ([32] :: op :: [32] :: ib), by simp, ?_, ?_, ?_, ?_, by simp only [opn]; omega⟩
 ·intro x hx
  simp at hx
  rcases hx with hx | rfl | rfl | rfl | hx
  ·exact ga x hx
  ·exact g32
  ·exact hg
  ·exact g32
  ·exact gb x hx
 ·intro rest hr
  exact .app (oa _ (noLD_c 32 _ (by decide))) (.sign g32 (by decide) (.wordy hg (noLD_c 32 _ (by decide)) (.sign g32 (by decide) (ob rest hr))))
 ·have e : tks (ia ++ ([32] :: op :: [32] :: ib)) = tks ia ++ [op] ++ tks ib := by simp [tks, h32]
  rw [e]
  have d1 : Der (z0 (tks ia ++ [op] ++ tks ib)) (if n = 3 then 4 else n) 0 (tks ia).length pa := by
   have := Da.sub [] ([op] ++ tks ib)
   simpa [z0] using this
  have d2 : Der (z0 (tks ia ++ [op] ++ tks ib)) (n + 1) ((tks ia).length + 1) ((tks ia).length + 1 + (tks ib).length) pb := by
   have := Db.sub (tks ia ++ [op]) []
   simpa [z0] using this
  have hop : tAt (z0 (tks ia ++ [op] ++ tks ib)) (tks ia).length = op := by
   rw [tAt_z0, List.append_assoc, gd_right _ _ _ (Nat.le_refl _), Nat.sub_self]
   rfl
  rw [show (tks ia ++ [op] ++ tks ib).length = (tks ia).length + 1 + (tks ib).length by simp; omega]
  exact .more n 0 (tks ia).length _ k pa pb h1 h5 d1 (by rw [hop]; exact hs) (by rw [hop]; exact hc) d2
 ·simp [txt, hbt, numT, jn, ta, tb]
theorem RI.two {n k : Nat} {a b op : By} {ma mb : Nat} (h1 : 1 ≤ n) (h5 : n ≤ 5) (ha : RI (if n = 3 then 4 else n) a ma) (hb : RI (n + 1) b mb) (hg : GI op) (h32 : op ≠ [32]) (hs : inB op (sgn n) = true) (hc : Cls op k) (hk : k ≠ 2) (hbt : btw k = 32 :: op ++ [32] ∧ ahd k = [] ∧ bhd k = [] ∧ k ≠ 1) : RI n (a ++ [32] ++ op ++ [32] ++ b) (max ma mb) := by
 obtain ⟨pa, ha, fa⟩ := ha.rip
 obtain ⟨pb, hb, fb⟩ := hb.rip
 refine (RIp.two h1 h5 ha hb hg h32 hs hc hbt).ri ?_
 intro x hx
 simp [mentP, hk] at hx
 rcases hx with hx | hx
 ·exact fa x hx
 ·exact fb x hx
theorem RIp.ifs {a b c : By} {ma mb mc : Nat} {pa pb pc : Pt} (ha : RIp 1 a ma pa) (hb : RIp 1 b mb pb) (hc : RIp 1 c mc pc) : RIp 6 ([105, 102, 40] ++ a ++ [44, 32] ++ b ++ [44, 32] ++ c ++ [41]) (max ma (max mb mc) + 1) (.ifs pa pb pc) := by
 obtain ⟨ia, rfl, ga, oa, Da, ta, ha'⟩ := ha
 obtain ⟨ib, rfl, gb, ob, Db, tb, hb'⟩ := hb
 obtain ⟨ic, rfl, gc, oc, Dc, tc, hc'⟩ := hc
 refine ⟨[105, 102] :: [40] :: (ia ++ ([44] :: [32] :: (ib ++ ([44] :: [32] :: (ic ++ [[41]]))))), by simp, ?_, ?_, ?_, ?_, by simp only [opn]; omega⟩
 ·intro x hx
  simp at hx
  rcases hx with rfl | rfl | hx | rfl | rfl | hx | rfl | rfl | hx | rfl
  ·exact gif
  ·exact g40
  ·exact ga x hx
  ·exact g44
  ·exact g32
  ·exact gb x hx
  ·exact g44
  ·exact g32
  ·exact gc x hx
  ·exact g41
 ·intro rest hr
  exact .wordy gif (noLD_c 40 _ (by decide)) (.sign g40 (by decide) (.app (oa _ (noLD_c 44 _ (by decide))) (.sign g44 (by decide) (.sign g32 (by decide) (.app (ob _ (noLD_c 44 _ (by decide))) (.sign g44 (by decide) (.sign g32 (by decide) (.app (oc _ (noLD_c 41 _ (by decide))) (.sign g41 (by decide) trivial)))))))))
 ·have e : tks ([105, 102] :: [40] :: (ia ++ ([44] :: [32] :: (ib ++ ([44] :: [32] :: (ic ++ [[41]])))))) = ([[105, 102], [40]] : List By) ++ tks ia ++ [[44]] ++ tks ib ++ [[44]] ++ tks ic ++ [[41]] := by simp [tks]
  rw [e]
  have d1 := Da.sub [[105, 102], [40]] ([[44]] ++ tks ib ++ [[44]] ++ tks ic ++ [[41]])
  have d2 := Db.sub (([[105, 102], [40]] : List By) ++ tks ia ++ [[44]]) ([[44]] ++ tks ic ++ [[41]])
  have d3 := Dc.sub (([[105, 102], [40]] : List By) ++ tks ia ++ [[44]] ++ tks ib ++ [[44]]) [[41]]
  rw [show ([[105, 102], [40]] : List By) ++ tks ia ++ ([[44]] ++ tks ib ++ [[44]] ++ tks ic ++ [[41]]) = ([[105, 102], [40]] : List By) ++ tks ia ++ [[44]] ++ tks ib ++ [[44]] ++ tks ic ++ [[41]] by simp] at d1
  rw [show ([[105, 102], [40]] : List By) ++ tks ia ++ [[44]] ++ tks ib ++ ([[44]] ++ tks ic ++ [[41]]) = ([[105, 102], [40]] : List By) ++ tks ia ++ [[44]] ++ tks ib ++ [[44]] ++ tks ic ++ [[41]] by simp] at d2
  have q1 : tAt (z0 (([[105, 102], [40]] : List By) ++ tks ia ++ [[44]] ++ tks ib ++ [[44]] ++ tks ic ++ [[41]])) (2 + (tks ia).length) = [44] := by
   rw [tAt_z0, show ([[105, 102], [40]] : List By) ++ tks ia ++ [[44]] ++ tks ib ++ [[44]] ++ tks ic ++ [[41]] = (([[105, 102], [40]] : List By) ++ tks ia) ++ ([44] :: (tks ib ++ [[44]] ++ tks ic ++ [[41]])) by simp, gd_right _ _ _ (by simp; omega)]
   rw [show 2 + (tks ia).length - (([[105, 102], [40]] : List By) ++ tks ia : List By).length = 0 by simp; omega]
   rfl
  have q2 : tAt (z0 (([[105, 102], [40]] : List By) ++ tks ia ++ [[44]] ++ tks ib ++ [[44]] ++ tks ic ++ [[41]])) (2 + (tks ia).length + 1 + (tks ib).length) = [44] := by
   rw [tAt_z0, show ([[105, 102], [40]] : List By) ++ tks ia ++ [[44]] ++ tks ib ++ [[44]] ++ tks ic ++ [[41]] = (([[105, 102], [40]] : List By) ++ tks ia ++ [[44]] ++ tks ib) ++ ([44] :: (tks ic ++ [[41]])) by simp, gd_right _ _ _ (by simp; omega)]
   rw [show 2 + (tks ia).length + 1 + (tks ib).length - (([[105, 102], [40]] : List By) ++ tks ia ++ [[44]] ++ tks ib : List By).length = 0 by simp; omega]
   rfl
  have q3 : tAt (z0 (([[105, 102], [40]] : List By) ++ tks ia ++ [[44]] ++ tks ib ++ [[44]] ++ tks ic ++ [[41]])) (2 + (tks ia).length + 1 + (tks ib).length + 1 + (tks ic).length) = [41] := by
   rw [tAt_z0, gd_right _ _ _ (by simp; omega)]
   rw [show 2 + (tks ia).length + 1 + (tks ib).length + 1 + (tks ic).length - (([[105, 102], [40]] : List By) ++ tks ia ++ [[44]] ++ tks ib ++ [[44]] ++ tks ic : List By).length = 0 by simp; omega]
   rfl
  rw [show ([[105, 102], [40]] : List By).length = 2 from rfl] at d1
  rw [show (([[105, 102], [40]] : List By) ++ tks ia ++ [[44]] : List By).length = 2 + (tks ia).length + 1 by simp; omega] at d2
  rw [show (([[105, 102], [40]] : List By) ++ tks ia ++ [[44]] ++ tks ib ++ [[44]] : List By).length = 2 + (tks ia).length + 1 + (tks ib).length + 1 by simp; omega] at d3
  rw [show (([[105, 102], [40]] : List By) ++ tks ia ++ [[44]] ++ tks ib ++ [[44]] ++ tks ic ++ [[41]] : List By).length = 2 + (tks ia).length + 1 + (tks ib).length + 1 + (tks ic).length + 1 by simp; omega]
  exact .ifs 0 _ _ _ pa pb pc (by rw [tAt_z0]; rfl) (by rw [tAt_z0]; rfl) d1 q1 d2 q2 d3 q3
 ·simp [txt, ahd, bhd, btw, ahdW, bhdW, btwW, numT, jn, ta, tb, tc]
theorem RI.ifs {a b c : By} {ma mb mc : Nat} (ha : RI 1 a ma) (hb : RI 1 b mb) (hc : RI 1 c mc) : RI 6 ([105, 102, 40] ++ a ++ [44, 32] ++ b ++ [44, 32] ++ c ++ [41]) (max ma (max mb mc) + 1) := by
 obtain ⟨pa, ha, fa⟩ := ha.rip
 obtain ⟨pb, hb, fb⟩ := hb.rip
 obtain ⟨pc, hc, fc⟩ := hc.rip
 refine (RIp.ifs ha hb hc).ri ?_
 intro x hx
 simp [mentP] at hx
 rcases hx with hx | hx | hx
 ·exact fa x hx
 ·exact fb x hx
 ·exact fc x hx
end
section
theorem few_facts : ∀ n : Fin 8, numB n.1 = [UInt8.ofNat (48 + n.1)] ∧ isD (UInt8.ofNat (48 + n.1)) = true ∧ headD (102 :: numB n.1) = false ∧ nameB (102 :: numB n.1) = true ∧ nmB (102 :: numB n.1) = 102 :: numB n.1 ∧ nuB (102 :: numB n.1) = 0 := by decide +kernel
theorem num_facts : ∀ n : Fin 10, numB n.1 = [UInt8.ofNat (48 + n.1)] ∧ isD (UInt8.ofNat (48 + n.1)) = true ∧ headD (numB n.1) = true ∧ nmB (numB n.1) = [] ∧ nuB (numB n.1) = n.1 := by decide +kernel
theorem RI.few (r : By) : RI 6 (fewB r).1 0 := by
 have hl := nextB_lt r 8 (by decide)
 obtain ⟨a1, a2, a3, a4, a5, a6⟩ := few_facts ⟨(nextB r 8).1, hl⟩
 simp only [fewB]
 simp only at a1 a2 a3 a4 a5 a6
 refine RI.one _ 2 (Or.inr (Or.inr (Or.inr (Or.inr ⟨_, by rw [a1], a2⟩)))) (by rw [a1]; simp) (Or.inr (Or.inl ⟨a3, a4, rfl⟩)) (by omega) ?_ ?_
 ·rw [a5, a6]
  simp [txt, ahd, bhd, btw, ahdW, bhdW, btwW, numT, jn]
 ·intro x hx
  rw [a5] at hx
  simp [mentP] at hx
  exact ⟨_, a2, by rw [← hx, a1]⟩
theorem RI.num (n : Nat) (hn : n < 10) : RI 6 (numB n) 0 := by
 obtain ⟨a1, a2, a3, a4, a5⟩ := num_facts ⟨n, hn⟩
 simp only at a1 a2 a3 a4 a5
 refine RI.one _ 1 (Or.inr (Or.inr (Or.inl ⟨_, a1, a2⟩))) ?_ (Or.inl ⟨a3, rfl⟩) (by omega) ?_ ?_
 ·intro e
  rw [e] at a3
  revert a3; decide
 ·rw [a4, a5]
  simp [txt, ahd, bhd, btw, ahdW, bhdW, btwW, numT, jn, numB]
 ·intro x hx
  simp [mentP] at hx
theorem RI.bool (k : Nat) (hk : k < 2) : RI 6 (pickB [[116, 114, 117, 101], [102, 97, 108, 115, 101]] k) 0 := by
 rcases (show k = 0 ∨ k = 1 by omega) with rfl | rfl
 ·refine RI.one [116, 114, 117, 101] 7 (Or.inr (Or.inr (Or.inr (Or.inl ⟨by simp, by decide, by simp⟩)))) (by decide) (Or.inr (Or.inr (Or.inr (by decide)))) (by omega) (by decide) ?_
  intro x hx
  simp [mentP] at hx
 ·refine RI.one [102, 97, 108, 115, 101] 8 (Or.inr (Or.inr (Or.inr (Or.inl ⟨by simp, by decide, by simp⟩)))) (by decide) (Or.inr (Or.inr (Or.inr (by decide)))) (by omega) (by decide) ?_
  intro x hx
  simp [mentP] at hx
theorem gword {x : By} (h : x ≠ [] ∧ (∀ y, y ∈ x → isL y = true) ∧ x.length ≤ 6) : GI x := Or.inr (Or.inr (Or.inr (Or.inl h)))
theorem gsign {x : By} (h : inB x signW = true) : GI x := Or.inr (Or.inl h)
theorem cmean {x : By} {k : Nat} (h : (x, k) ∈ meanN) : Cls x k := Or.inr (Or.inr (Or.inr h))
theorem ruleI : ∀ (d : Nat) (r : By), RI 1 (ruleB d r).1 (2 * d)
 | 0, r => by
  unfold ruleB
  split
  ·exact (RI.num _ (nextB_lt _ _ (by decide))).up 1 (by decide) (by decide) (by decide)
  ·split
   ·exact (RI.bool _ (nextB_lt _ _ (by decide))).up 1 (by decide) (by decide) (by decide)
   ·exact (RI.few _).up 1 (by decide) (by decide) (by decide)
 | d + 1, r => by
  unfold ruleB
  have ia := ruleI d r
  simp only
  generalize (nextB (ruleB d r).2 8).1 = k
  generalize (nextB (ruleB d r).2 8).2 = q
  have fq := fun q => RI.few q
  have iq := fun q => ruleI d q
  split
  ·exact ((RI.ifs ia ((fq q).up 1 (by decide) (by decide) (by decide)) (iq _)).up 1 (by decide) (by decide) (by decide)).le (by omega)
  ·split
   ·have := ((ia.br.up 3 (by decide) (by decide) (by decide)).nots).up 1 (by decide) (by decide) (by decide)
    simp only [List.append_assoc, List.cons_append, List.nil_append] at this ⊢
    exact this.le (by omega)
   ·split
    ·exact ((fq q).neg.up 1 (by decide) (by decide) (by decide)).le (by omega)
    ·split
     ·have hl := nextB_lt q 2 (by decide)
      rcases (show (nextB q 2).1 = 0 ∨ (nextB q 2).1 = 1 by omega) with h | h <;> rw [h]
      ·have := (RI.two (n := 2) (k := 4) (op := [97, 110, 100]) (by decide) (by decide) (ia.br.up 2 (by decide) (by decide) (by decide)) ((iq (nextB q 2).2).br.up 3 (by decide) (by decide) (by decide)) (gword ⟨by simp, by decide, by simp⟩) (by decide) (by decide) (cmean (by decide)) (by decide) (by decide)).up 1 (by decide) (by decide) (by decide)
       simp only [List.append_assoc, List.cons_append, List.nil_append, pickB, List.getD_cons_zero] at this ⊢
       exact this.le (by omega)
      ·have := (RI.two (n := 1) (k := 5) (op := [111, 114]) (by decide) (by decide) (ia.br.up 1 (by decide) (by decide) (by decide)) ((iq (nextB q 2).2).br.up 2 (by decide) (by decide) (by decide)) (gword ⟨by simp, by decide, by simp⟩) (by decide) (by decide) (cmean (by decide)) (by decide) (by decide))
       simp only [List.append_assoc, List.cons_append, List.nil_append, pickB, List.getD_cons_zero, List.getD_cons_succ] at this ⊢
       exact this.le (by omega)
     ·split
      ·have hl := nextB_lt q 2 (by decide)
       rcases (show (nextB q 2).1 = 0 ∨ (nextB q 2).1 = 1 by omega) with h | h <;> rw [h]
       ·have := (RI.two (n := 3) (k := 18) (op := [61]) (by decide) (by decide) (ia.br.up 4 (by decide) (by decide) (by decide)) ((fq (nextB q 2).2).up 4 (by decide) (by decide) (by decide)) (gsign (by decide)) (by decide) (by decide) (cmean (by decide)) (by decide) (by decide)).up 1 (by decide) (by decide) (by decide)
        simp only [List.append_assoc, List.cons_append, List.nil_append, pickB, List.getD_cons_zero] at this ⊢
        exact this.le (by omega)
       ·have := (RI.two (n := 3) (k := 19) (op := [60]) (by decide) (by decide) (ia.br.up 4 (by decide) (by decide) (by decide)) ((fq (nextB q 2).2).up 4 (by decide) (by decide) (by decide)) (gsign (by decide)) (by decide) (by decide) (cmean (by decide)) (by decide) (by decide)).up 1 (by decide) (by decide) (by decide)
        simp only [List.append_assoc, List.cons_append, List.nil_append, pickB, List.getD_cons_zero, List.getD_cons_succ] at this ⊢
        exact this.le (by omega)
      ·have hl := nextB_lt q 5 (by decide)
       have tw : ∀ (n k : Nat) (op : By), 4 ≤ n → n ≤ 5 → GI op → op ≠ [32] → inB op (sgn n) = true → Cls op k → k ≠ 2 → (btw k = 32 :: op ++ [32] ∧ ahd k = [] ∧ bhd k = [] ∧ k ≠ 1) → RI 1 ([40] ++ (ruleB d r).1 ++ [41, 32] ++ op ++ [32] ++ (fewB (nextB q 5).2).1) (2 * (d + 1)) := by
        intro n k op h4 h5 hg h32 hs hc hk hbt
        have := (RI.two (n := n) (k := k) (op := op) (by omega) h5 (by rw [if_neg (by omega)]; exact ia.br.up n (by omega) (by omega) (by decide)) ((fq (nextB q 5).2).up (n + 1) (by omega) (by omega) (by decide)) hg h32 hs hc hk hbt).up 1 (by decide) (by omega) (by omega)
        simp only [List.append_assoc, List.cons_append, List.nil_append] at this ⊢
        exact this.le (by omega)
       rcases (show (nextB q 5).1 = 0 ∨ (nextB q 5).1 = 1 ∨ (nextB q 5).1 = 2 ∨ (nextB q 5).1 = 3 ∨ (nextB q 5).1 = 4 by omega) with h | h | h | h | h <;> rw [h]
       ·exact tw 4 12 [43] (by decide) (by decide) (gsign (by decide)) (by decide) (by decide) (cmean (by decide)) (by decide) (by decide)
       ·exact tw 4 13 [45] (by decide) (by decide) (gsign (by decide)) (by decide) (by decide) (cmean (by decide)) (by decide) (by decide)
       ·exact tw 5 15 [42] (by decide) (by decide) (gsign (by decide)) (by decide) (by decide) (cmean (by decide)) (by decide) (by decide)
       ·exact tw 5 16 [47] (by decide) (by decide) (gsign (by decide)) (by decide) (by decide) (cmean (by decide)) (by decide) (by decide)
       ·exact tw 5 17 [37] (by decide) (by decide) (gsign (by decide)) (by decide) (by decide) (cmean (by decide)) (by decide) (by decide)
end
section
def renP (x y : By) : Pt → Pt
 | .atom k nm n => .atom k (if k = 2 ∧ nm = x then y else nm) n
 | .un k a => .un k (renP x y a)
 | .bin k a b => .bin k (renP x y a) (renP x y b)
 | .ifs a b c => .ifs (renP x y a) (renP x y b) (renP x y c)
theorem krc_length (ks : List KR) : (krc ks).length = ks.length * 4 := by
 induction ks with
 | nil => rfl
 | cons t ks ih => simp [krc] at *; omega
theorem krc_one (ks : List KR) : ∀ u, u ∈ krc ks → u.oneCell' = true := by
 intro u hu
 simp only [krc, List.mem_flatMap] at hu
 obtain ⟨x, _, hx⟩ := hu
 simp only [List.mem_cons, List.not_mem_nil, or_false] at hx
 rcases hx with rfl | rfl | rfl | rfl <;> rfl
theorem nilEq (w : World) (a : Option Addr) (n c n' c' : Nat) : (binOp .eql 85 (.slice a n c) (.slice none n' c')).run Tryz.prog w = .ok (.bool a.isNone) w :=
 Lib.run_eql_slice_nil w _ _ a n c n' c' Tryz.underlying85
theorem cloneNil (w : World) : Calls Tryz.prog 248 #[.slice none 0 0] w fun e w' => e = .returned (.slice none 0 0) ∧ w' = w := by
 have q22 := nilEq
 go_enter Tryz.func248, Tryz.ntmps248
 go_wp2
 go_ret
 exact ⟨rfl, rfl⟩
theorem cloneParts (ks : List KR) (g c : Nat) (w : World) (h1 : 1 ≤ ks.length) (h3 : ks.length ≤ 3) (hc : ∀ j u, (krc ks)[j]? = some u → w.cell? ⟨g, j, none⟩ = some u) :
  Calls Tryz.prog 248 #[.slice (some ⟨g, 0, none⟩) ks.length c] w fun e w' => ∃ g' cap, e = .returned (.slice (some ⟨g', 0, none⟩) ks.length cap) ∧ w'.ownsRow w.heap.size 87 4 (.slice (some ⟨g', 0, none⟩) ks.length cap) ks.length (krc ks) ∧ Below w.heap.size w w' := by
 obtain ⟨i0, hi0, hz0, hz1, hz2⟩ := info_parts infoPart
 have q22 := nilEq
 have HC := tZ hc
 have u22 : ∀ w, Sem.run Tryz.prog (underlying 85) w = .ok (TypeDesc.slice 87) w := run_underlying Tryz.underlying85
 clear hc
 go_enter Tryz.func248, Tryz.ntmps248
 go_wp2_with (at_builtin; refine wpList_append_own _ rfl _ _ 85 rfl w.heap.size 87 i0 (.agg #[.int .i64 0, .string ⟨#[]⟩, .int .i64 0, .slice none 0 0]) 4 56 Tryz.underlying85 hi0 hz0 hz1 hz2 rfl (by decide) _ _ _ rfl (World.ownsRow_made w #[] 0 (Nat.le_refl _) (Nat.zero_le _) (by simp)) ⟨g, 0, none⟩ ks.length c (krc ks) rfl ?qc1 ?qc2 ?qc3 ?qc4 ?qc5 ?qc6 ?_)
 case qc1 => exact krc_length ks
 case qc2 =>
  intro j u hj
  rw [Addr.add_lit, Nat.zero_add]
  exact Lib.cell?_alloc_some _ (HC.out j u hj)
 case qc3 => exact krc_one ks
 case qc4 => unfold maxLen; omega
 case qc5 => omega
 case qc6 => simp
 intro v' w1 hown hgrow hnil
 have hown' : w1.ownsRow w.heap.size 87 4 v' ks.length (krc ks) := by simpa using hown
 obtain ⟨g', cap, rfl, _, _⟩ := hown'.form (by omega)
 go_wp2
 go_ret
 exact ⟨g', cap, rfl, hown', ((Below.refl _ w).alloc (Nat.le_refl _) _).grown hgrow (by simp) (by intro k hk; simp [Value.ownBlock] at hk; omega)⟩
theorem krc_append (a b : List KR) : krc (a ++ b) = krc a ++ krc b := by simp [krc]
theorem krc_cons (x : KR) (b : List KR) : krc (x :: b) = .int .i64 (x.1.k : Int) :: .string ⟨x.1.nm.toArray⟩ :: .int .i64 (x.1.n : Int) :: .slice x.2.1 x.2.2.1 x.2.2.2 :: krc b := by simp [krc]
theorem krc_set4 (a b : List KR) (x y : KR) : ((((krc (a ++ x :: b)).set (a.length * 4) (.int .i64 (y.1.k : Int))).set (a.length * 4 + 1) (.string ⟨y.1.nm.toArray⟩)).set (a.length * 4 + 2) (.int .i64 (y.1.n : Int))).set (a.length * 4 + 3) (.slice y.2.1 y.2.2.1 y.2.2.2) = krc (a ++ y :: b) := by
 have hl := krc_length a
 rw [krc_append, krc_append, krc_cons, krc_cons]
 rw [List.set_append_right _ _ (by omega), List.set_append_right _ _ (by omega), List.set_append_right _ _ (by omega), List.set_append_right _ _ (by omega), hl]
 simp
structure RnI (x y : By) (k n : Int) (nm : By) (w wr : World) (g cap : Nat) (ks ns : List KR) : Prop where
 bel : Below w.heap.size w wr
 p : wr.heap[w.heap.size]? = some (.cells #[.int .i64 k, .string ⟨nm.toArray⟩, .int .i64 n, .slice (some ⟨g, 0, none⟩) ks.length cap] 87 (0, 0))
 R : wr.heap[w.heap.size + 1]? = some (.cells #[.int .i64 0, .string ⟨#[]⟩, .int .i64 0, .slice none 0 0] 87 (0, 0))
 own : wr.ownsRow (w.heap.size + 1 + 1) 87 4 (.slice (some ⟨g, 0, none⟩) ks.length cap) ks.length (krc (ns ++ ks.drop ns.length))
 le : ns.length ≤ ks.length
 kid : ∀ i (h : i < ns.length), ns[i].1 = renP x y (ks[i]'(by omega)).1 ∧ PIs wr (fun q => w.heap.size + 1 < q ∧ q < wr.heap.size ∧ q ≠ g) ns[i].1 ns[i].2.1 ns[i].2.2.1 ns[i].2.2.2
theorem RnI.step {x y : By} {k n : Int} {nm : By} {w wr : World} {g cap : Nat} {ks ns : List KR} (h : RnI x y k n nm w wr g cap ks ns) {W w2 : World} (hW : Below wr.heap.size wr W) (hb : Below W.heap.size W w2) (z : KR) (hj : ns.length < ks.length) (hz : z.1 = renP x y (ks[ns.length]).1) (hP : PIs w2 (fun q => W.heap.size ≤ q ∧ q < w2.heap.size) z.1 z.2.1 z.2.2.1 z.2.2.2) :
  RnI x y k n nm w ((((w2.setCell ⟨g, ns.length * 4, none⟩ (.int .i64 (z.1.k : Int))).setCell ⟨g, ns.length * 4 + 1, none⟩ (.string ⟨z.1.nm.toArray⟩)).setCell ⟨g, ns.length * 4 + 2, none⟩ (.int .i64 (z.1.n : Int))).setCell ⟨g, ns.length * 4 + 3, none⟩ (.slice z.2.1 z.2.2.1 z.2.2.2)) g cap ks (ns ++ [z]) := by
 obtain ⟨hg1, hg2⟩ := h.own.lt g rfl
 have hb2 : Below wr.heap.size wr w2 := hW.trans (hb.mono hW.size)
 have hs := hb2.size
 have hsW := hW.size
 have hfar : ∀ q, q ≠ g → ((((w2.setCell ⟨g, ns.length * 4, none⟩ (.int .i64 (z.1.k : Int))).setCell ⟨g, ns.length * 4 + 1, none⟩ (.string ⟨z.1.nm.toArray⟩)).setCell ⟨g, ns.length * 4 + 2, none⟩ (.int .i64 (z.1.n : Int))).setCell ⟨g, ns.length * 4 + 3, none⟩ (.slice z.2.1 z.2.2.1 z.2.2.2)).heap[q]? = w2.heap[q]? := fun q hq => by
  rw [Below.heap_setCell _ _ _ _ hq, Below.heap_setCell _ _ _ _ hq, Below.heap_setCell _ _ _ _ hq, Below.heap_setCell _ _ _ _ hq]
 have hsz : ((((w2.setCell ⟨g, ns.length * 4, none⟩ (.int .i64 (z.1.k : Int))).setCell ⟨g, ns.length * 4 + 1, none⟩ (.string ⟨z.1.nm.toArray⟩)).setCell ⟨g, ns.length * 4 + 2, none⟩ (.int .i64 (z.1.n : Int))).setCell ⟨g, ns.length * 4 + 3, none⟩ (.slice z.2.1 z.2.2.1 z.2.2.2)).heap.size = w2.heap.size := by simp
 refine ⟨?_, ?_, ?_, ?_, by simp; omega, fun i hi => ?_⟩
 ·exact ((((h.bel.trans (hb2.mono h.bel.size)).setCell (p := ⟨g, _, none⟩) (by show w.heap.size ≤ g; omega) _).setCell (p := ⟨g, _, none⟩) (by show w.heap.size ≤ g; omega) _).setCell (p := ⟨g, _, none⟩) (by show w.heap.size ≤ g; omega) _).setCell (p := ⟨g, _, none⟩) (by show w.heap.size ≤ g; omega) _
 ·rw [hfar _ (by omega), hb2.block _ (Array.getElem?_eq_some_iff.1 h.p).1]; exact h.p
 ·rw [hfar _ (by omega), hb2.block _ (Array.getElem?_eq_some_iff.1 h.R).1]; exact h.R
 ·have ho := own_below h.own hb2
  have hd : ks.drop ns.length = ks[ns.length] :: ks.drop (ns.length + 1) := List.drop_eq_getElem_cons hj
  rw [hd] at ho
  have h4 := (((((ho.stored (ns.length * 4) (.int .i64 (z.1.k : Int))).1).stored (ns.length * 4 + 1) (.string ⟨z.1.nm.toArray⟩)).1.stored (ns.length * 4 + 2) (.int .i64 (z.1.n : Int))).1.stored (ns.length * 4 + 3) (.slice z.2.1 z.2.2.1 z.2.2.2)).1
  rw [krc_set4] at h4
  rw [List.length_append, List.append_assoc]
  exact h4
 ·by_cases hl : i < ns.length
  ·obtain ⟨h1, h2⟩ := h.kid i hl
   rw [List.getElem_append_left hl]
   exact ⟨h1, (h2.next fun q hq => (hfar q hq.2.2).trans (hb2.block q hq.2.1)).wide fun q hq => ⟨hq.1, by rw [hsz]; omega, hq.2.2⟩⟩
  ·obtain rfl : i = ns.length := by simp at hi; omega
   simp only [List.getElem_append_right (Nat.le_refl _), Nat.sub_self, List.getElem_cons_zero]
   have hws : w.heap.size + 1 < wr.heap.size := (Array.getElem?_eq_some_iff.1 h.R).1
   exact ⟨hz, (hP.next fun q hq => hfar q (by omega)).wide fun q hq => ⟨by omega, by rw [hsz]; exact hq.2, by omega⟩⟩
end
section
def RnPost (x y : By) (p : Pt) (w : World) (e : Ending) (w' : World) : Prop :=
 ∃ (a : Option Addr) (l c : Nat), e = .returned (.agg #[.int .i64 ((renP x y p).k : Int), .string ⟨((renP x y p).nm).toArray⟩, .int .i64 ((renP x y p).n : Int), .slice a l c]) ∧ PIs w' (fun q => w.heap.size ≤ q ∧ q < w'.heap.size) (renP x y p) a l c ∧ Below w.heap.size w w'
theorem renP_k (x y : By) (p : Pt) : (renP x y p).k = p.k ∧ (renP x y p).n = p.n ∧ (renP x y p).kids = p.kids.map (renP x y) := by
 cases p <;> exact ⟨rfl, rfl, rfl⟩
theorem ren_leaf (x y : By) (k n : Int) (nm nm' : By) (w : World) (hk : (k = 2 ∧ nm = x ∧ nm' = y) ∨ (k = 2 ∧ nm ≠ x ∧ nm' = nm) ∨ (k ≠ 2 ∧ nm' = nm)) :
  Calls Tryz.prog 222 #[.agg #[.int .i64 k, .string ⟨nm.toArray⟩, .int .i64 n, .slice none 0 0], .string ⟨x.toArray⟩, .string ⟨y.toArray⟩] w fun e w' => e = .returned (.agg #[.int .i64 k, .string ⟨nm'.toArray⟩, .int .i64 n, .slice none 0 0]) ∧ Below w.heap.size w w' := by
 have HC := tZ (fun w => cloneNil w)
 rcases hk with ⟨rfl, rfl, rfl⟩ | ⟨rfl, hx, rfl⟩ | ⟨hk, rfl⟩
 ·have q1 : (nm == nm) = true := by simp
  go_enter Tryz.func222, Tryz.ntmps222
  go_wp2_with (first | (go_at_call 248; refine (HC.out _).mono ?_; rintro e w1 ⟨rfl, rfl⟩))
  go_loopg [27] 0 (fun _ s wr => s = .int .i64 0 ∧ wr = (w.alloc (.cells #[.int .i64 2, .string ⟨nm'.toArray⟩, .int .i64 n, .slice none 0 0] 87)).alloc (.cells #[.int .i64 0, .string ⟨#[]⟩, .int .i64 0, .slice none 0 0] 87))
  case atStart => exact ⟨rfl, rfl⟩
  case round =>
   obtain ⟨rfl, rfl⟩ := hrel
   go_wp2
   refine bodyPost_ret (v := .agg #[.int .i64 2, .string ⟨nm'.toArray⟩, .int .i64 n, .slice none 0 0]) (by simp [results, Tryz.results222, go_sem]) rfl ?_
   exact ⟨rfl, below2 w _ _⟩
 ·have q1 : (nm' == x) = false := by simp [hx]
  clear hx
  go_enter Tryz.func222, Tryz.ntmps222
  go_wp2_with (first | (go_at_call 248; refine (HC.out _).mono ?_; rintro e w1 ⟨rfl, rfl⟩))
  go_loopg [27] 0 (fun _ s wr => s = .int .i64 0 ∧ wr = (w.alloc (.cells #[.int .i64 2, .string ⟨nm'.toArray⟩, .int .i64 n, .slice none 0 0] 87)).alloc (.cells #[.int .i64 0, .string ⟨#[]⟩, .int .i64 0, .slice none 0 0] 87))
  case atStart => exact ⟨rfl, rfl⟩
  case round =>
   obtain ⟨rfl, rfl⟩ := hrel
   go_wp2
   refine bodyPost_ret (v := .agg #[.int .i64 2, .string ⟨nm'.toArray⟩, .int .i64 n, .slice none 0 0]) (by simp [results, Tryz.results222, go_sem]) rfl ?_
   exact ⟨rfl, below2 w _ _⟩
 ·have q1 : (k == 2) = false := beq_eq_false_iff_ne.2 hk
  clear hk
  go_enter Tryz.func222, Tryz.ntmps222
  go_wp2_with (first | (go_at_call 248; refine (HC.out _).mono ?_; rintro e w1 ⟨rfl, rfl⟩))
  go_loopg [27] 0 (fun _ s wr => s = .int .i64 0 ∧ wr = (w.alloc (.cells #[.int .i64 k, .string ⟨nm'.toArray⟩, .int .i64 n, .slice none 0 0] 87)).alloc (.cells #[.int .i64 0, .string ⟨#[]⟩, .int .i64 0, .slice none 0 0] 87))
  case atStart => exact ⟨rfl, rfl⟩
  case round =>
   obtain ⟨rfl, rfl⟩ := hrel
   go_wp2
   refine bodyPost_ret (v := .agg #[.int .i64 k, .string ⟨nm'.toArray⟩, .int .i64 n, .slice none 0 0]) (by simp [results, Tryz.results222, go_sem]) rfl ?_
   exact ⟨rfl, below2 w _ _⟩
def RnN (x y : By) (k n : Int) (nm : By) (ks : List KR) (w : World) (e : Ending) (w' : World) : Prop :=
 ∃ (g cap : Nat) (ns : List KR) (w2 : World), e = .returned (.agg #[.int .i64 k, .string ⟨nm.toArray⟩, .int .i64 n, .slice (some ⟨g, 0, none⟩) ks.length cap]) ∧ RnI x y k n nm w w2 g cap ks ns ∧ ns.length = ks.length ∧ (∀ q, q ≠ w.heap.size + 1 → w'.heap[q]? = w2.heap[q]?) ∧ Below w.heap.size w w' ∧ w'.heap.size = w2.heap.size
theorem ren_node (x y : By) (k n : Int) (nm nm' : By) (w : World) (hk : k ≠ 2 ∧ nm' = nm) (ks : List KR) (g c : Nat) (h1 : 1 ≤ ks.length) (h3 : ks.length ≤ 3) (hg : g < w.heap.size) (hc : ∀ j u, (krc ks)[j]? = some u → w.cell? ⟨g, j, none⟩ = some u)
  (hI : ∀ j (hj : j < ks.length) W, Below w.heap.size w W → Calls Tryz.prog 222 #[.agg #[.int .i64 (ks[j].1.k : Int), .string ⟨ks[j].1.nm.toArray⟩, .int .i64 (ks[j].1.n : Int), .slice ks[j].2.1 ks[j].2.2.1 ks[j].2.2.2], .string ⟨x.toArray⟩, .string ⟨y.toArray⟩] W (RnPost x y ks[j].1 W)) :
  Calls Tryz.prog 222 #[.agg #[.int .i64 k, .string ⟨nm.toArray⟩, .int .i64 n, .slice (some ⟨g, 0, none⟩) ks.length c], .string ⟨x.toArray⟩, .string ⟨y.toArray⟩] w (RnN x y k n nm' ks w) := by
 obtain ⟨hk, rfl⟩ := hk
 have q1 : (k == 2) = false := beq_eq_false_iff_ne.2 hk
 obtain ⟨W4, hW4⟩ : ∃ W4, W4 = (w.alloc (.cells #[.int .i64 k, .string ⟨nm'.toArray⟩, .int .i64 n, .slice (some ⟨g, 0, none⟩) ks.length c] 87)).alloc (.cells #[.int .i64 0, .string ⟨#[]⟩, .int .i64 0, .slice none 0 0] 87) := ⟨_, rfl⟩
 have hs4 : W4.heap.size = w.heap.size + 1 + 1 := by rw [hW4]; simp
 have hb4 : Below w.heap.size w W4 := by rw [hW4]; exact below2 w _ _
 have r0 : W4.heap[w.heap.size]? = some (.cells #[.int .i64 k, .string ⟨nm'.toArray⟩, .int .i64 n, .slice (some ⟨g, 0, none⟩) ks.length c] 87 (0, 0)) := by
  rw [hW4, Below.heap_alloc _ _ _ (by simp)]; exact heap_alloc_new w _
 have r1 : W4.heap[w.heap.size + 1]? = some (.cells #[.int .i64 0, .string ⟨#[]⟩, .int .i64 0, .slice none 0 0] 87 (0, 0)) := by
  rw [hW4]; exact alloc2_new' w _ _ _
 have HCL := tZ (cloneParts ks g c W4 h1 h3 (fun j u hj => (hb4.cell (p := ⟨g, j, none⟩) hg).trans (hc j u hj)))
 have HI := tZ hI
 have HW4 := tZ hW4
 have HR := tZ (And.intro r0 r1)
 have HB4 := tZ hb4
 have HS4 := tZ hs4
 clear hc hI hk hW4 hb4 r0 r1 hs4
 go_enter Tryz.func222, Tryz.ntmps222
 go_wp2_with (first | (go_at_call 248; rw [← HW4.out]; refine HCL.out.mono ?_; rintro e w1 ⟨g', cap, rfl, hown, hb1⟩; refine Hid.out ?_))
 obtain ⟨r0, r1⟩ := HR.out
 have hx0 : w.heap.size < W4.heap.size := by have := HS4.out; omega
 have hx1 : w.heap.size + 1 < W4.heap.size := by have := HS4.out; omega
 have p1 := (hb1.block _ hx0).trans r0
 have R1 := (hb1.block _ hx1).trans r1
 obtain ⟨⟨k0, k1, k2, k3⟩, ⟨f0, f1, f2, f3⟩, hsz⟩ := row4 p1
 have HI0 := tZ (show RnI x y k n nm' w (w1.setCell ⟨w.heap.size, 3, none⟩ (.slice (some ⟨g', 0, none⟩) ks.length cap)) g' cap ks [] from by
  refine ⟨((HB4.out.trans (hb1.mono HB4.out.size)).setCell (p := ⟨w.heap.size, 3, none⟩) (Nat.le_refl _) _), ?_, ?_, ?_, Nat.zero_le _, fun i hi => by simp at hi⟩
  ·rw [setCell_block p1]; rfl
  ·rw [Below.heap_setCell _ _ _ _ (by show w.heap.size + 1 ≠ w.heap.size; omega)]; exact R1
  ·have := ownsRow_setCell_below (a := ⟨w.heap.size, 3, none⟩) hown (by show w.heap.size < W4.heap.size; exact hx0) (.slice (some ⟨g', 0, none⟩) ks.length cap)
   rw [HS4.out] at this
   exact this)
 clear hown hb1 p1 R1 r0 r1 HCL
 refine tZ ?_
 go_wp2_with fail
 go_loopg [27] ks.length (fun gk s wr => ∃ ns : List KR, s = .int .i64 (ns.length : Int) ∧ ks.length ≤ ns.length + gk ∧ Hid (RnI x y k n nm' w wr g' cap ks ns))
 case atStart => exact ⟨[], rfl, by simp, HI0⟩
 case round =>
  obtain ⟨ns, rfl, hgk, HR5⟩ := hrel
  clear k0 k1 k2 k3 f0 f1 f2 f3 hsz
  have hle := HR5.out.le
  obtain ⟨⟨k0, k1, k2, k3⟩, ⟨f0, f1, f2, f3⟩, hsz⟩ := row4 HR5.out.p
  obtain ⟨⟨z0, z1, z2, z3⟩, ⟨y0, y1, y2, y3⟩, hszR⟩ := row4 HR5.out.R
  by_cases hlt : ns.length < ks.length
  ·have hltz : (ns.length : Int) < (ks.length : Int) := by omega
   have hget : (ns ++ ks.drop ns.length)[ns.length]'(by simp; omega) = ks[ns.length] := by simp
   have h4 := krc_get (ns ++ ks.drop ns.length) ns.length (by simp; omega)
   rw [hget] at h4
   have HKG := tZ h4
   have e0 := (HR5.out.own.cellAt (ns.length * 4) (by omega)).trans h4.1
   have e1 := (HR5.out.own.cellAt (ns.length * 4 + 1) (by omega)).trans h4.2.1
   have e2 := (HR5.out.own.cellAt (ns.length * 4 + 2) (by omega)).trans h4.2.2.1
   have e3 := (HR5.out.own.cellAt (ns.length * 4 + 3) (by omega)).trans h4.2.2.2
   obtain ⟨hg1, hg2⟩ := HR5.out.own.lt g' rfl
   have HCALL := tZ (fun W (hb : Below wr.heap.size wr W) => HI.out ns.length hlt W (HR5.out.bel.trans (hb.mono HR5.out.bel.size)))
   clear h4 hget
   generalize hks : ks[ns.length] = kj at *
   obtain ⟨kp, ka, kl, kc⟩ := kj
   have HKS := tZ hks
   clear hks
   simp only at e0 e1 e2 e3
   have HC2 := tZ (show ∀ W, Below wr.heap.size wr W → Calls Tryz.prog 222 #[.agg #[.int .i64 (kp.k : Int), .string ⟨kp.nm.toArray⟩, .int .i64 (kp.n : Int), .slice ka kl kc], .string ⟨x.toArray⟩, .string ⟨y.toArray⟩] W (RnPost x y kp W) from HCALL.out)
   have HPOST := tZ (show ∀ w2, Below wr.heap.size wr w2 → w2.cell? ⟨w.heap.size, 3, none⟩ = some (.slice (some ⟨g', 0, none⟩) ks.length cap) ∧ (w2.cell? ⟨g', ns.length * 4, none⟩ = some (.int .i64 (kp.k : Int)) ∧ w2.cell? ⟨g', ns.length * 4 + 1, none⟩ = some (.string ⟨kp.nm.toArray⟩) ∧ w2.cell? ⟨g', ns.length * 4 + 2, none⟩ = some (.int .i64 (kp.n : Int)) ∧ w2.cell? ⟨g', ns.length * 4 + 3, none⟩ = some (.slice ka kl kc)) ∧ (∀ o, w2.frozen? ⟨g', o, none⟩ = false) from fun w2 hb => by
    have ho := own_below HR5.out.own hb
    exact ⟨(hb.cell (p := ⟨w.heap.size, 3, none⟩) (by show w.heap.size < _; omega)).trans k3, ⟨(hb.cell (p := ⟨g', ns.length * 4, none⟩) hg2).trans e0, (hb.cell (p := ⟨g', ns.length * 4 + 1, none⟩) hg2).trans e1, (hb.cell (p := ⟨g', ns.length * 4 + 2, none⟩) hg2).trans e2, (hb.cell (p := ⟨g', ns.length * 4 + 3, none⟩) hg2).trans e3⟩, fun o => ho.frozenAt o⟩)
   have HW5 := tZ (show Below wr.heap.size wr (wr.alloc (.cells #[.int .i64 (kp.k : Int), .string ⟨kp.nm.toArray⟩, .int .i64 (kp.n : Int), .slice ka kl kc] 87)).drew from (bZ _).drew)
   have hnl : ns.length ≤ 3 := by omega
   clear HCALL
   go_wp2_with fail
   go_region_with (first | (go_at_call 222; refine (HC2.out _ HW5.out).mono ?_; rintro e w2 ⟨a', l', c', rfl, hP, hb2⟩; obtain ⟨m0, ⟨m1, m2, m3, m4⟩, hfz⟩ := HPOST.out _ (HW5.out.trans (hb2.mono HW5.out.size)); have n0 := hfz (ns.length * 4); have n1 := hfz (ns.length * 4 + 1); have n2 := hfz (ns.length * 4 + 2); have n3 := hfz (ns.length * 4 + 3); have B1 := tZ hP; have B2 := tZ hb2; clear hP hb2 hfz))
   all_goals go_wp2_with fail
   all_goals go_roundg (ks.length - (ns.length + 1))
   all_goals try (case measure => omega)
   all_goals exact ⟨ns ++ [(renP x y kp, a', l', c')], by simp, by simp; omega, tZ (HR5.out.step HW5.out B2.out (renP x y kp, a', l', c') hlt (by rw [HKS.out]) B1.out)⟩
  ·have hlen : ns.length = ks.length := by omega
   have hltz : ¬ (ns.length : Int) < (ks.length : Int) := by omega
   have hne : w.heap.size ≠ w.heap.size + 1 := by omega
   go_wp2
   refine bodyPost_ret (v := .agg #[.int .i64 k, .string ⟨nm'.toArray⟩, .int .i64 n, .slice (some ⟨g', 0, none⟩) ks.length cap]) (by simp [results, Tryz.results222, go_sem, z0, z1, z2, z3]) rfl ?_
   exact ⟨g', cap, ns, wr, rfl, HR5.out, hlen, fun q hq => heap4 wr (w.heap.size + 1) _ _ _ _ hq, (((HR5.out.bel.setCell (p := ⟨w.heap.size + 1, 0, none⟩) (by show w.heap.size ≤ w.heap.size + 1; omega) _).setCell (p := ⟨w.heap.size + 1, 1, none⟩) (by show w.heap.size ≤ w.heap.size + 1; omega) _).setCell (p := ⟨w.heap.size + 1, 2, none⟩) (by show w.heap.size ≤ w.heap.size + 1; omega) _).setCell (p := ⟨w.heap.size + 1, 3, none⟩) (by show w.heap.size ≤ w.heap.size + 1; omega) _, by simp⟩
end
end Go.Proofs.YtihgojcfpnhelaaGreatDoor
