import Derived.Test.YtihgojcfpnhelabGreatDoorS2Se
set_option maxRecDepth 100000
set_option maxHeartbeats 4000000
set_option linter.unusedVariables false
set_option linter.unusedSimpArgs false
namespace Go.Proofs.YtihgojcfpnhelabGreatDoor
open Go.RowKit
section
theorem entersA : ∀ args w, (callFunc 155 args).run Tryz.prog w = .ok (.enter 155 args) w := enters_of Tryz.func155 (by kernel_rfl) rfl
theorem closA {S : Nat → Prop} (B b q : Nat) (f g : Fd) (w : World) (hS : ∀ q, S q → q < w.heap.size) (hf : FdAt w S b f) (hg : FdAt w S q g) (hB : w.cell? ⟨B, 0, none⟩ = some (.pointer (some ⟨b, 0, none⟩))) :
  Calls Tryz.prog 155 #[.pointer (some ⟨q, 0, none⟩), .pointer (some ⟨B, 0, none⟩)] w fun e w' => e = .returned (.bool (mentP f.nm g.p)) ∧ Below w.heap.size w w' := by
 obtain ⟨_, _, _, _, a1, l1, c1, hb, _⟩ := hf
 obtain ⟨_, _, _, _, a2, l2, c2, hq, hP⟩ := hg
 obtain ⟨⟨k0, _⟩, _, _⟩ := row7 hb
 obtain ⟨⟨_, j1, j2, j3, j4, _⟩, _, _⟩ := row7 hq
 have HM := tZ (ruleMentions f.nm g.p a2 l2 c2 w.drew (hP.next fun _ _ => rfl) hS)
 clear hb hq hP
 go_enter Tryz.func155, Tryz.ntmps155
 go_wp2_with fail
 go_region_with (first | (go_at_call 98; refine HM.out.mono ?_; rintro e w1 ⟨rfl, hb1⟩; have B1 := tZ hb1; clear hb1))
 all_goals go_wp2
 all_goals go_ret
 all_goals exact ⟨rfl, (Below.refl _ _).drew.trans B1.out⟩
theorem indexFld (a : Option Addr) (n c : Nat) (lb : Value) (w : World) (q : Nat → Nat) (f : Nat → Bool) (hn : n ≤ 1000)
  (hK : ∀ j, j < n → ∃ g o, a = some ⟨g, o, none⟩ ∧ g < w.heap.size ∧ w.cell? ⟨g, o + j, none⟩ = some (.pointer (some ⟨q j, 0, none⟩)))
  (hp : ∀ j, j < n → ∀ W, Below w.heap.size w W → Calls Tryz.prog 155 #[.pointer (some ⟨q j, 0, none⟩), lb] W fun e w' => e = .returned (.bool (f j)) ∧ Below W.heap.size W w') :
  Calls Tryz.prog 154 #[.slice a n c, .func (.func 155) #[] #[lb]] w fun e w' => ∃ z : Int, e = .returned (.int .i64 z) ∧ ((z = -1 ∧ ∀ j, j < n → f j = false) ∨ ∃ j : Nat, j < n ∧ z = (j : Int) ∧ f j = true ∧ ∀ i, i < j → f i = false) ∧ Below w.heap.size w w' := by
 have HK := tZ hK
 have HP := tZ hp
 have eg := entersA
 clear hK hp
 go_enter Tryz.func154, Tryz.ntmps154
 go_wp2_with fail
 go_loopg [5, 8] n (fun gk _ s8 wr => ∃ j : Nat, j ≤ n ∧ n ≤ j + gk ∧ s8 = .int .i64 (j : Int) ∧ Hid (Below w.heap.size w wr) ∧ Hid (∀ i, i < j → f i = false))
 case atStart => exact ⟨0, Nat.zero_le _, by omega, rfl, Below.refl _ _, fun i hi => by omega⟩
 case round =>
  obtain ⟨j, hj, hgk, rfl, HB, HF⟩ := hrel
  by_cases hlt : j < n
  ·obtain ⟨g, o, rfl, hg, c0⟩ := HK.out j hlt
   have d0 := (HB.out.cell (p := ⟨g, o + j, none⟩) hg).trans c0
   have HC := tZ (HP.out j hlt wr HB.out)
   have HSZ := tZ HB.out.size
   have hltz : (j : Int) < (n : Int) := by omega
   clear c0
   cases hf : f j with
   | true =>
    rw [hf] at HC
    go_wp2_with (first | (go_at_fn 155; refine HC.out.mono ?_; rintro e w1 ⟨rfl, hb1⟩) | (go_at_call 155; refine HC.out.mono ?_; rintro e w1 ⟨rfl, hb1⟩))
    go_ret
    exact ⟨_, rfl, Or.inr ⟨j, hlt, rfl, hf, HF.out⟩, HB.out.trans (hb1.mono HSZ.out)⟩
   | false =>
    rw [hf] at HC
    go_wp2_with (first | (go_at_fn 155; refine HC.out.mono ?_; rintro e w1 ⟨rfl, hb1⟩) | (go_at_call 155; refine HC.out.mono ?_; rintro e w1 ⟨rfl, hb1⟩))
    go_roundg (n - (j + 1))
    case measure => omega
    case rel =>
     refine ⟨j + 1, by omega, by omega, by go_num, HB.out.trans (hb1.mono HSZ.out), (show Hid _ from fun i hi => ?_)⟩
     by_cases e : i = j
     ·subst e; exact hf
     ·exact HF.out i (by omega)
  ·have hltz : ¬ (j : Int) < (n : Int) := by omega
   go_wp2
   go_ret
   exact ⟨_, rfl, Or.inl ⟨rfl, fun i hi => HF.out i (by omega)⟩, HB.out⟩
theorem lastM224 {S : Nat → Prop} (a : Option Addr) (c b : Nat) (f : Fd) (fs : List (Nat × Fd)) (w : World) (hs : Sh w S a fs) (hl : fs.length ≤ 1000) (hf : FdAt w S b f) :
  Calls Tryz.prog 151 #[.slice a fs.length c, .pointer (some ⟨b, 0, none⟩)] w fun e w' => ∃ z : Int, e = .returned (.int .i64 z) ∧ ((z = -1 ∧ ∀ j (h : j < fs.length), mentP (fs[j]).2.nm f.p = false) ∨ ∃ j : Nat, ∃ h : j < fs.length, z = (j : Int) ∧ mentP (fs[j]).2.nm f.p = true ∧ ∀ i (hi : i < fs.length), j < i → mentP (fs[i]).2.nm f.p = false) ∧ Below w.heap.size w w' := by
 have HS := tZ hs
 obtain ⟨_, _, _, _, a1, l1, c1, hb, hP⟩ := hf
 have hbl : b < w.heap.size := (Array.getElem?_eq_some_iff.1 hb).1
 have HB0 := tZ hb
 have HM := tZ (fun x W (hW : Below w.heap.size w W) => ruleMentions x f.p a1 l1 c1 W (hP.next fun q hq => hW.block q (hs.still q hq)) (fun q hq => Nat.lt_of_lt_of_le (hs.still q hq) hW.size))
 clear hs hb hP
 go_enter Tryz.func151, Tryz.ntmps151
 go_wp2_with fail
 go_loopg [5] (fs.length + 1) (fun gk s5 wr => ∃ j : Nat, j ≤ fs.length ∧ j < gk ∧ s5 = .int .i64 ((j : Int) - 1) ∧ Hid (Below w.heap.size w wr) ∧ Hid (∀ i (hi : i < fs.length), j ≤ i → mentP (fs[i]).2.nm f.p = false))
 case atStart => exact ⟨fs.length, Nat.le_refl _, by omega, rfl, Below.refl _ _, fun i hi h => by omega⟩
 case round =>
  obtain ⟨j, hj, hgk, rfl, HB, HF⟩ := hrel
  cases j with
  | zero =>
   have hz : ¬ (0 : Int) ≤ ((0 : Nat) : Int) - 1 := by omega
   go_wp2
   go_ret
   exact ⟨_, rfl, Or.inl ⟨rfl, fun i hi => HF.out i hi (by omega)⟩, HB.out⟩
  | succ j =>
   have hj1 : (((j + 1 : Nat) : Int) - 1) = (j : Int) := by omega
   rw [hj1]
   have hz : (0 : Int) ≤ (j : Int) := by omega
   have hltz : (j : Int) < (fs.length : Int) := by omega
   obtain ⟨g, o, rfl, hg, hp⟩ := HS.out.ptr j (by omega)
   have hp' := (HB.out.cell (p := ⟨g, o + j, none⟩) (HS.out.still g hg)).trans hp
   have hq := HS.out.fld fs[j] (List.getElem_mem (by omega))
   have hql := hq.lt
   obtain ⟨_, _, _, _, a2, l2, c2, hb2, _⟩ := hq
   obtain ⟨⟨k0, _⟩, _, _⟩ := row7 ((HB.out.block _ hql).trans hb2)
   obtain ⟨⟨_, j1, j2, j3, j4, _⟩, _, _⟩ := row7 ((HB.out.block b hbl).trans HB0.out)
   have HC := tZ (HM.out (fs[j]).2.nm wr.drew HB.out.drew)
   have hsz := HB.out.size
   have hmm : ∀ i (hi : i < fs.length), j + 1 ≤ i → mentP (fs[i]).2.nm f.p = false := HF.out
   clear hb2 hp
   cases hm : mentP (fs[j]).2.nm f.p with
   | true =>
    have HFIN := tZ (show ((-1 : Int) = -1 ∧ False) ∨ ∃ i : Nat, ∃ h : i < fs.length, (j : Int) = (i : Int) ∧ mentP (fs[i]).2.nm f.p = true ∧ ∀ i' (hi : i' < fs.length), i < i' → mentP (fs[i']).2.nm f.p = false from Or.inr ⟨j, by omega, rfl, hm, fun i hi h => hmm i hi (by omega)⟩)
    rw [hm] at HC
    clear hm hmm HF
    generalize fs[j] = ff at *
    go_wp2_with fail
    go_region_with (first | (go_at_call 98; refine HC.out.mono ?_; rintro e w1 ⟨rfl, hb1⟩; have B1 := tZ hb1; clear hb1))
    all_goals go_wp2
    all_goals go_ret
    all_goals exact ⟨_, rfl, Or.inr (HFIN.out.elim (fun h => h.2.elim) id), HB.out.drew.trans (B1.out.mono hsz)⟩
   | false =>
    have HF2 := tZ (show ∀ i (hi : i < fs.length), j ≤ i → mentP (fs[i]).2.nm f.p = false from fun i hi h => by
     by_cases e : i = j
     ·subst e; exact hm
     ·exact hmm i hi (by omega))
    rw [hm] at HC
    clear hm hmm HF
    generalize fs[j] = ff at *
    go_wp2_with fail
    go_region_with (first | (go_at_call 98; refine HC.out.mono ?_; rintro e w1 ⟨rfl, hb1⟩; have B1 := tZ hb1; clear hb1))
    all_goals go_wp2
    all_goals go_roundg (gk - 1)
    all_goals try (case measure => omega)
    all_goals exact ⟨j, by omega, by omega, by go_num, HB.out.drew.trans (B1.out.mono hsz), HF2⟩
end
section
theorem aheadNone {S : Nat → Prop} (a : Option Addr) (c at_ : Nat) (fs : List (Nat × Fd)) (w : World) (hs : Sh w S a fs) (hl : fs.length ≤ 1000) (hat : at_ < fs.length) (hu : ∀ i (h : i < fs.length), i < at_ → (fs[i]).1 ≠ (fs[at_]).1) (hm : ∀ i (h : i < fs.length), i < at_ → mentP (fs[at_]).2.nm (fs[i]).2.p = false) (hcap : fs.length ≤ c) :
  Calls Tryz.prog 124 #[.slice a fs.length c, .pointer (some ⟨(fs[at_]).1, 0, none⟩)] w fun e w' => e = .returned (.slice a fs.length c) ∧ Below w.heap.size w w' := by
 have HI := tZ (fun W (hb : Below w.heap.size w W) => index136 a c (fs[at_]).1 at_ fs W (hs.next hb) hl hat rfl hu)
 have HX := tZ (fun W (hb : Below w.heap.size w W) (hB : W.cell? ⟨w.heap.size, 0, none⟩ = some (.pointer (some ⟨(fs[at_]).1, 0, none⟩))) (hBl : w.heap.size < W.heap.size) => indexFld a at_ c (.pointer (some ⟨w.heap.size, 0, none⟩)) W (fun j => ((fs[j]?).map fun x => x.1).getD 0) (fun _ => false) (by omega) (fun j hj => by
  obtain ⟨g, o, h1, h2, h3⟩ := (hs.next hb).ptr j (by omega)
  refine ⟨g, o, h1, Nat.lt_of_lt_of_le (hs.still g h2) hb.size, ?_⟩
  rw [h3]
  simp [show j < fs.length by omega]) (fun j hj W' hb' => by
  have hjl : j < fs.length := by omega
  have hs2 := (hs.next hb).next hb'
  have := closA (S := S) w.heap.size (fs[at_]).1 (fs[j]).1 (fs[at_]).2 (fs[j]).2 W' hs2.still (hs2.fld _ (List.getElem_mem hat)) (hs2.fld _ (List.getElem_mem hjl)) ((hb'.cell (p := ⟨w.heap.size, 0, none⟩) hBl).trans hB)
  rw [hm j hjl hj] at this
  simpa [hjl] using this))
 have hatz : (at_ : Int) ≤ (fs.length : Int) := by omega
 have hcz : (at_ : Int) ≤ (c : Int) := by omega
 obtain ⟨ga, oa, rfl, _, _⟩ := hs.ptr at_ hat
 clear hs hu hm
 generalize (fs[at_]).1 = q at *
 go_enter Tryz.func124, Tryz.ntmps124
 go_wp2_with (first | (go_at_call 77; refine (HI.out _ (bZ _)).mono ?_; rintro e w1 ⟨rfl, rfl⟩) | (go_at_call 154; refine (HX.out _ (bZ _) (by simp) (by simp)).mono ?_; rintro e w1 ⟨z, rfl, hz, hb1⟩; refine Hid.out ?_))
 have hzm : z = -1 := by
  rcases hz with ⟨h, _⟩ | ⟨_, _, _, h, _⟩
  ·exact h
  ·cases h
 subst hzm
 have HB := tZ (((Below.refl w.heap.size w).alloc (Nat.le_refl _) (.cells #[.pointer (some ⟨q, 0, none⟩)] 116)).trans (hb1.mono (by simp)))
 clear hb1
 refine tZ ?_
 go_wp2
 go_ret
 exact ⟨rfl, HB.out⟩
theorem behindNone {S : Nat → Prop} (a : Option Addr) (c at_ : Nat) (fs : List (Nat × Fd)) (w : World) (hs : Sh w S a fs) (hl : fs.length ≤ 1000) (hat : at_ < fs.length) (hu : ∀ i (h : i < fs.length), i < at_ → (fs[i]).1 ≠ (fs[at_]).1) (hm : ∀ i (h : i < fs.length), at_ ≤ i → mentP (fs[i]).2.nm (fs[at_]).2.p = false) :
  Calls Tryz.prog 123 #[.slice a fs.length c, .pointer (some ⟨(fs[at_]).1, 0, none⟩)] w fun e w' => e = .returned (.tuple #[.slice a fs.length c, .slice none 0 0]) ∧ Below w.heap.size w w' := by
 have HI := tZ (fun W (hb : Below w.heap.size w W) => index136 a c (fs[at_]).1 at_ fs W (hs.next hb) hl hat rfl hu)
 have HX := tZ (fun W (hb : Below w.heap.size w W) => (lastM224 a c (fs[at_]).1 (fs[at_]).2 fs W (hs.next hb) hl ((hs.next hb).fld _ (List.getElem_mem hat))).mono (R' := fun e w' => ∃ z : Int, e = .returned (.int .i64 z) ∧ z < (at_ : Int) ∧ Below W.heap.size W w') (by
  rintro e w' ⟨z, rfl, hz, hb'⟩
  refine ⟨z, rfl, ?_, hb'⟩
  rcases hz with ⟨rfl, _⟩ | ⟨j, hj, rfl, h1, _⟩
  ·omega
  ·rcases Nat.lt_or_ge j at_ with h | h
   ·omega
   ·rw [hm j hj h] at h1; cases h1))
 clear hs hu hm
 generalize (fs[at_]).1 = q at *
 go_enter Tryz.func123, Tryz.ntmps123
 go_wp2_with (first | (go_at_call 77; refine (HI.out _ (Below.refl _ _)).mono ?_; rintro e w1 ⟨rfl, rfl⟩) | (go_at_call 151; refine (HX.out _ (Below.refl _ _)).mono ?_; rintro e w1 ⟨z, rfl, hz, hb1⟩; refine Hid.out ?_))
 have HB := tZ hb1
 clear hb1
 refine tZ ?_
 go_wp2
 go_ret2
 exact ⟨rfl, HB.out⟩
end
section
attribute [local go_sem] addr_add
theorem Sh.part {w : World} {S : Nat → Prop} {g o : Nat} {fs : List (Nat × Fd)} (h : Sh w S (some ⟨g, o, none⟩) fs) (i n c : Nat) (hn : i + n ≤ fs.length) : PtAt w (.slice (some ⟨g, o + i, none⟩) n c) ((fs.drop i).take n) := by
 have hl : ((fs.drop i).take n).length = n := by simp; omega
 refine ⟨_, c, by rw [hl], fun h => (by cases h), fun j hj => ?_⟩
 rw [hl] at hj
 obtain ⟨g', o', h1, h2, h3⟩ := h.ptr (i + j) (by omega)
 simp at h1
 obtain ⟨rfl, rfl⟩ := h1
 refine ⟨g, o + i, rfl, h.still g h2, ?_⟩
 rw [Nat.add_assoc, h3]
 simp
theorem PtAt.empty (w : World) (a : Addr) (c : Nat) : PtAt w (.slice (some a) 0 c) [] := ⟨some a, c, rfl, fun h => (by cases h), fun j hj => by simp at hj⟩
def aheadP (fs : List (Nat × Fd)) (at_ j : Nat) : List (Nat × Fd) := catP [fs.take j, (fs.drop at_).take 1, (fs.drop j).take (at_ - j), fs.drop (at_ + 1)]
theorem aheadSome {S : Nat → Prop} (a : Option Addr) (c at_ j0 : Nat) (fs : List (Nat × Fd)) (w : World) (hs : Sh w S a fs) (hl : fs.length ≤ 100) (hat : at_ < fs.length) (hj0 : j0 < at_) (hu : ∀ i (h : i < fs.length), i < at_ → (fs[i]).1 ≠ (fs[at_]).1) (hm : mentP (fs[at_]).2.nm (fs[j0]).2.p = true) (hn : ∀ i (h : i < fs.length), i < j0 → mentP (fs[at_]).2.nm (fs[i]).2.p = false) (hcap : fs.length ≤ c) :
  Calls Tryz.prog 124 #[.slice a fs.length c, .pointer (some ⟨(fs[at_]).1, 0, none⟩)] w fun e w' => ∃ v, e = .returned v ∧ w'.ownsRow w.heap.size 116 1 v (aheadP fs at_ j0).length (ptrs (aheadP fs at_ j0)) ∧ Below w.heap.size w w' := by
 have HI := tZ (fun W (hb : Below w.heap.size w W) => index136 a c (fs[at_]).1 at_ fs W (hs.next hb) (by omega) hat rfl hu)
 have HX := tZ (fun W (hb : Below w.heap.size w W) (hB : W.cell? ⟨w.heap.size, 0, none⟩ = some (.pointer (some ⟨(fs[at_]).1, 0, none⟩))) (hBl : w.heap.size < W.heap.size) => (indexFld a at_ c (.pointer (some ⟨w.heap.size, 0, none⟩)) W (fun j => ((fs[j]?).map fun x => x.1).getD 0) (fun j => ((fs[j]?).map fun x => mentP (fs[at_]).2.nm x.2.p).getD false) (by omega) (fun j hj => by
  obtain ⟨g, o, h1, h2, h3⟩ := (hs.next hb).ptr j (by omega)
  refine ⟨g, o, h1, Nat.lt_of_lt_of_le (hs.still g h2) hb.size, ?_⟩
  rw [h3]
  simp [show j < fs.length by omega]) (fun j hj W' hb' => by
  have hjl : j < fs.length := by omega
  have hs2 := (hs.next hb).next hb'
  have := closA (S := S) w.heap.size (fs[at_]).1 (fs[j]).1 (fs[at_]).2 (fs[j]).2 W' hs2.still (hs2.fld _ (List.getElem_mem hat)) (hs2.fld _ (List.getElem_mem hjl)) ((hb'.cell (p := ⟨w.heap.size, 0, none⟩) hBl).trans hB)
  simpa [hjl] using this)).mono (R' := fun r w' => r = .returned (.int .i64 (j0 : Int)) ∧ Below W.heap.size W w') (by
   rintro r w' ⟨z, rfl, hz, hb'⟩
   refine ⟨?_, hb'⟩
   rcases hz with ⟨_, h2⟩ | ⟨j, hj, rfl, h2, h3⟩
   ·have := h2 j0 hj0
    simp [show j0 < fs.length by omega, hm] at this
   ·have e : j = j0 := by
     rcases Nat.lt_trichotomy j j0 with h | h | h
     ·simp [show j < fs.length by omega, hn j (by omega) h] at h2
     ·exact h
     ·have := h3 j0 h
      simp [show j0 < fs.length by omega, hm] at this
    rw [e]))
 obtain ⟨ga, oa, rfl, _, _⟩ := hs.ptr at_ hat
 have hatz : (at_ : Int) ≤ (fs.length : Int) := by omega
 have hcz : (at_ : Int) ≤ (c : Int) := by omega
 have z1 : ¬ (j0 : Int) < 0 := by omega
 have z2 : (j0 : Int) ≤ (c : Int) := by omega
 have z3 : (at_ : Int) ≤ (at_ : Int) + 1 := by omega
 have z4 : (at_ : Int) + 1 ≤ (c : Int) := by omega
 have z5 : (j0 : Int) ≤ (at_ : Int) := by omega
 have z6 : (at_ : Int) + 1 ≤ (fs.length : Int) := by omega
 have z7 : (fs.length : Int) ≤ (c : Int) := by omega
 have y1 : ¬ c = at_ := by omega
 have y2 : ¬ c = j0 := by omega
 have y4 : ¬ at_ = 0 := by omega
 have hwr : IntKind.i64.wrap ((at_ : Int) + 1) = (at_ : Int) + 1 := by rw [IntKind.wrap_i64]; omega
 have z8 : (at_ : Int) < 100 := by omega
 have z9 : at_ + 1 ≤ c := by omega
 have z10 : at_ < c := by omega
 have z11 : at_ ≤ c := by omega
 have z12 : j0 ≤ c := by omega
 have z13 : j0 ≤ at_ := by omega
 have z14 : at_ + 1 ≤ fs.length := by omega
 have HS := tZ hs
 clear hs hu hm hn
 generalize (fs[at_]).1 = q at *
 go_enter Tryz.func124, Tryz.ntmps124
 go_wp2_with (first | (go_at_call 77; refine (HI.out _ (bZ _)).mono ?_; rintro e w1 ⟨rfl, rfl⟩; clear HI) | (go_at_call 154; refine (HX.out _ (bZ _) (by simp) (by simp)).mono ?_; rintro e w1 ⟨rfl, hb1⟩; refine Hid.out ?_))
 have HB := tZ (((Below.refl w.heap.size w).alloc (Nat.le_refl _) (.cells #[.pointer (some ⟨q, 0, none⟩)] 116)).trans (hb1.mono (by simp)))
 clear hb1 HX
 refine tZ ?_
 have HCON := tZ (show ∀ (c4 : Nat) (a4 : Addr), PtAt w1 (.slice (some a4) (fs.length - (at_ + 1)) c4) (fs.drop (at_ + 1)) → Calls Tryz.prog 76 #[.slice (some ⟨w1.heap.size, 0, none⟩) 4 4] (w1.alloc (.cells #[.slice (some ⟨ga, oa, none⟩) j0 c, .slice (some ⟨ga, oa + at_, none⟩) 1 (c - at_), .slice (some ⟨ga, oa + j0, none⟩) (at_ - j0) (c - j0), .slice (some a4) (fs.length - (at_ + 1)) c4] 58)).drew fun e w' => ∃ an ln cn, e = .returned (.slice an ln cn) ∧ w'.ownsRow w.heap.size 116 1 (.slice an ln cn) (aheadP fs at_ j0).length (ptrs (aheadP fs at_ j0)) ∧ Below w.heap.size w w' from fun c4 a4 h4 => by
  have hs1 := HS.out.next HB.out
  have hbW : Below w1.heap.size w1 (w1.alloc (.cells #[.slice (some ⟨ga, oa, none⟩) j0 c, .slice (some ⟨ga, oa + at_, none⟩) 1 (c - at_), .slice (some ⟨ga, oa + j0, none⟩) (at_ - j0) (c - j0), .slice (some a4) (fs.length - (at_ + 1)) c4] 58)).drew := (bZ _).drew
  have hrow : (w1.alloc (.cells #[.slice (some ⟨ga, oa, none⟩) j0 c, .slice (some ⟨ga, oa + at_, none⟩) 1 (c - at_), .slice (some ⟨ga, oa + j0, none⟩) (at_ - j0) (c - j0), .slice (some a4) (fs.length - (at_ + 1)) c4] 58)).drew.heap[w1.heap.size]? = some (.cells #[.slice (some ⟨ga, oa, none⟩) j0 c, .slice (some ⟨ga, oa + at_, none⟩) 1 (c - at_), .slice (some ⟨ga, oa + j0, none⟩) (at_ - j0) (c - j0), .slice (some a4) (fs.length - (at_ + 1)) c4] 58 (0, 0)) := heap_alloc_new w1 _
  have hszW : (w1.alloc (.cells #[.slice (some ⟨ga, oa, none⟩) j0 c, .slice (some ⟨ga, oa + at_, none⟩) 1 (c - at_), .slice (some ⟨ga, oa + j0, none⟩) (at_ - j0) (c - j0), .slice (some a4) (fs.length - (at_ + 1)) c4] 58)).drew.heap.size = w1.heap.size + 1 := by simp
  generalize (w1.alloc (.cells #[.slice (some ⟨ga, oa, none⟩) j0 c, .slice (some ⟨ga, oa + at_, none⟩) 1 (c - at_), .slice (some ⟨ga, oa + j0, none⟩) (at_ - j0) (c - j0), .slice (some a4) (fs.length - (at_ + 1)) c4] 58)).drew = W at *
  have hsW := hs1.next hbW
  obtain ⟨⟨r0, r1, r2, r3⟩, _, _⟩ := row4 hrow
  have p0 : PtAt W (.slice (some ⟨ga, oa, none⟩) j0 c) (fs.take j0) := by
   have := hsW.part 0 j0 c (by omega)
   simpa using this
  have p1 := hsW.part at_ 1 (c - at_) (by omega)
  have p2 := hsW.part j0 (at_ - j0) (c - j0) (by omega)
  have p3 := h4.next hbW
  refine (concat135 [fs.take j0, (fs.drop at_).take 1, (fs.drop j0).take (at_ - j0), fs.drop (at_ + 1)] [.slice (some ⟨ga, oa, none⟩) j0 c, .slice (some ⟨ga, oa + at_, none⟩) 1 (c - at_), .slice (some ⟨ga, oa + j0, none⟩) (at_ - j0) (c - j0), .slice (some a4) (fs.length - (at_ + 1)) c4] w1.heap.size 4 W rfl (by omega) (fun i hi => ?_) ?_ (by simp)).mono ?_
  ·rcases (show i = 0 ∨ i = 1 ∨ i = 2 ∨ i = 3 by simp at hi; omega) with rfl | rfl | rfl | rfl
   ·exact ⟨r0, p0⟩
   ·exact ⟨r1, p1⟩
   ·exact ⟨r2, p2⟩
   ·exact ⟨r3, p3⟩
  ·simp [catP]
   omega
  ·rintro r w' ⟨v, rfl, ho, hb'⟩
   obtain ⟨an, ln, cn, rfl⟩ := own_slice ho
   exact ⟨an, ln, cn, rfl, own_base ho (Nat.le_trans HB.out.size hbW.size), HB.out.trans ((hbW.trans (hb'.mono hbW.size)).mono HB.out.size)⟩)
 have hs1 := HS.out.next HB.out
 by_cases y3 : c = at_ + 1
 ·have HC1 := tZ (HCON.out 0 ⟨ga, oa, none⟩ (by
   have e1 : fs.length - (at_ + 1) = 0 := by omega
   rw [e1, List.drop_of_length_le (by omega)]
   exact PtAt.empty _ _ _))
  subst y3
  rw [show fs.length - (at_ + 1) = 0 by omega, show at_ + 1 - at_ = 1 by omega] at HC1
  clear HCON hs1
  go_wp2_with fail
  go_region_with (first | (go_at_call 76; refine HC1.out.mono ?_; rintro r w3 ⟨an, ln, cn, rfl, ho, hb3⟩; have C1 := tZ ho; have C2 := tZ hb3; clear ho hb3))
  all_goals go_wp2
  all_goals refine bodyPost_ret (v := .slice an ln cn) (by simp [results, Tryz.results124, go_sem]) (by simp [go_sem]) ?_
  all_goals exact ⟨_, rfl, C1.out, C2.out⟩
 ·have HC1 := tZ (HCON.out (c - (at_ + 1)) ⟨ga, oa + (at_ + 1), none⟩ (by
   have := hs1.part (at_ + 1) (fs.length - (at_ + 1)) (c - (at_ + 1)) (by omega)
   rw [List.take_of_length_le (by simp)] at this
   exact this))
  clear HCON hs1
  go_wp2_with fail
  go_region_with (first | (go_at_call 76; refine HC1.out.mono ?_; rintro r w3 ⟨an, ln, cn, rfl, ho, hb3⟩; have C1 := tZ ho; have C2 := tZ hb3; clear ho hb3))
  all_goals go_wp2
  all_goals refine bodyPost_ret (v := .slice an ln cn) (by simp [results, Tryz.results124, go_sem]) (by simp [go_sem]) ?_
  all_goals exact ⟨_, rfl, C1.out, C2.out⟩
end
end Go.Proofs.YtihgojcfpnhelabGreatDoor
