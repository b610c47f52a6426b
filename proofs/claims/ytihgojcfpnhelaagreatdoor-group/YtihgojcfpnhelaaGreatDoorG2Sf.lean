import Derived.Test.YtihgojcfpnhelaaGreatDoorG2Se
set_option maxRecDepth 100000
set_option maxHeartbeats 4000000
set_option linter.unusedVariables false
set_option linter.unusedSimpArgs false
namespace Go.Proofs.YtihgojcfpnhelaaGreatDoor
open Go.RowKit
section
theorem entersA : ∀ args w, (callFunc 237 args).run Tryz.prog w = .ok (.enter 237 args) w := enters_of Tryz.func237 (by kernel_rfl) rfl
theorem closA {S : Nat → Prop} (B b q : Nat) (f g : Fd) (w : World) (hS : ∀ q, S q → q < w.heap.size) (hf : FdAt w S b f) (hg : FdAt w S q g) (hB : w.cell? ⟨B, 0, none⟩ = some (.pointer (some ⟨b, 0, none⟩))) :
  Calls Tryz.prog 237 #[.pointer (some ⟨q, 0, none⟩), .pointer (some ⟨B, 0, none⟩)] w fun e w' => e = .returned (.bool (mentP f.nm g.p)) ∧ Below w.heap.size w w' := by
 obtain ⟨_, _, _, _, a1, l1, c1, hb, _⟩ := hf
 obtain ⟨_, _, _, _, a2, l2, c2, hq, hP⟩ := hg
 obtain ⟨⟨k0, _⟩, _, _⟩ := row7 hb
 obtain ⟨⟨_, j1, j2, j3, j4, _⟩, _, _⟩ := row7 hq
 have HM := toHid (ruleMentions f.nm g.p a2 l2 c2 w.drew (hP.next fun _ _ => rfl) hS)
 clear hb hq hP
 go_enter Tryz.func237, Tryz.ntmps237
 go_wp2_with fail
 go_region_with (first | (go_at_call 195; refine HM.out.mono ?_; rintro e w1 ⟨rfl, hb1⟩; have B1 := toHid hb1; clear hb1))
 all_goals go_wp2
 all_goals go_ret
 all_goals exact ⟨rfl, (Below.refl _ _).drew.trans B1.out⟩
theorem indexFld (a : Option Addr) (n c : Nat) (lb : Value) (w : World) (q : Nat → Nat) (f : Nat → Bool) (hn : n ≤ 1000)
  (hK : ∀ j, j < n → ∃ g o, a = some ⟨g, o, none⟩ ∧ g < w.heap.size ∧ w.cell? ⟨g, o + j, none⟩ = some (.pointer (some ⟨q j, 0, none⟩)))
  (hp : ∀ j, j < n → ∀ W, Below w.heap.size w W → Calls Tryz.prog 237 #[.pointer (some ⟨q j, 0, none⟩), lb] W fun e w' => e = .returned (.bool (f j)) ∧ Below W.heap.size W w') :
  Calls Tryz.prog 236 #[.slice a n c, .func (.func 237) #[] #[lb]] w fun e w' => ∃ z : Int, e = .returned (.int .i64 z) ∧ ((z = -1 ∧ ∀ j, j < n → f j = false) ∨ ∃ j : Nat, j < n ∧ z = (j : Int) ∧ f j = true ∧ ∀ i, i < j → f i = false) ∧ Below w.heap.size w w' := by
 have HK := toHid hK
 have HP := toHid hp
 have eg := entersA
 clear hK hp
 go_enter Tryz.func236, Tryz.ntmps236
 go_wp2_with fail
 go_loopg [5, 8] n (fun gk _ s8 wr => ∃ j : Nat, j ≤ n ∧ n ≤ j + gk ∧ s8 = .int .i64 (j : Int) ∧ Hid (Below w.heap.size w wr) ∧ Hid (∀ i, i < j → f i = false))
 case atStart => exact ⟨0, Nat.zero_le _, by omega, rfl, Below.refl _ _, fun i hi => by omega⟩
 case round =>
  obtain ⟨j, hj, hgk, rfl, HB, HF⟩ := hrel
  by_cases hlt : j < n
  ·obtain ⟨g, o, rfl, hg, c0⟩ := HK.out j hlt
   have d0 := (HB.out.cell (p := ⟨g, o + j, none⟩) hg).trans c0
   have HC := toHid (HP.out j hlt wr HB.out)
   have HSZ := toHid HB.out.size
   have hltz : (j : Int) < (n : Int) := by omega
   clear c0
   cases hf : f j with
   | true =>
    rw [hf] at HC
    go_wp2_with (first | (go_at_fn 237; refine HC.out.mono ?_; rintro e w1 ⟨rfl, hb1⟩) | (go_at_call 237; refine HC.out.mono ?_; rintro e w1 ⟨rfl, hb1⟩))
    go_ret
    exact ⟨_, rfl, Or.inr ⟨j, hlt, rfl, hf, HF.out⟩, HB.out.trans (hb1.mono HSZ.out)⟩
   | false =>
    rw [hf] at HC
    go_wp2_with (first | (go_at_fn 237; refine HC.out.mono ?_; rintro e w1 ⟨rfl, hb1⟩) | (go_at_call 237; refine HC.out.mono ?_; rintro e w1 ⟨rfl, hb1⟩))
    go_roundg (n - (j + 1))
    case measure => omega
    case rel =>
     refine ⟨j + 1, by omega, by omega, by go_num, HB.out.trans (hb1.mono HSZ.out), (show Hid _ from fun i hi => ?_)⟩
     by_cases e : i = j
     ·subst e; exact hf
     ·exact HF.out i (by omega)
  ·have hltz : ¬ (j : Int) < (n : Int) := by omega
   go_wp2
   go_ret
   exact ⟨_, rfl, Or.inl ⟨rfl, fun i hi => HF.out i (by omega)⟩, HB.out⟩
theorem lastM224 {S : Nat → Prop} (a : Option Addr) (c b : Nat) (f : Fd) (fs : List (Nat × Fd)) (w : World) (hs : Sh w S a fs) (hl : fs.length ≤ 1000) (hf : FdAt w S b f) :
  Calls Tryz.prog 233 #[.slice a fs.length c, .pointer (some ⟨b, 0, none⟩)] w fun e w' => ∃ z : Int, e = .returned (.int .i64 z) ∧ ((z = -1 ∧ ∀ j (h : j < fs.length), mentP (fs[j]).2.nm f.p = false) ∨ ∃ j : Nat, ∃ h : j < fs.length, z = (j : Int) ∧ mentP (fs[j]).2.nm f.p = true ∧ ∀ i (hi : i < fs.length), j < i → mentP (fs[i]).2.nm f.p = false) ∧ Below w.heap.size w w' := by
 have HS := toHid hs
 obtain ⟨_, _, _, _, a1, l1, c1, hb, hP⟩ := hf
 have hbl : b < w.heap.size := (Array.getElem?_eq_some_iff.1 hb).1
 have HB0 := toHid hb
 have HM := toHid (fun x W (hW : Below w.heap.size w W) => ruleMentions x f.p a1 l1 c1 W (hP.next fun q hq => hW.block q (hs.still q hq)) (fun q hq => Nat.lt_of_lt_of_le (hs.still q hq) hW.size))
 clear hs hb hP
 go_enter Tryz.func233, Tryz.ntmps233
 go_wp2_with fail
 go_loopg [5] (fs.length + 1) (fun gk s5 wr => ∃ j : Nat, j ≤ fs.length ∧ j < gk ∧ s5 = .int .i64 ((j : Int) - 1) ∧ Hid (Below w.heap.size w wr) ∧ Hid (∀ i (hi : i < fs.length), j ≤ i → mentP (fs[i]).2.nm f.p = false))
 case atStart => exact ⟨fs.length, Nat.le_refl _, by omega, rfl, Below.refl _ _, fun i hi h => by omega⟩
 case round =>
  obtain ⟨j, hj, hgk, rfl, HB, HF⟩ := hrel
  cases j with
  | zero =>
   have hz : ¬ (0 : Int) ≤ ((0 : Nat) : Int) - 1 := by omega
   go_wp2
   go_ret
   exact ⟨_, rfl, Or.inl ⟨rfl, fun i hi => HF.out i hi (by omega)⟩, HB.out⟩
  | succ j =>
   have hj1 : (((j + 1 : Nat) : Int) - 1) = (j : Int) := by omega
   rw [hj1]
   have hz : (0 : Int) ≤ (j : Int) := by omega
   have hltz : (j : Int) < (fs.length : Int) := by omega
   obtain ⟨g, o, rfl, hg, hp⟩ := HS.out.ptr j (by omega)
   have hp' := (HB.out.cell (p := ⟨g, o + j, none⟩) (HS.out.still g hg)).trans hp
   have hq := HS.out.fld fs[j] (List.getElem_mem (by omega))
   have hql := hq.lt
   obtain ⟨_, _, _, _, a2, l2, c2, hb2, _⟩ := hq
   obtain ⟨⟨k0, _⟩, _, _⟩ := row7 ((HB.out.block _ hql).trans hb2)
   obtain ⟨⟨_, j1, j2, j3, j4, _⟩, _, _⟩ := row7 ((HB.out.block b hbl).trans HB0.out)
   have HC := toHid (HM.out (fs[j]).2.nm wr.drew HB.out.drew)
   have hsz := HB.out.size
   have hmm : ∀ i (hi : i < fs.length), j + 1 ≤ i → mentP (fs[i]).2.nm f.p = false := HF.out
   clear hb2 hp
   cases hm : mentP (fs[j]).2.nm f.p with
   | true =>
    have HFIN := toHid (show ((-1 : Int) = -1 ∧ False) ∨ ∃ i : Nat, ∃ h : i < fs.length, (j : Int) = (i : Int) ∧ mentP (fs[i]).2.nm f.p = true ∧ ∀ i' (hi : i' < fs.length), i < i' → mentP (fs[i']).2.nm f.p = false from Or.inr ⟨j, by omega, rfl, hm, fun i hi h => hmm i hi (by omega)⟩)
    rw [hm] at HC
    clear hm hmm HF
    generalize fs[j] = ff at *
    go_wp2_with fail
    go_region_with (first | (go_at_call 195; refine HC.out.mono ?_; rintro e w1 ⟨rfl, hb1⟩; have B1 := toHid hb1; clear hb1))
    all_goals go_wp2
    all_goals go_ret
    all_goals exact ⟨_, rfl, Or.inr (HFIN.out.elim (fun h => h.2.elim) id), HB.out.drew.trans (B1.out.mono hsz)⟩
   | false =>
    have HF2 := toHid (show ∀ i (hi : i < fs.length), j ≤ i → mentP (fs[i]).2.nm f.p = false from fun i hi h => by
     by_cases e : i = j
     ·subst e; exact hm
     ·exact hmm i hi (by omega))
    rw [hm] at HC
    clear hm hmm HF
    generalize fs[j] = ff at *
    go_wp2_with fail
    go_region_with (first | (go_at_call 195; refine HC.out.mono ?_; rintro e w1 ⟨rfl, hb1⟩; have B1 := toHid hb1; clear hb1))
    all_goals go_wp2
    all_goals go_roundg (gk - 1)
    all_goals try (case measure => omega)
    all_goals exact ⟨j, by omega, by omega, by go_num, HB.out.drew.trans (B1.out.mono hsz), HF2⟩
end
end Go.Proofs.YtihgojcfpnhelaaGreatDoor
