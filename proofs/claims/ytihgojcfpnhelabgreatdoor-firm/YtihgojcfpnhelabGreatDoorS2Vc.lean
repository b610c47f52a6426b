import Derived.Test.YtihgojcfpnhelabGreatDoorS2Jw
set_option maxRecDepth 100000
set_option maxHeartbeats 4000000
set_option linter.unusedVariables false
set_option linter.unusedSimpArgs false
namespace Go.Proofs.YtihgojcfpnhelabGreatDoor
open Go.RowKit
section
attribute [local go_sem] idx_eq app_eq
variable {W0 w w' W w1 w2 : World} {T T' : Nat → Prop} {e k i n : Nat} {a a' : Ab} {s t x : By} {l : Ln} {fs fs' : List Fd} {nm : List By}
theorem oneF {z : Int} (h : Sts W0 T [⟨e, 0, a⟩] w) (hE : Env W0) (hL : EnvL W0) (hg : a.grp = none) (hn : NmOk x) (ho : NmO x) (hv : (valA a.fs x).2 = (3, z)) :
  Calls Tryz.prog 9 #[.pointer (some ⟨e, 0, none⟩), .string ⟨x.toArray⟩, .int .i64 z] w fun r w' => r = .returned (.bool true) ∧ Lv W0 T [⟨e, 0, a⟩] w w' :=
 Sts.failsA (E := [⟨e, 0, a⟩]) (i := 0) h hE hL (by simp) (by simp) hg hn ho hv
theorem row_at {b j : Nat} {α : Type} {l : List α} {f : α → Value} {A : Array Value} {ty : TypeId} {d : α} (h : w.heap[b]? = some (.cells A ty (0, 0))) (hA : A = (l.map f).toArray) (hj : j < l.length) : w.cell? ⟨b, j, none⟩ = some (f (l.getD j d)) := by
 rw [cell_of_row w b j _ _ _ h, hA]
 simp [hj]
theorem fm_three {E : List En} (h : Sts W0 T E w) (A B C : Array Value) (ta tb tc : TypeId) : ∃ T, T w.heap.size ∧ T (w.heap.size + 1) ∧ T (w.heap.size + 1 + 1) ∧ Sts W0 T E (((w.alloc (.cells A ta)).alloc (.cells B tb)).alloc (.cells C tc)) ∧ (((w.alloc (.cells A ta)).alloc (.cells B tb)).alloc (.cells C tc)).heap[w.heap.size]? = some (.cells A ta (0, 0)) ∧ (((w.alloc (.cells A ta)).alloc (.cells B tb)).alloc (.cells C tc)).heap[w.heap.size + 1]? = some (.cells B tb (0, 0)) ∧ (((w.alloc (.cells A ta)).alloc (.cells B tb)).alloc (.cells C tc)).heap[w.heap.size + 1 + 1]? = some (.cells C tc (0, 0)) := by
 have hb : Below w.heap.size w (((w.alloc (.cells A ta)).alloc (.cells B tb)).alloc (.cells C tc)) := ((bZ _).alloc (by simp) _).alloc (by simp; omega) _
 have s1 : (w.alloc (.cells A ta)).heap.size = w.heap.size + 1 := by simp
 have s2 : ((w.alloc (.cells A ta)).alloc (.cells B tb)).heap.size = w.heap.size + 1 + 1 := by simp
 have s3 : (((w.alloc (.cells A ta)).alloc (.cells B tb)).alloc (.cells C tc)).heap.size = w.heap.size + 1 + 1 + 1 := by simp
 have r1 := heap_alloc_new w (.cells A ta)
 have r2 := heap_alloc_new (w.alloc (.cells A ta)) (.cells B tb)
 have r3 := heap_alloc_new ((w.alloc (.cells A ta)).alloc (.cells B tb)) (.cells C tc)
 rw [s1] at r2
 rw [s2] at r3
 refine ⟨_, ?_, ?_, ?_, h.grow hb, ?_, ?_, r3⟩
 ·exact Or.inr ⟨Nat.le_refl _, by omega⟩
 ·exact Or.inr ⟨by omega, by omega⟩
 ·exact Or.inr ⟨by omega, by omega⟩
 ·rw [Below.heap_alloc _ _ _ (by omega), Below.heap_alloc _ _ _ (by omega)]
  exact r1
 ·rw [Below.heap_alloc _ _ _ (by omega)]
  exact r2
theorem fm_j {j n gk : Nat} (h : j < n) (hg : n ≤ j + gk) : j + 1 ≤ n ∧ n ≤ j + 1 + (n - (j + 1)) ∧ n - (j + 1) < gk := by omega
theorem fm_lt {j : Nat} (h : j < 4) : (j : Int) < 4 := by omega
theorem fm_ge {j : Nat} (h : 4 ≤ j) : ¬ (j : Int) < 4 := by omega
theorem fm_lt2 {j : Nat} (h : j < 22) : (j : Int) < 22 := by omega
theorem fm_ge2 {j : Nat} (h : 22 ≤ j) : ¬ (j : Int) < 22 := by omega
theorem fm_nz {n : Nat} (h : 0 < n) : ((n : Int) == 0) = false := by simp; omega
theorem few_len2 (h : Few x) : x.length = 2 := by
 obtain ⟨i, _, rfl⟩ := h
 simp [fN]
theorem getD_in {α : Type} {l : List α} {j : Nat} {d : α} (h : j < l.length) : l.getD j d ∈ l := by
 rw [List.getD_eq_getElem?_getD, List.getElem?_eq_getElem h]
 exact List.getElem_mem h
theorem firmHolds (ao : Option Addr) (len cap : Nat) (S : Nat → By) (hlen : len ≤ maxLen) (hraw : RawS W0 W0.heap.size ao len S) (hE : Env W0) (hL : EnvL W0) :
  Calls Tryz.prog 3 #[.slice ao len cap] W0 fun r w' => r = .returned (.bool true) ∧ Below W0.heap.size W0 w' := by
 have HBG := tZ ((Sts.empty W0).beginA 3 (by decide))
 have HA1 := tZ (lnA_ok (a := ⟨3, [], [], [], none⟩) rfl fm_s1)
 have HA2 := tZ (lnA_ok (a := ⟨3, [⟨[97], nP 98, (3, 3)⟩], [[]], [], none⟩) rfl fm_s2)
 obtain ⟨P, hP⟩ : ∃ P, ([[⟨[97], nP 98, (3, 3)⟩], []] : List (List Fd)) = P := ⟨_, rfl⟩
 obtain ⟨f0, f1⟩ := eds_has (a := ⟨3, fmF, P, [], none⟩) (x := [109]) S rfl fm_ok (fun h => by have := few_len2 h; simp at this) (show ([109] : By) ∈ fmF.map fun g => g.nm by decide) (min len 20)
 have hG : (edsA ⟨3, fmF, P, [], none⟩ S (min len 20)).grp = none := edsA_grp S rfl _
 have HED : Hid (∀ T e W, Sts W0 T [⟨e, 0, ⟨3, fmF, P, [], none⟩⟩] W → Calls Tryz.prog 10 #[.pointer (some ⟨e, 0, none⟩), .slice ao len cap] W fun r w' => r = .returned (.tuple #[]) ∧ Lv W0 T [⟨e, 0, edsA ⟨3, fmF, P, [], none⟩ S (min len 20)⟩] W w') := tZ fun T e W h => edits_ok (E := [⟨e, 0, ⟨3, fmF, P, [], none⟩⟩]) (i := 0) h hE hL (by simp) rfl ao len cap S hlen hraw
 generalize edsA ⟨3, fmF, P, [], none⟩ S (min len 20) = A3 at *
 obtain ⟨nm8, h8⟩ := set_self f0.gf (nP_shape 109) f1 (by decide)
 have HA8 := tZ (lnA_err hG h8)
 have HE := tZ hE
 have HL := tZ hL
 have HPP := tZ hP
 have HCA := tZ (fun x hx => fc_ans (M := 3) (P := P) x hx)
 have HMA := tZ (fun x hx => fm_ans (M := 3) (P := P) x hx)
 clear hE hL hraw hlen f0 f1 h8 hP
 go_enter Tryz.func3, Tryz.ntmps3
 go_wp2_with (first | (go_at_call 5; refine HBG.out.mono ?_; rintro r w1 ⟨e, rfl, h1⟩; have H1 := tZ h1; clear h1; refine Hid.out ?_))
 refine tZ ?_
 go_wp2_with (first | (go_at_call 6; refine (oneD H1.out.2 HE.out HL.out (isLn_nm 0 1) HA1.out rfl).mono ?_; rintro r w2 ⟨rfl, h1⟩; have H2 := tZ h1; clear h1; refine Hid.out ?_))
 refine tZ ?_
 go_wp2_with (first | (go_at_call 6; refine (oneD H2.out.2 HE.out HL.out (isLn_nm 12 0) HA2.out rfl).mono ?_; rintro r w3 ⟨rfl, h1⟩; have H3 := tZ h1; clear h1; refine Hid.out ?_))
 refine tZ ?_
 have HS3 : Hid (Sts W0 (fun _ => False) [⟨e, 0, ⟨3, fmF, P, [], none⟩⟩] w3) := tZ (by rw [← HPP.out]; exact H3.out.2)
 go_wp2_with (first | (go_at_call 7; refine (oneT HS3.out HE.out HL.out rfl).mono ?_; rintro r w4 ⟨rfl, h1⟩; have H4 := tZ h1; clear h1; refine Hid.out ?_))
 refine tZ ?_
 clear H1 H2 H3 HS3 HBG HA1 HA2
 obtain ⟨tb, htb⟩ : ∃ tb, lsA (⟨3, fmF, P, [], none⟩ : Ab).fs = tb := ⟨_, rfl⟩
 rw [htb]
 have HTB := tZ htb
 clear htb
 have HR5 := tZ (heap_alloc_new w4 (.cells #[.string ⟨#[115, 101, 116, 32, 99, 32, 61, 32, 99]⟩, .string ⟨#[114, 101, 110, 97, 109, 101, 32, 109, 32, 98]⟩, .string ⟨#[115, 101, 116, 32, 97, 32, 61, 32, 109]⟩, .string ⟨#[115, 101, 116, 32, 97, 32, 61, 32, 105, 102, 40, 49, 44, 32, 50, 44, 32, 109, 41]⟩] 9))
 have HS5 := tZ (H4.out.add1 (o := .cells #[.string ⟨#[115, 101, 116, 32, 99, 32, 61, 32, 99]⟩, .string ⟨#[114, 101, 110, 97, 109, 101, 32, 109, 32, 98]⟩, .string ⟨#[115, 101, 116, 32, 97, 32, 61, 32, 109]⟩, .string ⟨#[115, 101, 116, 32, 97, 32, 61, 32, 105, 102, 40, 49, 44, 32, 50, 44, 32, 109, 41]⟩] 9))
 go_wp2_with fail
 generalize w4.alloc (.cells #[.string ⟨#[115, 101, 116, 32, 99, 32, 61, 32, 99]⟩, .string ⟨#[114, 101, 110, 97, 109, 101, 32, 109, 32, 98]⟩, .string ⟨#[115, 101, 116, 32, 97, 32, 61, 32, 109]⟩, .string ⟨#[115, 101, 116, 32, 97, 32, 61, 32, 105, 102, 40, 49, 44, 32, 50, 44, 32, 109, 41]⟩] 9) = w5 at *
 generalize w4.heap.size = bl at *
 clear H4
 go_loopg [8, 9] 4 (fun gk i _ wr => ∃ j : Nat, j ≤ 4 ∧ 4 ≤ j + gk ∧ i = .int .i64 (j : Int) ∧ Hid (Sts W0 (fun q => False ∨ q = bl) [⟨e, 0, ⟨3, fmF, P, [], none⟩⟩] wr ∧ wr.heap[bl]? = some (.cells #[.string ⟨#[115, 101, 116, 32, 99, 32, 61, 32, 99]⟩, .string ⟨#[114, 101, 110, 97, 109, 101, 32, 109, 32, 98]⟩, .string ⟨#[115, 101, 116, 32, 97, 32, 61, 32, 109]⟩, .string ⟨#[115, 101, 116, 32, 97, 32, 61, 32, 105, 102, 40, 49, 44, 32, 50, 44, 32, 109, 41]⟩] 9 (0, 0))))
 case atStart => exact ⟨0, by decide, by decide, rfl, tZ ⟨HS5.out, HR5.out⟩⟩
 case round =>
  obtain ⟨j, hj4, hgk, rfl, HI⟩ := hrel
  rcases Nat.lt_or_ge j 4 with hjn | hjn
  ·have hlt := fm_lt hjn
   have hc := row_at (l := fmC) (f := fun x => .string ⟨x.1.toArray⟩) (d := ([], .list)) HI.out.2 rfl hjn
   have hin : fmC.getD j ([], .list) ∈ fmC := getD_in hjn
   generalize fmC.getD j ([], .list) = x at *
   obtain ⟨nm, hnm, ha⟩ := HCA.out x hin
   have HLX := tZ (fc_read x hin)
   have HAX := tZ ha
   have hn0 := fm_nz (List.length_pos_iff.2 hnm)
   have HUP := tZ (fm_j hjn hgk)
   clear hin ha hnm
   go_wp2_with (first | (go_at_call 8; refine (oneE nm.length HI.out.1 HE.out HL.out HLX.out HAX.out rfl rfl).mono ?_; rintro r w6 ⟨bn, cn, rfl, h1, h3, h4⟩; have H6 := tZ h3; clear h1 h3 h4; refine Hid.out ?_))
   refine tZ ?_
   have HS7 := tZ (H6.out.add1 (o := .cells #[.int .i64 8, .int .i64 0, .string ⟨#[]⟩, .slice bn nm.length cn, .int .i64 0, .int .i64 0] 30))
   obtain ⟨⟨m0, m1, m2, m3, m4, m5⟩, _, hsz⟩ := row6 (heap_alloc_new w6 (.cells #[.int .i64 8, .int .i64 0, .string ⟨#[]⟩, .slice bn nm.length cn, .int .i64 0, .int .i64 0] 30))
   have HN : Hid (Sts W0 (fun q => False ∨ q = bl) [⟨e, 0, ⟨3, fmF, P, [], none⟩⟩] (w6.alloc (.cells #[.int .i64 8, .int .i64 0, .string ⟨#[]⟩, .slice bn nm.length cn, .int .i64 0, .int .i64 0] 30)) ∧ (w6.alloc (.cells #[.int .i64 8, .int .i64 0, .string ⟨#[]⟩, .slice bn nm.length cn, .int .i64 0, .int .i64 0] 30)).heap[bl]? = some (.cells #[.string ⟨#[115, 101, 116, 32, 99, 32, 61, 32, 99]⟩, .string ⟨#[114, 101, 110, 97, 109, 101, 32, 109, 32, 98]⟩, .string ⟨#[115, 101, 116, 32, 97, 32, 61, 32, 109]⟩, .string ⟨#[115, 101, 116, 32, 97, 32, 61, 32, 105, 102, 40, 49, 44, 32, 50, 44, 32, 109, 41]⟩] 9 (0, 0))) := tZ ⟨HS7.out.less fun q hq => Or.inl hq, (Below.heap_alloc w6 _ bl (H6.out.2.tlt bl (Or.inr rfl))).trans ((H6.out.1.block bl (Or.inr rfl)).trans HI.out.2)⟩
   go_wp2_with fail
   go_roundg (4 - (j + 1))
   case measure => exact HUP.out.2.2
   case rel => exact ⟨j + 1, HUP.out.1, HUP.out.2.1, by simp, HN⟩
  ·have hge := fm_ge hjn
   have HS6 := tZ HI.out.1
   clear HI HR5 HS5 hgk hj4 HCA
   have HX : Hid (∃ T, T wr.heap.size ∧ T (wr.heap.size + 1) ∧ T (wr.heap.size + 1 + 1) ∧ Sts W0 T [⟨e, 0, ⟨3, fmF, P, [], none⟩⟩] (((wr.alloc (.cells #[.int .i64 3, .int .i64 3, .int .i64 2, .int .i64 3, .int .i64 3, .int .i64 3, .int .i64 3, .int .i64 3, .int .i64 2, .int .i64 3, .int .i64 4, .int .i64 4, .int .i64 5, .int .i64 5, .int .i64 5, .int .i64 5, .int .i64 6, .int .i64 6, .int .i64 10, .int .i64 10, .int .i64 11, .int .i64 3] 28)).alloc (.cells #[.string ⟨#[]⟩, .string ⟨#[32, 32]⟩, .string ⟨#[65]⟩, .string ⟨#[119, 104, 97, 116]⟩, .string ⟨#[115, 101, 116]⟩, .string ⟨#[115, 101, 116, 32, 105, 102, 32, 61, 32, 50]⟩, .string ⟨#[115, 101, 116, 32, 97, 32, 61]⟩, .string ⟨#[115, 101, 116, 32, 97, 32, 61, 32, 49, 32, 50]⟩, .string ⟨#[115, 101, 116, 32, 97, 32, 61, 32, 36]⟩, .string ⟨#[115, 101, 116, 32, 97, 32, 61, 32, 41]⟩, .string ⟨#[115, 101, 116, 32, 97, 32, 61, 32, 40, 40, 40, 40, 40, 40, 45, 49]⟩, .string ⟨#[115, 101, 116, 32, 97, 32, 61, 32, 110, 111, 116, 32, 110, 111, 116, 32, 110, 111, 116, 32, 110, 111, 116, 32, 110, 111, 116, 32, 110, 111, 116, 32, 110, 111, 116, 32, 49]⟩, .string ⟨#[100, 101, 108, 101, 116, 101, 32, 99]⟩, .string ⟨#[118, 97, 108, 117, 101, 32, 99]⟩, .string ⟨#[114, 117, 108, 101, 32, 99]⟩, .string ⟨#[114, 101, 110, 97, 109, 101, 32, 99, 32, 100]⟩, .string ⟨#[114, 101, 110, 97, 109, 101, 32, 97, 32, 109]⟩, .string ⟨#[114, 101, 110, 97, 109, 101, 32, 97, 32, 97]⟩, .string ⟨#[99, 111, 109, 109, 105, 116]⟩, .string ⟨#[99, 97, 110, 99, 101, 108]⟩, .string ⟨#[114, 101, 100, 111]⟩, .string ⟨#[117, 110, 100, 111, 32, 49]⟩] 9)).alloc (.cells #[.int .i64 0, .int .i64 2, .int .i64 0, .int .i64 0, .int .i64 3, .int .i64 4, .int .i64 7, .int .i64 10, .int .i64 8, .int .i64 8, .int .i64 14, .int .i64 32, .int .i64 0, .int .i64 0, .int .i64 0, .int .i64 0, .int .i64 0, .int .i64 0, .int .i64 0, .int .i64 0, .int .i64 0, .int .i64 5] 3)) ∧ (((wr.alloc (.cells #[.int .i64 3, .int .i64 3, .int .i64 2, .int .i64 3, .int .i64 3, .int .i64 3, .int .i64 3, .int .i64 3, .int .i64 2, .int .i64 3, .int .i64 4, .int .i64 4, .int .i64 5, .int .i64 5, .int .i64 5, .int .i64 5, .int .i64 6, .int .i64 6, .int .i64 10, .int .i64 10, .int .i64 11, .int .i64 3] 28)).alloc (.cells #[.string ⟨#[]⟩, .string ⟨#[32, 32]⟩, .string ⟨#[65]⟩, .string ⟨#[119, 104, 97, 116]⟩, .string ⟨#[115, 101, 116]⟩, .string ⟨#[115, 101, 116, 32, 105, 102, 32, 61, 32, 50]⟩, .string ⟨#[115, 101, 116, 32, 97, 32, 61]⟩, .string ⟨#[115, 101, 116, 32, 97, 32, 61, 32, 49, 32, 50]⟩, .string ⟨#[115, 101, 116, 32, 97, 32, 61, 32, 36]⟩, .string ⟨#[115, 101, 116, 32, 97, 32, 61, 32, 41]⟩, .string ⟨#[115, 101, 116, 32, 97, 32, 61, 32, 40, 40, 40, 40, 40, 40, 45, 49]⟩, .string ⟨#[115, 101, 116, 32, 97, 32, 61, 32, 110, 111, 116, 32, 110, 111, 116, 32, 110, 111, 116, 32, 110, 111, 116, 32, 110, 111, 116, 32, 110, 111, 116, 32, 110, 111, 116, 32, 49]⟩, .string ⟨#[100, 101, 108, 101, 116, 101, 32, 99]⟩, .string ⟨#[118, 97, 108, 117, 101, 32, 99]⟩, .string ⟨#[114, 117, 108, 101, 32, 99]⟩, .string ⟨#[114, 101, 110, 97, 109, 101, 32, 99, 32, 100]⟩, .string ⟨#[114, 101, 110, 97, 109, 101, 32, 97, 32, 109]⟩, .string ⟨#[114, 101, 110, 97, 109, 101, 32, 97, 32, 97]⟩, .string ⟨#[99, 111, 109, 109, 105, 116]⟩, .string ⟨#[99, 97, 110, 99, 101, 108]⟩, .string ⟨#[114, 101, 100, 111]⟩, .string ⟨#[117, 110, 100, 111, 32, 49]⟩] 9)).alloc (.cells #[.int .i64 0, .int .i64 2, .int .i64 0, .int .i64 0, .int .i64 3, .int .i64 4, .int .i64 7, .int .i64 10, .int .i64 8, .int .i64 8, .int .i64 14, .int .i64 32, .int .i64 0, .int .i64 0, .int .i64 0, .int .i64 0, .int .i64 0, .int .i64 0, .int .i64 0, .int .i64 0, .int .i64 0, .int .i64 5] 3)).heap[wr.heap.size]? = some (.cells #[.int .i64 3, .int .i64 3, .int .i64 2, .int .i64 3, .int .i64 3, .int .i64 3, .int .i64 3, .int .i64 3, .int .i64 2, .int .i64 3, .int .i64 4, .int .i64 4, .int .i64 5, .int .i64 5, .int .i64 5, .int .i64 5, .int .i64 6, .int .i64 6, .int .i64 10, .int .i64 10, .int .i64 11, .int .i64 3] 28 (0, 0)) ∧ (((wr.alloc (.cells #[.int .i64 3, .int .i64 3, .int .i64 2, .int .i64 3, .int .i64 3, .int .i64 3, .int .i64 3, .int .i64 3, .int .i64 2, .int .i64 3, .int .i64 4, .int .i64 4, .int .i64 5, .int .i64 5, .int .i64 5, .int .i64 5, .int .i64 6, .int .i64 6, .int .i64 10, .int .i64 10, .int .i64 11, .int .i64 3] 28)).alloc (.cells #[.string ⟨#[]⟩, .string ⟨#[32, 32]⟩, .string ⟨#[65]⟩, .string ⟨#[119, 104, 97, 116]⟩, .string ⟨#[115, 101, 116]⟩, .string ⟨#[115, 101, 116, 32, 105, 102, 32, 61, 32, 50]⟩, .string ⟨#[115, 101, 116, 32, 97, 32, 61]⟩, .string ⟨#[115, 101, 116, 32, 97, 32, 61, 32, 49, 32, 50]⟩, .string ⟨#[115, 101, 116, 32, 97, 32, 61, 32, 36]⟩, .string ⟨#[115, 101, 116, 32, 97, 32, 61, 32, 41]⟩, .string ⟨#[115, 101, 116, 32, 97, 32, 61, 32, 40, 40, 40, 40, 40, 40, 45, 49]⟩, .string ⟨#[115, 101, 116, 32, 97, 32, 61, 32, 110, 111, 116, 32, 110, 111, 116, 32, 110, 111, 116, 32, 110, 111, 116, 32, 110, 111, 116, 32, 110, 111, 116, 32, 110, 111, 116, 32, 49]⟩, .string ⟨#[100, 101, 108, 101, 116, 101, 32, 99]⟩, .string ⟨#[118, 97, 108, 117, 101, 32, 99]⟩, .string ⟨#[114, 117, 108, 101, 32, 99]⟩, .string ⟨#[114, 101, 110, 97, 109, 101, 32, 99, 32, 100]⟩, .string ⟨#[114, 101, 110, 97, 109, 101, 32, 97, 32, 109]⟩, .string ⟨#[114, 101, 110, 97, 109, 101, 32, 97, 32, 97]⟩, .string ⟨#[99, 111, 109, 109, 105, 116]⟩, .string ⟨#[99, 97, 110, 99, 101, 108]⟩, .string ⟨#[114, 101, 100, 111]⟩, .string ⟨#[117, 110, 100, 111, 32, 49]⟩] 9)).alloc (.cells #[.int .i64 0, .int .i64 2, .int .i64 0, .int .i64 0, .int .i64 3, .int .i64 4, .int .i64 7, .int .i64 10, .int .i64 8, .int .i64 8, .int .i64 14, .int .i64 32, .int .i64 0, .int .i64 0, .int .i64 0, .int .i64 0, .int .i64 0, .int .i64 0, .int .i64 0, .int .i64 0, .int .i64 0, .int .i64 5] 3)).heap[wr.heap.size + 1]? = some (.cells #[.string ⟨#[]⟩, .string ⟨#[32, 32]⟩, .string ⟨#[65]⟩, .string ⟨#[119, 104, 97, 116]⟩, .string ⟨#[115, 101, 116]⟩, .string ⟨#[115, 101, 116, 32, 105, 102, 32, 61, 32, 50]⟩, .string ⟨#[115, 101, 116, 32, 97, 32, 61]⟩, .string ⟨#[115, 101, 116, 32, 97, 32, 61, 32, 49, 32, 50]⟩, .string ⟨#[115, 101, 116, 32, 97, 32, 61, 32, 36]⟩, .string ⟨#[115, 101, 116, 32, 97, 32, 61, 32, 41]⟩, .string ⟨#[115, 101, 116, 32, 97, 32, 61, 32, 40, 40, 40, 40, 40, 40, 45, 49]⟩, .string ⟨#[115, 101, 116, 32, 97, 32, 61, 32, 110, 111, 116, 32, 110, 111, 116, 32, 110, 111, 116, 32, 110, 111, 116, 32, 110, 111, 116, 32, 110, 111, 116, 32, 110, 111, 116, 32, 49]⟩, .string ⟨#[100, 101, 108, 101, 116, 101, 32, 99]⟩, .string ⟨#[118, 97, 108, 117, 101, 32, 99]⟩, .string ⟨#[114, 117, 108, 101, 32, 99]⟩, .string ⟨#[114, 101, 110, 97, 109, 101, 32, 99, 32, 100]⟩, .string ⟨#[114, 101, 110, 97, 109, 101, 32, 97, 32, 109]⟩, .string ⟨#[114, 101, 110, 97, 109, 101, 32, 97, 32, 97]⟩, .string ⟨#[99, 111, 109, 109, 105, 116]⟩, .string ⟨#[99, 97, 110, 99, 101, 108]⟩, .string ⟨#[114, 101, 100, 111]⟩, .string ⟨#[117, 110, 100, 111, 32, 49]⟩] 9 (0, 0)) ∧ (((wr.alloc (.cells #[.int .i64 3, .int .i64 3, .int .i64 2, .int .i64 3, .int .i64 3, .int .i64 3, .int .i64 3, .int .i64 3, .int .i64 2, .int .i64 3, .int .i64 4, .int .i64 4, .int .i64 5, .int .i64 5, .int .i64 5, .int .i64 5, .int .i64 6, .int .i64 6, .int .i64 10, .int .i64 10, .int .i64 11, .int .i64 3] 28)).alloc (.cells #[.string ⟨#[]⟩, .string ⟨#[32, 32]⟩, .string ⟨#[65]⟩, .string ⟨#[119, 104, 97, 116]⟩, .string ⟨#[115, 101, 116]⟩, .string ⟨#[115, 101, 116, 32, 105, 102, 32, 61, 32, 50]⟩, .string ⟨#[115, 101, 116, 32, 97, 32, 61]⟩, .string ⟨#[115, 101, 116, 32, 97, 32, 61, 32, 49, 32, 50]⟩, .string ⟨#[115, 101, 116, 32, 97, 32, 61, 32, 36]⟩, .string ⟨#[115, 101, 116, 32, 97, 32, 61, 32, 41]⟩, .string ⟨#[115, 101, 116, 32, 97, 32, 61, 32, 40, 40, 40, 40, 40, 40, 45, 49]⟩, .string ⟨#[115, 101, 116, 32, 97, 32, 61, 32, 110, 111, 116, 32, 110, 111, 116, 32, 110, 111, 116, 32, 110, 111, 116, 32, 110, 111, 116, 32, 110, 111, 116, 32, 110, 111, 116, 32, 49]⟩, .string ⟨#[100, 101, 108, 101, 116, 101, 32, 99]⟩, .string ⟨#[118, 97, 108, 117, 101, 32, 99]⟩, .string ⟨#[114, 117, 108, 101, 32, 99]⟩, .string ⟨#[114, 101, 110, 97, 109, 101, 32, 99, 32, 100]⟩, .string ⟨#[114, 101, 110, 97, 109, 101, 32, 97, 32, 109]⟩, .string ⟨#[114, 101, 110, 97, 109, 101, 32, 97, 32, 97]⟩, .string ⟨#[99, 111, 109, 109, 105, 116]⟩, .string ⟨#[99, 97, 110, 99, 101, 108]⟩, .string ⟨#[114, 101, 100, 111]⟩, .string ⟨#[117, 110, 100, 111, 32, 49]⟩] 9)).alloc (.cells #[.int .i64 0, .int .i64 2, .int .i64 0, .int .i64 0, .int .i64 3, .int .i64 4, .int .i64 7, .int .i64 10, .int .i64 8, .int .i64 8, .int .i64 14, .int .i64 32, .int .i64 0, .int .i64 0, .int .i64 0, .int .i64 0, .int .i64 0, .int .i64 0, .int .i64 0, .int .i64 0, .int .i64 0, .int .i64 5] 3)).heap[wr.heap.size + 1 + 1]? = some (.cells #[.int .i64 0, .int .i64 2, .int .i64 0, .int .i64 0, .int .i64 3, .int .i64 4, .int .i64 7, .int .i64 10, .int .i64 8, .int .i64 8, .int .i64 14, .int .i64 32, .int .i64 0, .int .i64 0, .int .i64 0, .int .i64 0, .int .i64 0, .int .i64 0, .int .i64 0, .int .i64 0, .int .i64 0, .int .i64 5] 3 (0, 0))) := tZ (fm_three HS6.out _ _ _ _ _ _)
   go_wp2_with fail
   obtain ⟨T2, hT⟩ := HX.out
   have HT := tZ hT
   clear hT HX HS6
   generalize ((wr.alloc (.cells #[.int .i64 3, .int .i64 3, .int .i64 2, .int .i64 3, .int .i64 3, .int .i64 3, .int .i64 3, .int .i64 3, .int .i64 2, .int .i64 3, .int .i64 4, .int .i64 4, .int .i64 5, .int .i64 5, .int .i64 5, .int .i64 5, .int .i64 6, .int .i64 6, .int .i64 10, .int .i64 10, .int .i64 11, .int .i64 3] 28)).alloc (.cells #[.string ⟨#[]⟩, .string ⟨#[32, 32]⟩, .string ⟨#[65]⟩, .string ⟨#[119, 104, 97, 116]⟩, .string ⟨#[115, 101, 116]⟩, .string ⟨#[115, 101, 116, 32, 105, 102, 32, 61, 32, 50]⟩, .string ⟨#[115, 101, 116, 32, 97, 32, 61]⟩, .string ⟨#[115, 101, 116, 32, 97, 32, 61, 32, 49, 32, 50]⟩, .string ⟨#[115, 101, 116, 32, 97, 32, 61, 32, 36]⟩, .string ⟨#[115, 101, 116, 32, 97, 32, 61, 32, 41]⟩, .string ⟨#[115, 101, 116, 32, 97, 32, 61, 32, 40, 40, 40, 40, 40, 40, 45, 49]⟩, .string ⟨#[115, 101, 116, 32, 97, 32, 61, 32, 110, 111, 116, 32, 110, 111, 116, 32, 110, 111, 116, 32, 110, 111, 116, 32, 110, 111, 116, 32, 110, 111, 116, 32, 110, 111, 116, 32, 49]⟩, .string ⟨#[100, 101, 108, 101, 116, 101, 32, 99]⟩, .string ⟨#[118, 97, 108, 117, 101, 32, 99]⟩, .string ⟨#[114, 117, 108, 101, 32, 99]⟩, .string ⟨#[114, 101, 110, 97, 109, 101, 32, 99, 32, 100]⟩, .string ⟨#[114, 101, 110, 97, 109, 101, 32, 97, 32, 109]⟩, .string ⟨#[114, 101, 110, 97, 109, 101, 32, 97, 32, 97]⟩, .string ⟨#[99, 111, 109, 109, 105, 116]⟩, .string ⟨#[99, 97, 110, 99, 101, 108]⟩, .string ⟨#[114, 101, 100, 111]⟩, .string ⟨#[117, 110, 100, 111, 32, 49]⟩] 9)).alloc (.cells #[.int .i64 0, .int .i64 2, .int .i64 0, .int .i64 0, .int .i64 3, .int .i64 4, .int .i64 7, .int .i64 10, .int .i64 8, .int .i64 8, .int .i64 14, .int .i64 32, .int .i64 0, .int .i64 0, .int .i64 0, .int .i64 0, .int .i64 0, .int .i64 0, .int .i64 0, .int .i64 0, .int .i64 0, .int .i64 5] 3) = w8 at *
   generalize wr.heap.size = b0 at *
   go_loopg [13, 14] 22 (fun gk i _ wr => ∃ j : Nat, j ≤ 22 ∧ 22 ≤ j + gk ∧ i = .int .i64 (j : Int) ∧ Hid (Sts W0 T2 [⟨e, 0, ⟨3, fmF, P, [], none⟩⟩] wr ∧ Kt T2 w8 wr))
   case atStart => exact ⟨0, by decide, by decide, rfl, tZ ⟨HT.out.2.2.2.1, Kt.refl _ _⟩⟩
   case round =>
    obtain ⟨j, hj4, hgk, rfl, HI⟩ := hrel
    rcases Nat.lt_or_ge j 22 with hjn | hjn
    ·have hlt := fm_lt2 hjn
     have hcs := row_at (l := fmL) (f := fun x => .string ⟨x.1.toArray⟩) (d := ([], .list, 0, 0)) ((HI.out.2.block (b0 + 1) HT.out.2.1).trans HT.out.2.2.2.2.2.1) rfl hjn
     have hin : fmL.getD j ([], .list, 0, 0) ∈ fmL := getD_in hjn
     have HCE : Hid (∀ W, Kt T2 w8 W → W.cell? ⟨b0, j, none⟩ = some (.int .i64 (fmL.getD j ([], .list, 0, 0)).2.2.1) ∧ W.cell? ⟨b0 + 1 + 1, j, none⟩ = some (.int .i64 (fmL.getD j ([], .list, 0, 0)).2.2.2)) := tZ fun W hW => ⟨row_at (l := fmL) (f := fun x => .int .i64 x.2.2.1) ((hW.block b0 HT.out.1).trans HT.out.2.2.2.2.1) rfl hjn, row_at (l := fmL) (f := fun x => .int .i64 x.2.2.2) ((hW.block (b0 + 1 + 1) HT.out.2.2.1).trans HT.out.2.2.2.2.2.2) rfl hjn⟩
     generalize fmL.getD j ([], .list, 0, 0) = x at *
     have HLX := tZ (fm_read x hin)
     have HAX := tZ (HMA.out x hin)
     have HUP := tZ (fm_j hjn hgk)
     clear hin
     obtain ⟨xs, xl, xe, xp⟩ := x
     simp only at hcs HCE HLX HAX
     go_wp2_with (first | (go_at_call 8; refine (oneE 0 HI.out.1 HE.out HL.out HLX.out HAX.out rfl rfl).mono ?_; rintro r w9 ⟨bn, cn, rfl, h1, h3, h4⟩; have H9 := tZ h3; clear h1 h3 h4; refine Hid.out ?_))
     refine tZ ?_
     have HS9 := tZ (H9.out.add1 (o := .cells #[.int .i64 xe, .int .i64 xp, .string ⟨#[]⟩, .slice bn 0 cn, .int .i64 0, .int .i64 0] 30))
     have HK9 := tZ (Kt.below (HI.out.2.trans H9.out.1) H9.out.2.tlt (bZ (.cells #[.int .i64 xe, .int .i64 xp, .string ⟨#[]⟩, .slice bn 0 cn, .int .i64 0, .int .i64 0] 30)))
     obtain ⟨⟨m0, m1, m2, m3, m4, m5⟩, _, hsz⟩ := row6 (heap_alloc_new w9 (.cells #[.int .i64 xe, .int .i64 xp, .string ⟨#[]⟩, .slice bn 0 cn, .int .i64 0, .int .i64 0] 30))
     obtain ⟨ce, cp⟩ := HCE.out _ HK9.out
     have e1 : (xe == xe) = true := by simp
     have e2 : (xp == xp) = true := by simp
     go_wp2_with fail
     go_quiet (fail)
     go_wp2_with fail
     go_roundg (22 - (j + 1))
     case measure => exact HUP.out.2.2
     case rel => exact ⟨j + 1, HUP.out.1, HUP.out.2.1, by simp, tZ ⟨((HS9.out.less fun q hq => Or.inl hq).next (below_drewN (Below.refl _ _) _)), HK9.out.below (fun q hq => HS9.out.tlt q (Or.inl hq)) (below_drewN (Below.refl _ _) _)⟩⟩
    ·have hge := fm_ge2 hjn
     have HS9 := tZ HI.out.1
     have htt : (tb == tb) = true := by simp
     clear HI hgk hj4 HMA HT
     go_wp2_with (first | (go_at_call 7; refine (oneT HS9.out HE.out HL.out rfl).mono ?_; rintro r w10 ⟨rfl, h1⟩; rw [HTB.out]; have H10 := tZ h1; clear h1; refine Hid.out ?_))
     refine tZ ?_
     go_wp2_with (first | (go_at_call 9; refine (oneF H10.out.2 HE.out HL.out rfl nm_m (nmo_l 109) (by rw [fm_val])).mono ?_; rintro r w11 ⟨rfl, h1⟩; have H11 := tZ h1; clear h1; refine Hid.out ?_))
     refine tZ ?_
     go_wp2_with (first | (go_at_call 10; refine (HED.out _ e _ H11.out.2).mono ?_; rintro r w12 ⟨rfl, h1⟩; have H12 := tZ h1; clear h1; refine Hid.out ?_))
     refine tZ ?_
     obtain ⟨tn, htn⟩ : ∃ tn, lsA A3.fs = tn := ⟨_, rfl⟩
     have HTN := tZ htn
     clear htn
     go_wp2_with (first | (go_at_call 7; refine (oneT H12.out.2 HE.out HL.out hG).mono ?_; rintro r w13 ⟨rfl, h1⟩; rw [HTN.out]; have H13 := tZ h1; clear h1; refine Hid.out ?_))
     refine tZ ?_
     go_wp2_with (first | (go_at_call 8; refine (oneE nm8.length H13.out.2 HE.out HL.out (isLn_nm 12 12) HA8.out rfl hG).mono ?_; rintro r w14 ⟨bn, cn, rfl, h1, h3, h4⟩; have H14 := tZ h3; clear h1 h3 h4; refine Hid.out ?_))
     refine tZ ?_
     have HS14 := tZ (H14.out.add1 (o := .cells #[.int .i64 8, .int .i64 0, .string ⟨#[]⟩, .slice bn nm8.length cn, .int .i64 0, .int .i64 0] 30))
     obtain ⟨⟨m0, m1, m2, m3, m4, m5⟩, _, hsz⟩ := row6 (heap_alloc_new w14 (.cells #[.int .i64 8, .int .i64 0, .string ⟨#[]⟩, .slice bn nm8.length cn, .int .i64 0, .int .i64 0] 30))
     have htn2 : (tn == tn) = true := by simp
     go_wp2_with (first | (go_at_call 7; refine (oneT HS14.out HE.out HL.out hG).mono ?_; rintro r w15 ⟨rfl, h1⟩; rw [HTN.out]; have H15 := tZ h1.2.low; clear h1; refine Hid.out ?_))
     refine tZ ?_
     go_wp2
     exact bodyPost_ret (v := .bool true) (by simp [results, Tryz.results3, go_sem]) (by simp [go_sem]) ⟨rfl, H15.out⟩
end
end Go.Proofs.YtihgojcfpnhelabGreatDoor
