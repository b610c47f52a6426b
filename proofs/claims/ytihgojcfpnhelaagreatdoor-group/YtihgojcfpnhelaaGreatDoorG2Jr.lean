import Derived.Test.YtihgojcfpnhelaaGreatDoorG2Jq
import Derived.Deep.CutBlock
set_option maxRecDepth 100000
set_option maxHeartbeats 4000000
set_option linter.unusedVariables false
set_option linter.unusedSimpArgs false
namespace Go.Proofs.YtihgojcfpnhelaaGreatDoor
open Go.RowKit
section
attribute [local go_sem] idx_eq app_eq
variable {W0 w w' W w1 w2 : World} {T T' : Nat → Prop} {e g k kb i : Nat} {a b a' : Ab} {s : By} {l : Ln} {fs fs' : List Fd} {nm : List By}
theorem twoE (k' n : Nat) (er : Int) (h : Sts W0 T [⟨e, k, a⟩, ⟨g, 0, b⟩] w) (hE : Env W0) (hL : EnvL W0) (hk : k < 1000) (hl : IsLn s l) (hr : lnA a l = (⟨er, 0, [], nm, 0, 0⟩, a')) (hn : nm.length = n) (hk' : k + 1 ≤ k' ∨ a'.grp = none) :
  Calls Tryz.prog 20 #[.pointer (some ⟨e, 0, none⟩), .string ⟨s.toArray⟩] w fun r w' => ∃ bn cn, r = .returned (.agg #[.int .i64 er, .int .i64 0, .string ⟨#[]⟩, .slice bn n cn, .int .i64 0, .int .i64 0]) ∧ Lv W0 T [⟨e, k', a'⟩, ⟨g, 0, b⟩] w w' := by
 subst hn
 exact (two0 k' h hE hL (by omega) hl hr hk').mono fun r w' ⟨bn, cn, h1, h2, h3⟩ => ⟨bn, cn, h1, h2, h3⟩
theorem twoF (n : Nat) (er : Int) (h : Sts W0 T [⟨e, k, a⟩, ⟨g, 0, b⟩] w) (hE : Env W0) (hL : EnvL W0) (hl : IsLn s l) (hr : lnA b l = (⟨er, 0, [], nm, 0, 0⟩, a')) (hn : nm.length = n) (hk' : a'.grp = none) :
  Calls Tryz.prog 20 #[.pointer (some ⟨g, 0, none⟩), .string ⟨s.toArray⟩] w fun r w' => ∃ bn cn, r = .returned (.agg #[.int .i64 er, .int .i64 0, .string ⟨#[]⟩, .slice bn n cn, .int .i64 0, .int .i64 0]) ∧ Lv W0 T [⟨e, k, a⟩, ⟨g, 0, a'⟩] w w' := by
 subst hn
 exact (two1 0 h hE hL (by omega) hl hr (Or.inr hk')).mono fun r w' ⟨bn, cn, h1, h2, h3⟩ => ⟨bn, cn, h1, h2, h3⟩
theorem twoI0 {x : By} {z : Int} (h : Sts W0 T [⟨e, 0, a⟩, ⟨g, kb, b⟩] w) (hE : Env W0) (hL : EnvL W0) (hg : a.grp = none) (hn : NmOk x) (ho : NmO x) (hv : (valA a.fs x).2 = (1, z)) :
  Calls Tryz.prog 26 #[.pointer (some ⟨e, 0, none⟩), .string ⟨x.toArray⟩, .int .i64 z] w fun r w' => r = .returned (.bool true) ∧ Lv W0 T [⟨e, 0, a⟩, ⟨g, kb, b⟩] w w' :=
 Sts.isA (E := [⟨e, 0, a⟩, ⟨g, kb, b⟩]) (i := 0) h hE hL (by simp) (by simp) hg hn ho hv
theorem Lv.after (h : Lv W0 T [⟨e, k, a⟩, ⟨g, kb, b⟩] w w1) {E : List En} (h' : Lv W0 T E w1 w2) : Lv W0 T E w w2 := ⟨h.1.trans h'.1, h'.2⟩
theorem gr_up {j gk n : Nat} (h : j < 10) (hn : j < n) (h' : 10 ≤ j + gk) : j + 1 ≤ 10 ∧ 10 ≤ j + 1 + (10 - (j + 1)) ∧ j + 1 ≤ n ∧ 10 - (j + 1) < gk ∧ j + 3 < 1000 ∧ j + 3 + 1 ≤ j + 1 + 3 := by omega
theorem gr_k {j : Nat} (h : j ≤ 10) : j + 3 + 1 < 1000000000000 ∧ j + 3 < 1000 := by omega
theorem gr_3 {m : Nat} (h : m < 3) : m = 0 ∨ m = 1 ∨ m = 2 := by omega
theorem gr_c {c : Nat} (h : c ≠ 0) : ((c : Int) == 0) = false := by simp; omega
theorem Lv.add {o : Obj} (h : Lv W0 T [⟨e, k, a⟩, ⟨g, kb, b⟩] w w1) : Lv W0 (fun q => T q ∨ q = w1.heap.size) [⟨e, k, a⟩, ⟨g, kb, b⟩] (w1.alloc o) (w1.alloc o) :=
 ⟨Kt.refl _ _, (h.2.grow ((Below.refl _ _).alloc (Nat.le_refl _) _)).less fun q hq => hq.imp_right fun h => by subst h; exact ⟨Nat.le_refl _, by simp⟩⟩
theorem groupHolds (ao ao' : Option Addr) (len cap len' cap' : Nat) (S S' : Nat → By) (how : Int) (hlen : len ≤ maxLen) (hlen' : len' ≤ maxLen) (hraw : RawS W0 W0.heap.size ao len S) (hraw' : RawS W0 W0.heap.size ao' len' S') (hhow : -9223372036854775808 ≤ how ∧ how ≤ 9223372036854775807) (hE : Env W0) (hL : EnvL W0) :
  Calls Tryz.prog 13 #[.slice ao len cap, .slice ao' len' cap', .int .i64 how] W0 fun r w' => r = .returned (.bool true) ∧ Below W0.heap.size W0 w' := by
 obtain ⟨f0, f1⟩ := eds_inv (a := ⟨3, [], [], [], none⟩) (X := Few) S rfl fsOk_nil nf_nil (fun _ h => h) (min len 20)
 have hM : (edsA ⟨3, [], [], [], none⟩ S (min len 20)).M = 3 := edsA_M S _
 have hG : (edsA ⟨3, [], [], [], none⟩ S (min len 20)).grp = none := edsA_grp S rfl _
 have hMb : (edsA ⟨0, [], [], [], none⟩ S (min len 20)).M = 0 := edsA_M S _
 have hGb : (edsA ⟨0, [], [], [], none⟩ S (min len 20)).grp = none := edsA_grp S rfl _
 have hF : (edsA ⟨3, [], [], [], none⟩ S (min len 20)).fs = (edsA ⟨0, [], [], [], none⟩ S (min len 20)).fs := edsA_fs (a := ⟨3, [], [], [], none⟩) (b := ⟨0, [], [], [], none⟩) S rfl rfl rfl _
 have HED0 : Hid (∀ e g W, Sts W0 (fun _ => False) [⟨e, 0, ⟨3, [], [], [], none⟩⟩, ⟨g, 0, ⟨0, [], [], [], none⟩⟩] W → Calls Tryz.prog 32 #[.pointer (some ⟨e, 0, none⟩), .slice ao len cap] W fun r w' => r = .returned (.tuple #[]) ∧ Lv W0 (fun _ => False) [⟨e, 0, edsA ⟨3, [], [], [], none⟩ S (min len 20)⟩, ⟨g, 0, ⟨0, [], [], [], none⟩⟩] W w') := toHid fun e g W h => edits_ok (E := [⟨e, 0, ⟨3, [], [], [], none⟩⟩, ⟨g, 0, ⟨0, [], [], [], none⟩⟩]) (i := 0) h hE hL (by simp) rfl ao len cap S hlen hraw
 have HED1 : Hid (∀ e g W (a : Ab), Sts W0 (fun _ => False) [⟨e, 0, a⟩, ⟨g, 0, ⟨0, [], [], [], none⟩⟩] W → Calls Tryz.prog 32 #[.pointer (some ⟨g, 0, none⟩), .slice ao len cap] W fun r w' => r = .returned (.tuple #[]) ∧ Lv W0 (fun _ => False) [⟨e, 0, a⟩, ⟨g, 0, edsA ⟨0, [], [], [], none⟩ S (min len 20)⟩] W w') := toHid fun e g W a h => edits_ok (E := [⟨e, 0, a⟩, ⟨g, 0, ⟨0, [], [], [], none⟩⟩]) (i := 1) h hE hL (by simp) rfl ao len cap S hlen hraw
 have HPK : Hid (∀ W, Calls Tryz.prog 25 #[.int .i64 how, .int .i64 3] W fun r w' => r = .returned (.int .i64 (pickN how 3 : Int)) ∧ w' = W) := toHid (fun W => pick_ok how 3 hhow.1 hhow.2 (by decide) (by decide) W)
 have hpk3 := pickN_lt how 3 (by decide)
 have HRAW := toHid hraw'
 have hl20 : len' ≤ 9223372036854775807 := by unfold maxLen at hlen'; exact hlen'
 generalize edsA ⟨3, [], [], [], none⟩ S (min len 20) = A1 at *
 generalize edsA ⟨0, [], [], [], none⟩ S (min len 20) = B1 at *
 obtain ⟨F2, nm2, hz, g0, g1, hvz⟩ := set_z f0 f1 6
 have hA2 : lnA A1 (.set [122] (dgP 6)) = (⟨0, 0, [], nm2, 0, 0⟩, ⟨3, F2, A1.fs :: A1.past.take 2, [], none⟩) := by
  rw [lnA_ok hG hz, hM]
  rfl
 have hB2 : lnA B1 (.set [122] (dgP 6)) = (⟨0, 0, [], nm2, 0, 0⟩, ⟨0, F2, [], [], none⟩) := by
  rw [lnA_ok hGb (by rw [← hF]; exact hz), hMb]
  rfl
 have HA2 := toHid hA2
 have HB2 := toHid hB2
 generalize A1.fs = F1 at *
 generalize A1.past.take 2 = P1 at *
 have HE := toHid hE
 have HL := toHid hL
 have HG0 := toHid (And.intro g0 (And.intro g1 hvz))
 have HBG3 := toHid ((Sts.empty W0).beginA 3 (by decide))
 clear hA2 hB2 hz f0 f1 hF hM hMb hG hGb hraw hraw' hhow hE hL g0 g1 hvz hlen hlen'
 go_enter Tryz.func13, Tryz.ntmps13
 go_wp2_with (first | (go_at_call 18; refine HBG3.out.mono ?_; rintro r w1 ⟨e, rfl, h1⟩; have H1 := toHid h1; clear h1; refine Hid.out ?_))
 refine toHid ?_
 go_wp2_with (first | (go_at_call 18; refine (H1.out.2.beginA 0 (by decide)).mono ?_; rintro r w2 ⟨g, rfl, h1⟩; have H2 := toHid h1; clear h1; refine Hid.out ?_))
 refine toHid ?_
 go_wp2_with (first | (go_at_call 32; refine (HED0.out e g _ H2.out.2).mono ?_; rintro r w3 ⟨rfl, h1⟩; have H3 := toHid h1; clear h1; refine Hid.out ?_))
 refine toHid ?_
 go_wp2_with (first | (go_at_call 32; refine (HED1.out e g _ _ H3.out.2).mono ?_; rintro r w4 ⟨rfl, h1⟩; have H4 := toHid h1; clear h1; refine Hid.out ?_))
 refine toHid ?_
 go_wp2_with (first | (go_at_call 19; refine (twoD0 0 H4.out.2 HE.out HL.out (by decide) (isLn_z 6 (by decide)) HA2.out (Or.inr rfl) rfl rfl).mono ?_; rintro r w5 ⟨rfl, h1⟩; have H5 := toHid h1; clear h1; refine Hid.out ?_))
 refine toHid ?_
 go_wp2_with (first | (go_at_call 19; refine (twoD1 0 H5.out.2 HE.out HL.out (by decide) (isLn_z 6 (by decide)) HB2.out (Or.inr rfl) rfl rfl).mono ?_; rintro r w6 ⟨rfl, h1⟩; have H6 := toHid h1; clear h1; refine Hid.out ?_))
 refine toHid ?_
 go_wp2_with (first | (go_at_call 30; refine (twoT0 H6.out.2 HE.out HL.out rfl).mono ?_; rintro r w7 ⟨rfl, h1⟩; have H7 := toHid h1; clear h1; refine Hid.out ?_))
 refine toHid ?_
 clear H1 H2 H3 H4 H5 H6 HED0 HED1 HA2 HB2 HBG3
 go_wp2_with (first | (go_at_call 19; refine (twoD0 (rp := ⟨0, 0, [], [], 0, 0⟩) (a' := ⟨3, F2, F1 :: P1, [], some F2⟩) 1 H7.out.2 HE.out HL.out (by decide) isLn_begin rfl (Or.inl (by decide)) rfl rfl).mono ?_; rintro r w8 ⟨rfl, h1⟩; have H8 := toHid h1; clear h1; refine Hid.out ?_))
 refine toHid ?_
 go_wp2_with (first | (go_at_call 20; refine (twoE (a' := ⟨3, F2, F1 :: P1, [], some F2⟩) 2 0 9 H8.out.2 HE.out HL.out (by decide) isLn_begin rfl rfl (Or.inl (by decide))).mono ?_; rintro r w9 ⟨bn9, cn9, rfl, h1⟩; have H9 := toHid h1; clear h1; refine Hid.out ?_))
 refine toHid ?_
 have HA9 := toHid (Lv.add (o := .cells #[.int .i64 9, .int .i64 0, .string ⟨#[]⟩, .slice bn9 0 cn9, .int .i64 0, .int .i64 0] 39) H9.out)
 have HR9 := toHid (heap_alloc_new w9 (.cells #[.int .i64 9, .int .i64 0, .string ⟨#[]⟩, .slice bn9 0 cn9, .int .i64 0, .int .i64 0] 39))
 go_wp2_with (first | (go_at_call 20; refine (twoE (a' := ⟨3, F2, F1 :: P1, [], some F2⟩) 3 0 9 HA9.out.2 HE.out HL.out (by decide) isLn_undo rfl rfl (Or.inl (by decide))).mono ?_; rintro r w10 ⟨bn10, cn10, rfl, h1⟩; have H10 := toHid h1; clear h1; refine Hid.out ?_))
 refine toHid ?_
 have HA10 := toHid (Lv.add (o := .cells #[.int .i64 9, .int .i64 0, .string ⟨#[]⟩, .slice bn10 0 cn10, .int .i64 0, .int .i64 0] 39) H10.out)
 have HR10 := toHid (heap_alloc_new w10 (.cells #[.int .i64 9, .int .i64 0, .string ⟨#[]⟩, .slice bn10 0 cn10, .int .i64 0, .int .i64 0] 39))
 have HR9b := toHid ((((Below.refl _ _).alloc (Nat.le_refl _) (.cells #[.int .i64 9, .int .i64 0, .string ⟨#[]⟩, .slice bn10 0 cn10, .int .i64 0, .int .i64 0] 39)).block w9.heap.size (H10.out.2.tlt _ (Or.inr rfl))).trans ((H10.out.1.block w9.heap.size (Or.inr rfl)).trans HR9.out))
 go_wp2_with fail
 generalize hw11 : w10.alloc (.cells #[.int .i64 9, .int .i64 0, .string ⟨#[]⟩, .slice bn10 0 cn10, .int .i64 0, .int .i64 0] 39) = w11 at *
 clear hw11
 generalize hT : (fun q => (False ∨ q = w9.heap.size) ∨ q = w10.heap.size) = T at *
 have HTT : Hid (T w9.heap.size ∧ T w10.heap.size) := toHid (by rw [← hT]; exact ⟨Or.inl (Or.inr rfl), Or.inr rfl⟩)
 clear hT H9 HA9 H8 H7 H10 HR9
 generalize w9.heap.size = q9 at *
 generalize w10.heap.size = q10 at *
 have HINV : Hid (∃ G b, FsOk G ∧ NF FewZ G ∧ b.fs = G ∧ b.grp = none ∧ Lv W0 T [⟨e, 3, ⟨3, G, F1 :: P1, [], some F2⟩⟩, ⟨g, 0, b⟩] w11 w11) := toHid ⟨F2, _, HG0.out.1, HG0.out.2.1, rfl, rfl, HA10.out⟩
 clear HA10
 go_loopg [16, 17, 18, 19, 20, 21, 22] 10 (fun gk v _ _ _ _ _ _ wr => ∃ j : Nat, j ≤ 10 ∧ 10 ≤ j + gk ∧ j ≤ len' ∧ v = .int .i64 (j : Int) ∧ Hid (∃ G b, FsOk G ∧ NF FewZ G ∧ b.fs = G ∧ b.grp = none ∧ Lv W0 T [⟨e, j + 3, ⟨3, G, F1 :: P1, [], some F2⟩⟩, ⟨g, 0, b⟩] w11 wr))
 case atStart => exact ⟨0, Nat.zero_le _, Nat.le_refl _, Nat.zero_le _, rfl, HINV⟩
 case round =>
  obtain ⟨j, hj10, hgk, hjl, rfl, HI⟩ := hrel
  obtain ⟨G, b, hi⟩ := HI.out
  have HG := toHid hi
  clear hi HI
  rcases Nat.lt_or_ge j len' with hjn | hjn
  ·have hl1 : (j : Int) < (len' : Int) := Int.ofNat_lt.2 hjn
   rcases Nat.lt_or_ge j 10 with hjm | hjm
   ·have hl2 : (j : Int) < 10 := Int.ofNat_lt.2 hjm
    obtain ⟨a0, rfl, hab, hac, hsl⟩ := HRAW.out j hjn
    have hcx := (HG.out.2.2.2.2.2.low.cell (p := a0.add j) (by rw [addBlk]; exact hab)).trans hac
    have HF := toHid (feed_new (S' j) hsl wr)
    have HUP := toHid (gr_up hjm hjn hgk)
    clear hac hsl hab
    go_wp2_with (first | (go_at_call 34; refine (keep_line _ _ _ HF.out).mono ?_; rintro r w12 ⟨rfl, hk2⟩; have HK2 := toHid hk2.over; clear hk2; refine Hid.out ?_))
    refine toHid ?_
    have HG2 := toHid (HG.out.2.2.2.2.next HK2.out)
    clear hcx HF
    cases har : arB G (S' j) with
    | err c nm =>
     have HC := toHid (show lnA ⟨3, G, F1 :: P1, [], some F2⟩ (lnB (S' j)) = (⟨(c : Int), 0, [], nm, 0, 0⟩, ⟨3, F2, F1 :: P1, [], none⟩) by rw [lnA_arB, har]; rfl)
     have hcb := gr_c (arB_err _ har)
     clear har
     go_wp2_with (first | (go_at_call 20; refine (twoE 0 nm.length (c : Int) HG2.out.2 HE.out HL.out HUP.out.2.2.2.2.1 (isLn_line (S' j)) HC.out rfl (Or.inr rfl)).mono ?_; rintro r w13 ⟨bn13, cn13, rfl, h1⟩; have H13 := toHid (HG2.out.after h1); clear h1; refine Hid.out ?_))
     refine toHid ?_
     have HB13 := toHid (H13.out.next ((Below.refl _ _).alloc (Nat.le_refl _) (.cells #[.int .i64 (c : Int), .int .i64 0, .string ⟨#[]⟩, .slice bn13 nm.length cn13, .int .i64 0, .int .i64 0] 39)))
     go_wp2_with (first | (go_at_call 20; refine (twoE (nm := []) (a' := ⟨3, F2, F1 :: P1, [], none⟩) 0 0 10 HB13.out.2 HE.out HL.out (by decide) isLn_commit rfl rfl (Or.inr rfl)).mono ?_; rintro r w14 ⟨bn14, cn14, rfl, h1⟩; have H14 := toHid (HB13.out.after h1); clear h1; refine Hid.out ?_))
     refine toHid ?_
     have HA14 := toHid (Lv.add (o := .cells #[.int .i64 10, .int .i64 0, .string ⟨#[]⟩, .slice bn14 0 cn14, .int .i64 0, .int .i64 0] 39) H14.out)
     have HR14 := toHid (heap_alloc_new w14 (.cells #[.int .i64 10, .int .i64 0, .string ⟨#[]⟩, .slice bn14 0 cn14, .int .i64 0, .int .i64 0] 39))
     go_wp2_with (first | (go_at_call 19; refine (twoD0 (rp := ⟨0, 0, [], [], 0, 0⟩) (a' := ⟨3, F1, P1, [F2], none⟩) 0 HA14.out.2 HE.out HL.out (by decide) isLn_undo rfl (Or.inr rfl) rfl rfl).mono ?_; rintro r w15 ⟨rfl, h1⟩; have H15 := toHid (HA14.out.after h1); clear h1; refine Hid.out ?_))
     refine toHid ?_
     go_wp2_with (first | (go_at_call 19; refine (twoD0 (rp := ⟨0, 0, [], [], 0, 0⟩) (a' := ⟨3, F2, F1 :: P1, [], none⟩) 0 H15.out.2 HE.out HL.out (by decide) isLn_redo rfl (Or.inr rfl) rfl rfl).mono ?_; rintro r w16 ⟨rfl, h1⟩; have H16 := toHid (H15.out.after h1); clear h1; refine Hid.out ?_))
     refine toHid ?_
     obtain ⟨⟨m0, m1, m2, m3, m4, m5⟩, _, hsz⟩ := row6 ((H16.out.1.block w14.heap.size (Or.inr rfl)).trans HR14.out)
     go_wp2_with (first | (go_at_call 30; refine (twoT0 H16.out.2 HE.out HL.out rfl).mono ?_; rintro r w17 ⟨rfl, h1⟩; have H17 := toHid (H16.out.after h1); clear h1; refine Hid.out ?_))
     refine toHid ?_
     have htt : (lsA F2 == lsA F2) = true := by simp
     go_wp2_with (first | (go_at_call 26; refine (twoI0 (z := 6) H17.out.2 HE.out HL.out rfl nm_z nmo_z (by rw [HG0.out.2.2]; rfl)).mono ?_; rintro r w18 ⟨rfl, h1⟩; have H18 := toHid h1.2.low; clear h1; refine Hid.out ?_))
     refine toHid ?_
     go_wp2
     exact bodyPost_ret (v := .bool true) (by simp [results, Tryz.results13, go_sem]) (by simp [go_sem]) ⟨rfl, H18.out⟩
    | ok G' nm =>
     have HOK := toHid (arB_ok HG.out.1 HG.out.2.1 (fun x hx => Or.inl hx) _ har)
     have HC := toHid (show lnA ⟨3, G, F1 :: P1, [], some F2⟩ (lnB (S' j)) = (⟨0, 0, [], nm, 0, 0⟩, ⟨3, G', F1 :: P1, [], some F2⟩) by rw [lnA_arB, har]; rfl)
     have HCB := toHid (show ∃ b', lnA b (lnB (S' j)) = (⟨0, 0, [], nm, 0, 0⟩, b') ∧ b'.fs = G' ∧ b'.grp = none from ⟨_, (by rw [lnA_arB, HG.out.2.2.1, har]; rfl), (by simp [editA, doneA, HG.out.2.2.2.1]), (by simp [editA, doneA, HG.out.2.2.2.1])⟩)
     obtain ⟨b', hb1, hb2, hb3⟩ := HCB.out
     have HB1 := toHid (And.intro hb1 (And.intro hb2 hb3))
     clear har hb1 hb2 hb3 HCB
     go_wp2_with (first | (go_at_call 20; refine (twoE (j + 1 + 3) nm.length 0 HG2.out.2 HE.out HL.out HUP.out.2.2.2.2.1 (isLn_line (S' j)) HC.out rfl (Or.inl HUP.out.2.2.2.2.2)).mono ?_; rintro r w13 ⟨bn13, cn13, rfl, h1⟩; have H13 := toHid (HG2.out.after h1); clear h1; refine Hid.out ?_))
     refine toHid ?_
     have HB13 := toHid (H13.out.next ((Below.refl _ _).alloc (Nat.le_refl _) (.cells #[.int .i64 0, .int .i64 0, .string ⟨#[]⟩, .slice bn13 nm.length cn13, .int .i64 0, .int .i64 0] 39)))
     go_wp2_with (first | (go_at_call 20; refine (twoF nm.length 0 HB13.out.2 HE.out HL.out (isLn_line (S' j)) HB1.out.1 rfl HB1.out.2.2).mono ?_; rintro r w14 ⟨bn14, cn14, rfl, h1⟩; have H14 := toHid (HB13.out.after h1); clear h1; refine Hid.out ?_))
     refine toHid ?_
     have HB14 := toHid (H14.out.next ((Below.refl _ _).alloc (Nat.le_refl _) (.cells #[.int .i64 0, .int .i64 0, .string ⟨#[]⟩, .slice bn14 nm.length cn14, .int .i64 0, .int .i64 0] 39)))
     go_wp2_with fail
     go_roundg (10 - (j + 1))
     case measure => exact HUP.out.2.2.2.1
     case rel => exact ⟨j + 1, HUP.out.1, HUP.out.2.1, HUP.out.2.2.1, by simp, toHid ⟨G', b', HOK.out.1, HOK.out.2, HB1.out.2.1, HB1.out.2.2, HB14.out⟩⟩
   ·obtain rfl : j = 10 := Nat.le_antisymm hj10 hjm
    have HKK := toHid (gr_k hj10)
    obtain ⟨⟨m0, m1, m2, m3, m4, m5⟩, _, hsz⟩ := row6 ((HG.out.2.2.2.2.1.block q9 HTT.out.1).trans HR9b.out)
    obtain ⟨⟨n0, n1, n2, n3, n4, n5⟩, _, hsz2⟩ := row6 ((HG.out.2.2.2.2.1.block q10 HTT.out.2).trans HR10.out)
    have htt : (lsA F2 == lsA F2) = true := by simp
    go_wp2_with (first | (go_at_call 25; refine (HPK.out _).mono ?_; rintro r w20 ⟨rfl, rfl⟩; refine Hid.out ?_))
    refine toHid ?_
    clear m0 m1 m2 m3 m4 m5 n0 n1 n2 n3 n4 n5 hsz hsz2
    generalize pickN how 3 = m at *
    rcases gr_3 hpk3 with hm | hm | hm
    ·subst hm
     go_wp2_with (first | (go_at_call 19; refine (twoD0 (rp := ⟨0, 0, [], [], 0, 0⟩) (a' := ⟨3, F2, F1 :: P1, [], none⟩) 0 HG.out.2.2.2.2.2 HE.out HL.out HKK.out.1 isLn_cancel rfl (Or.inr rfl) rfl rfl).mono ?_; rintro r w21 ⟨rfl, h1⟩; have H21 := toHid (HG.out.2.2.2.2.after h1); clear h1; refine Hid.out ?_))
     refine toHid ?_
     go_wp2_with (first | (go_at_call 20; refine (twoE (nm := []) (a' := ⟨3, F2, F1 :: P1, [], none⟩) 0 0 10 H21.out.2 HE.out HL.out (by decide) isLn_cancel rfl rfl (Or.inr rfl)).mono ?_; rintro r w22 ⟨bn22, cn22, rfl, h1⟩; have H22 := toHid (H21.out.after h1); clear h1; refine Hid.out ?_))
     refine toHid ?_
     have HA22 := toHid (Lv.add (o := .cells #[.int .i64 10, .int .i64 0, .string ⟨#[]⟩, .slice bn22 0 cn22, .int .i64 0, .int .i64 0] 39) H22.out)
     go_wp2_with (first | (go_at_call 30; refine (twoT0 HA22.out.2 HE.out HL.out rfl).mono ?_; rintro r w23 ⟨rfl, h1⟩; have H23 := toHid h1.2.low; clear h1; refine Hid.out ?_))
     refine toHid ?_
     go_wp2
     exact bodyPost_ret (v := .bool true) (by simp [results, Tryz.results13, go_sem]) (by simp [go_sem]) ⟨rfl, H23.out⟩
    ·subst hm
     have HDN := toHid (show lnA ⟨3, G, F1 :: P1, [], some F2⟩ (.del [110, 111, 98, 111, 100, 121]) = (⟨5, 0, [], [], 0, 0⟩, ⟨3, F2, F1 :: P1, [], none⟩) by show edR _ (delA G _) = _; rw [del_nobody HG.out.2.1]; rfl)
     go_wp2_with (first | (go_at_call 20; refine (twoE (nm := []) 0 0 5 HG.out.2.2.2.2.2 HE.out HL.out HKK.out.2 (isLn_delete _ nm_nobody nmo_nobody) HDN.out rfl (Or.inr rfl)).mono ?_; rintro r w21 ⟨bn21, cn21, rfl, h1⟩; have H21 := toHid (HG.out.2.2.2.2.after h1); clear h1; refine Hid.out ?_))
     refine toHid ?_
     have HA21 := toHid (Lv.add (o := .cells #[.int .i64 5, .int .i64 0, .string ⟨#[]⟩, .slice bn21 0 cn21, .int .i64 0, .int .i64 0] 39) H21.out)
     have HR21 := toHid (heap_alloc_new w21 (.cells #[.int .i64 5, .int .i64 0, .string ⟨#[]⟩, .slice bn21 0 cn21, .int .i64 0, .int .i64 0] 39))
     go_wp2_with (first | (go_at_call 20; refine (twoE (nm := []) (a' := ⟨3, F2, F1 :: P1, [], none⟩) 0 0 10 HA21.out.2 HE.out HL.out (by decide) isLn_commit rfl rfl (Or.inr rfl)).mono ?_; rintro r w22 ⟨bn22, cn22, rfl, h1⟩; have H22 := toHid (HA21.out.after h1); clear h1; refine Hid.out ?_))
     refine toHid ?_
     have HA22 := toHid (Lv.add (o := .cells #[.int .i64 10, .int .i64 0, .string ⟨#[]⟩, .slice bn22 0 cn22, .int .i64 0, .int .i64 0] 39) H22.out)
     obtain ⟨⟨m0, m1, m2, m3, m4, m5⟩, _, hsz⟩ := row6 ((H22.out.1.block w21.heap.size (Or.inr rfl)).trans HR21.out)
     go_wp2_with (first | (go_at_call 30; refine (twoT0 HA22.out.2 HE.out HL.out rfl).mono ?_; rintro r w23 ⟨rfl, h1⟩; have H23 := toHid h1.2.low; clear h1; refine Hid.out ?_))
     refine toHid ?_
     go_wp2
     exact bodyPost_ret (v := .bool true) (by simp [results, Tryz.results13, go_sem]) (by simp [go_sem]) ⟨rfl, H23.out⟩
    ·subst hm
     have HAL : Hid (∀ (P : List (List Fd)) W, Sts W0 T [⟨e, 0, ⟨3, G, P, [], none⟩⟩, ⟨g, 0, b⟩] W → Calls Tryz.prog 33 #[.pointer (some ⟨e, 0, none⟩), .pointer (some ⟨g, 0, none⟩)] W fun r w' => r = .returned (.bool true) ∧ Lv W0 T [⟨e, 0, ⟨3, G, P, [], none⟩⟩, ⟨g, 0, b⟩] W w') := toHid fun P W hW => alike_ok (a := ⟨3, G, P, [], none⟩) (b := b) hW HE.out HL.out 0 1 (by simp) (by simp) e g rfl rfl rfl HG.out.2.2.2.1 (by rw [HG.out.2.2.1]) (fun x hx => by
      obtain ⟨f, hf, rfl⟩ := List.mem_map.1 hx
      have hn := fewz_ok (HG.out.2.1 (f.nm, f.p) (List.mem_map.2 ⟨f, hf, rfl⟩)).1
      exact ⟨by rw [HG.out.2.2.1], HG.out.1.gf.kind hx, hn.1, hn.2⟩)
     go_wp2_with (first | (go_at_call 19; refine (twoD0 (rp := ⟨0, 0, [], [], 0, 0⟩) (a' := ⟨3, G, F2 :: F1 :: P1.take 1, [], none⟩) 0 HG.out.2.2.2.2.2 HE.out HL.out HKK.out.1 isLn_commit rfl (Or.inr rfl) rfl rfl).mono ?_; rintro r w21 ⟨rfl, h1⟩; have H21 := toHid (HG.out.2.2.2.2.after h1); clear h1; refine Hid.out ?_))
     refine toHid ?_
     go_wp2_with (first | (go_at_call 33; refine (HAL.out _ _ H21.out.2).mono ?_; rintro r w22 ⟨rfl, h1⟩; have H22 := toHid (H21.out.after h1); clear h1; refine Hid.out ?_))
     refine toHid ?_
     go_wp2_with (first | (go_at_call 19; refine (twoD0 (rp := ⟨0, 0, [], [], 0, 0⟩) (a' := ⟨3, F2, F1 :: P1.take 1, [G], none⟩) 0 H22.out.2 HE.out HL.out (by decide) isLn_undo rfl (Or.inr rfl) rfl rfl).mono ?_; rintro r w23 ⟨rfl, h1⟩; have H23 := toHid (H22.out.after h1); clear h1; refine Hid.out ?_))
     refine toHid ?_
     go_wp2_with (first | (go_at_call 30; refine (twoT0 H23.out.2 HE.out HL.out rfl).mono ?_; rintro r w24 ⟨rfl, h1⟩; have H24 := toHid (H23.out.after h1); clear h1; refine Hid.out ?_))
     refine toHid ?_
     go_wp2_with (first | (go_at_call 19; refine (twoD0 (rp := ⟨0, 0, [], [], 0, 0⟩) (a' := ⟨3, G, F2 :: F1 :: P1.take 1, [], none⟩) 0 H24.out.2 HE.out HL.out (by decide) isLn_redo rfl (Or.inr rfl) rfl rfl).mono ?_; rintro r w25 ⟨rfl, h1⟩; have H25 := toHid (H24.out.after h1); clear h1; refine Hid.out ?_))
     refine toHid ?_
     go_wp2_with (first | (go_at_call 33; refine (HAL.out _ _ H25.out.2).mono ?_; rintro r w26 ⟨rfl, h1⟩; have H26 := toHid h1.2.low; clear h1; refine Hid.out ?_))
     refine toHid ?_
     go_wp2
     exact bodyPost_ret (v := .bool true) (by simp [results, Tryz.results13, go_sem]) (by simp [go_sem]) ⟨rfl, H26.out⟩
  ·have hl1 : ¬ (j : Int) < (len' : Int) := al_ge hjn
   have HKK := toHid (gr_k hj10)
   obtain ⟨⟨m0, m1, m2, m3, m4, m5⟩, _, hsz⟩ := row6 ((HG.out.2.2.2.2.1.block q9 HTT.out.1).trans HR9b.out)
   obtain ⟨⟨n0, n1, n2, n3, n4, n5⟩, _, hsz2⟩ := row6 ((HG.out.2.2.2.2.1.block q10 HTT.out.2).trans HR10.out)
   have htt : (lsA F2 == lsA F2) = true := by simp
   go_wp2_with (first | (go_at_call 25; refine (HPK.out _).mono ?_; rintro r w20 ⟨rfl, rfl⟩; refine Hid.out ?_))
   refine toHid ?_
   clear m0 m1 m2 m3 m4 m5 n0 n1 n2 n3 n4 n5 hsz hsz2
   generalize pickN how 3 = m at *
   rcases gr_3 hpk3 with hm | hm | hm
   ·subst hm
    go_wp2_with (first | (go_at_call 19; refine (twoD0 (rp := ⟨0, 0, [], [], 0, 0⟩) (a' := ⟨3, F2, F1 :: P1, [], none⟩) 0 HG.out.2.2.2.2.2 HE.out HL.out HKK.out.1 isLn_cancel rfl (Or.inr rfl) rfl rfl).mono ?_; rintro r w21 ⟨rfl, h1⟩; have H21 := toHid (HG.out.2.2.2.2.after h1); clear h1; refine Hid.out ?_))
    refine toHid ?_
    go_wp2_with (first | (go_at_call 20; refine (twoE (nm := []) (a' := ⟨3, F2, F1 :: P1, [], none⟩) 0 0 10 H21.out.2 HE.out HL.out (by decide) isLn_cancel rfl rfl (Or.inr rfl)).mono ?_; rintro r w22 ⟨bn22, cn22, rfl, h1⟩; have H22 := toHid (H21.out.after h1); clear h1; refine Hid.out ?_))
    refine toHid ?_
    have HA22 := toHid (Lv.add (o := .cells #[.int .i64 10, .int .i64 0, .string ⟨#[]⟩, .slice bn22 0 cn22, .int .i64 0, .int .i64 0] 39) H22.out)
    go_wp2_with (first | (go_at_call 30; refine (twoT0 HA22.out.2 HE.out HL.out rfl).mono ?_; rintro r w23 ⟨rfl, h1⟩; have H23 := toHid h1.2.low; clear h1; refine Hid.out ?_))
    refine toHid ?_
    go_wp2
    exact bodyPost_ret (v := .bool true) (by simp [results, Tryz.results13, go_sem]) (by simp [go_sem]) ⟨rfl, H23.out⟩
   ·subst hm
    have HDN := toHid (show lnA ⟨3, G, F1 :: P1, [], some F2⟩ (.del [110, 111, 98, 111, 100, 121]) = (⟨5, 0, [], [], 0, 0⟩, ⟨3, F2, F1 :: P1, [], none⟩) by show edR _ (delA G _) = _; rw [del_nobody HG.out.2.1]; rfl)
    go_wp2_with (first | (go_at_call 20; refine (twoE (nm := []) 0 0 5 HG.out.2.2.2.2.2 HE.out HL.out HKK.out.2 (isLn_delete _ nm_nobody nmo_nobody) HDN.out rfl (Or.inr rfl)).mono ?_; rintro r w21 ⟨bn21, cn21, rfl, h1⟩; have H21 := toHid (HG.out.2.2.2.2.after h1); clear h1; refine Hid.out ?_))
    refine toHid ?_
    have HA21 := toHid (Lv.add (o := .cells #[.int .i64 5, .int .i64 0, .string ⟨#[]⟩, .slice bn21 0 cn21, .int .i64 0, .int .i64 0] 39) H21.out)
    have HR21 := toHid (heap_alloc_new w21 (.cells #[.int .i64 5, .int .i64 0, .string ⟨#[]⟩, .slice bn21 0 cn21, .int .i64 0, .int .i64 0] 39))
    go_wp2_with (first | (go_at_call 20; refine (twoE (nm := []) (a' := ⟨3, F2, F1 :: P1, [], none⟩) 0 0 10 HA21.out.2 HE.out HL.out (by decide) isLn_commit rfl rfl (Or.inr rfl)).mono ?_; rintro r w22 ⟨bn22, cn22, rfl, h1⟩; have H22 := toHid (HA21.out.after h1); clear h1; refine Hid.out ?_))
    refine toHid ?_
    have HA22 := toHid (Lv.add (o := .cells #[.int .i64 10, .int .i64 0, .string ⟨#[]⟩, .slice bn22 0 cn22, .int .i64 0, .int .i64 0] 39) H22.out)
    obtain ⟨⟨m0, m1, m2, m3, m4, m5⟩, _, hsz⟩ := row6 ((H22.out.1.block w21.heap.size (Or.inr rfl)).trans HR21.out)
    go_wp2_with (first | (go_at_call 30; refine (twoT0 HA22.out.2 HE.out HL.out rfl).mono ?_; rintro r w23 ⟨rfl, h1⟩; have H23 := toHid h1.2.low; clear h1; refine Hid.out ?_))
    refine toHid ?_
    go_wp2
    exact bodyPost_ret (v := .bool true) (by simp [results, Tryz.results13, go_sem]) (by simp [go_sem]) ⟨rfl, H23.out⟩
   ·subst hm
    have HAL : Hid (∀ (P : List (List Fd)) W, Sts W0 T [⟨e, 0, ⟨3, G, P, [], none⟩⟩, ⟨g, 0, b⟩] W → Calls Tryz.prog 33 #[.pointer (some ⟨e, 0, none⟩), .pointer (some ⟨g, 0, none⟩)] W fun r w' => r = .returned (.bool true) ∧ Lv W0 T [⟨e, 0, ⟨3, G, P, [], none⟩⟩, ⟨g, 0, b⟩] W w') := toHid fun P W hW => alike_ok (a := ⟨3, G, P, [], none⟩) (b := b) hW HE.out HL.out 0 1 (by simp) (by simp) e g rfl rfl rfl HG.out.2.2.2.1 (by rw [HG.out.2.2.1]) (fun x hx => by
     obtain ⟨f, hf, rfl⟩ := List.mem_map.1 hx
     have hn := fewz_ok (HG.out.2.1 (f.nm, f.p) (List.mem_map.2 ⟨f, hf, rfl⟩)).1
     exact ⟨by rw [HG.out.2.2.1], HG.out.1.gf.kind hx, hn.1, hn.2⟩)
    go_wp2_with (first | (go_at_call 19; refine (twoD0 (rp := ⟨0, 0, [], [], 0, 0⟩) (a' := ⟨3, G, F2 :: F1 :: P1.take 1, [], none⟩) 0 HG.out.2.2.2.2.2 HE.out HL.out HKK.out.1 isLn_commit rfl (Or.inr rfl) rfl rfl).mono ?_; rintro r w21 ⟨rfl, h1⟩; have H21 := toHid (HG.out.2.2.2.2.after h1); clear h1; refine Hid.out ?_))
    refine toHid ?_
    go_wp2_with (first | (go_at_call 33; refine (HAL.out _ _ H21.out.2).mono ?_; rintro r w22 ⟨rfl, h1⟩; have H22 := toHid (H21.out.after h1); clear h1; refine Hid.out ?_))
    refine toHid ?_
    go_wp2_with (first | (go_at_call 19; refine (twoD0 (rp := ⟨0, 0, [], [], 0, 0⟩) (a' := ⟨3, F2, F1 :: P1.take 1, [G], none⟩) 0 H22.out.2 HE.out HL.out (by decide) isLn_undo rfl (Or.inr rfl) rfl rfl).mono ?_; rintro r w23 ⟨rfl, h1⟩; have H23 := toHid (H22.out.after h1); clear h1; refine Hid.out ?_))
    refine toHid ?_
    go_wp2_with (first | (go_at_call 30; refine (twoT0 H23.out.2 HE.out HL.out rfl).mono ?_; rintro r w24 ⟨rfl, h1⟩; have H24 := toHid (H23.out.after h1); clear h1; refine Hid.out ?_))
    refine toHid ?_
    go_wp2_with (first | (go_at_call 19; refine (twoD0 (rp := ⟨0, 0, [], [], 0, 0⟩) (a' := ⟨3, G, F2 :: F1 :: P1.take 1, [], none⟩) 0 H24.out.2 HE.out HL.out (by decide) isLn_redo rfl (Or.inr rfl) rfl rfl).mono ?_; rintro r w25 ⟨rfl, h1⟩; have H25 := toHid (H24.out.after h1); clear h1; refine Hid.out ?_))
    refine toHid ?_
    go_wp2_with (first | (go_at_call 33; refine (HAL.out _ _ H25.out.2).mono ?_; rintro r w26 ⟨rfl, h1⟩; have H26 := toHid h1.2.low; clear h1; refine Hid.out ?_))
    refine toHid ?_
    go_wp2
    exact bodyPost_ret (v := .bool true) (by simp [results, Tryz.results13, go_sem]) (by simp [go_sem]) ⟨rfl, H26.out⟩
end
end Go.Proofs.YtihgojcfpnhelaaGreatDoor
