import Derived.Test.YtihgojcfpnhelabGreatDoorS2Ng
import Derived.Deep.CutBlock
set_option maxRecDepth 100000
set_option maxHeartbeats 4000000
set_option linter.unusedVariables false
set_option linter.unusedSimpArgs false
namespace Go.Proofs.YtihgojcfpnhelabGreatDoor
open Go.RowKit
section
open Go.RowKit Go.Shelf Go.Sort
theorem cnt_up (n j gk : Nat) (h : j < n) (h' : n ≤ j + gk) : n ≤ j + 1 + (n - (j + 1)) ∧ n - (j + 1) < gk := by omega
theorem listS {S : Nat → Prop} (e c : Nat) (a : Option Addr) (fs : List (Nat × Fd)) (w : World) (hs : Sh w S a fs) (hE : Env w) (hc : w.cell? ⟨e, 0, none⟩ = some (.slice a fs.length c)) (he : e < w.heap.size) (hl : fs.length ≤ 12) (hnm : ∀ f, f ∈ fs → f.2.nm.length ≤ 100) :
  Calls Tryz.prog 42 #[.pointer (some ⟨e, 0, none⟩)] w fun r w' => r = .returned (.string ⟨(lstB fs).toArray⟩) ∧ Below w.heap.size w w' := by
 have HV := tZ (fun W => valuesC a fs.length c W)
 have HS := tZ hs
 have HNM := tZ hnm
 have HSF := tZ (fun (W : World) (hW : Below (w.alloc (.cells #[.slice a fs.length c] 58)).heap.size (w.alloc (.cells #[.slice a fs.length c] 58)) W) => sortedFs (S := S) w.heap.size c a fs W ((hs.next (bZ _)).next hW) (by have := hW.size; simp at this; omega) ((hW.cell (p := ⟨w.heap.size, 0, none⟩) (by simp)).trans (cell_of_row _ _ 0 _ _ _ (heap_alloc_new w (.cells #[.slice a fs.length c] 58)))) hl)
 clear hs hnm
 go_enter Tryz.func42, Tryz.ntmps42
 go_wp2_with (first | (go_at_call 61; refine (HV.out _).mono ?_; rintro r w1 ⟨rfl, rfl⟩) | (go_at_call 60; refine (HSF.out _ (Below.refl _ _)).mono ?_; rintro r w2 ⟨a', c', rfl, P1, B1⟩))
 have HB0 := tZ (bu_new w2)
 have hw2 : w.heap.size + 1 ≤ w2.heap.size := by have := B1.out.size; simpa using this
 have HLW := tZ (show Below w.heap.size w w2 from (bZ _).trans (B1.out.mono (by simp)))
 have HGS := tZ (And.intro (srtL_facts fs).1.length_eq fun f (hf : f ∈ srtL fs) => (srtL_facts fs).1.mem_iff.1 hf)
 have HLB := tZ (Eq.refl (lstB fs))
 generalize hgs : srtL fs = gs at P1 HGS
 have HLB2 : Hid (lstB fs = gs.flatMap fun f => rowB f.2) := by rw [← hgs]; exact tZ rfl
 clear HLB hgs HSF HV B1
 generalize hn : fs.length = n at *
 clear hn
 go_loopg [15] n (fun gk i wr => ∃ j : Nat, j ≤ n ∧ n ≤ j + gk ∧ i = .int .i64 (j : Int) ∧ Hid (Bu w2.heap.size ((gs.take j).flatMap fun f => rowB f.2) wr ∧ Okw w2.heap.size (w2.alloc (.cells #[.pointer none, .slice none 0 0] 129)) wr))
 case atStart => exact ⟨0, Nat.zero_le _, by omega, rfl, tZ ⟨HB0.out, Okw.refl _ _⟩⟩
 case round =>
  obtain ⟨j, hj, hgk, rfl, HI⟩ := hrel
  by_cases hjn : j < n
  ·have hjg : j < gs.length := by rw [HGS.out.1]; exact hjn
   obtain ⟨g, ha', hcell⟩ := P1.out j hjg
   subst ha'
   have hf : gs[j] ∈ fs := HGS.out.2 _ (List.getElem_mem hjg)
   obtain ⟨_, hsh, hgd, htx, a1, l1, c1, hb, hP⟩ := HS.out.fld _ hf
   have hnmf := HNM.out _ hf
   have hflt := (HS.out.fld _ hf).lt
   have hac : ((gs.take j).flatMap fun f => rowB f.2).length ≤ 2448 := by
    have h1 := rows_len (gs.take j) fun f hf => ⟨HNM.out f (HGS.out.2 f (List.mem_of_mem_take hf)), by obtain ⟨_, _, _, h1, _⟩ := HS.out.fld f (HGS.out.2 f (List.mem_of_mem_take hf)); exact h1⟩
    have h2 : (gs.take j).length ≤ 12 := by simp; omega
    omega
   have hbb : Below w2.heap.size w2 wr := (bZ _).trans HI.out.2.bel
   have hbw : Below w.heap.size w wr := HLW.out.trans (hbb.mono (by omega))
   have hgl : g < w2.heap.size := by
    obtain ⟨_, _, _, h1, _⟩ := cells_of_cell? hcell
    exact (Array.getElem?_eq_some_iff.1 h1).1
   have hcx : wr.cell? ⟨g, j, none⟩ = some (.pointer (some ⟨gs[j].1, 0, none⟩)) := (hbb.cell (p := ⟨g, j, none⟩) hgl).trans hcell
   have hacc := tZ (show (gs.take (j + 1)).flatMap (fun f => rowB f.2) = (gs.take j).flatMap (fun f => rowB f.2) ++ rowB gs[j].2 from by
    rw [List.take_succ_eq_append_getElem hjg, List.flatMap_append]
    simp)
   generalize hfg : gs[j] = f at *
   have HR := tZ ((hbw.block f.1 hflt).trans hb)
   obtain ⟨⟨k0, k1, k2, k3, k4, k5, k6⟩, hfz, hsz⟩ := row7 HR.out
   have HPL := tZ (fun (W : World) (hW : Below wr.heap.size wr W) => rulePlain9 f.2.p a1 l1 c1 W ((hP.next fun q hq => hbw.block q (HS.out.still q hq)).next fun q hq => hW.block q (Nat.lt_of_lt_of_le (HS.out.still q hq) hbw.size)) (fun q hq => Nat.lt_of_lt_of_le (HS.out.still q hq) (Nat.le_trans hbw.size hW.size)) ((hE.next hbw).next hW) hgd (by omega))
   have HW := tZ (fun (W : World) (hW : Below wr.heap.size wr W) => wstr w2.heap.size ((gs.take j).flatMap fun f => rowB f.2) (rowB f.2) W (HI.out.1.next hW) (by have := rowB_len f.2; omega))
   rw [rowB_bytes] at HW
   have hil : (j : Int) < (n : Int) := by omega
   have hwj : wrap64 ((j : Int) + 1) = ((j + 1 : Nat) : Int) := wrap_up n j (by unfold maxLen; omega) hjn
   have HFIN := tZ (show ∀ w3 w4, Below wr.heap.size wr w3 → Bu w2.heap.size ((gs.take j).flatMap (fun f => rowB f.2) ++ rowB f.2) w4 → Okw w2.heap.size w3 w4 → (Bu w2.heap.size ((gs.take (j + 1)).flatMap fun f => rowB f.2) w4 ∧ Okw w2.heap.size (w2.alloc (.cells #[.pointer none, .slice none 0 0] 129)) w4) from fun w3 w4 h3 h4 h5 => by
    rw [hacc.out]
    exact ⟨h4, (HI.out.2.next h3 (Nat.le_of_lt HI.out.1.2)).trans h5⟩)
   have b1 : ¬ 9223372036854775807 < List.length f.2.nm + 3 := by omega
   have b2 : ¬ 9223372036854775807 < List.length f.2.nm + 3 + List.length (txt f.2.p) := by omega
   have b3 : ¬ 9223372036854775807 < List.length f.2.nm + 3 + List.length (txt f.2.p) + 1 := by omega
   clear hb hP hsh hgd htx hcell hbb hbw hfg
   have HM := tZ (cnt_up n j _ hjn hgk)
   go_upto_block 1 with fail
   go_cut [15] (fun s15 wc => s15 = .int .i64 (j : Int) ∧ Hid (Bu w2.heap.size ((gs.take (j + 1)).flatMap fun f => rowB f.2) wc ∧ Okw w2.heap.size (w2.alloc (.cells #[.pointer none, .slice none 0 0] 129)) wc))
   case first =>
    go_wp2_with fail
    go_region_with (first | (go_at_call 59; refine (HPL.out _ (Below.refl _ _).drew).mono ?_; rintro r w3 ⟨rfl, hb3⟩; have C3 := tZ ((Below.refl wr.heap.size wr).drew.trans hb3); obtain ⟨⟨m0, m1, m2, m3, m4, m5, m6⟩, mfz, msz⟩ := row7 ((C3.out.block f.1 hsz).trans HR.out); clear hb3) | (go_at_call 64; refine (HW.out _ C3.out).mono ?_; rintro r w4 ⟨rfl, hB4, hO4⟩; have C4 := tZ (HFIN.out _ _ C3.out hB4 hO4); clear hB4 hO4))
    all_goals (go_wp2_with fail; go_meet; exact ⟨rfl, C4⟩)
   case rest =>
    obtain ⟨rfl, C4⟩ := hcut
    go_wp2
    go_roundg (n - (j + 1))
    case measure => exact HM.out.2
    case rel => exact ⟨j + 1, hjn, HM.out.1, by rw [hwj], C4⟩
  ·obtain rfl : j = n := by omega
   have hfin : Hid (Bu w2.heap.size (lstB fs) wr ∧ Below w.heap.size w wr) := by
    have h1 := HI.out.1
    rw [List.take_of_length_le (by rw [HGS.out.1]; exact Nat.le_refl _), ← HLB2.out] at h1
    exact tZ ⟨h1, HLW.out.trans (((bZ _).trans HI.out.2.bel).mono (by omega))⟩
   have hni : ¬ (j : Int) < (j : Int) := by omega
   obtain ⟨tx, htx⟩ : ∃ tx, lstB fs = tx := ⟨_, rfl⟩
   rw [htx] at hfin
   have HTX := tZ htx
   clear htx
   go_wp2_with (first | (go_at_call 65; refine (Tryz.Builder_String_any_k w2.heap.size w2.heap.size tx _ hfin.out.1.1 (by have := hfin.out.1.2; omega)).mono ?_; rintro r w5 ⟨rfl, hB5, hb5⟩))
   refine bodyPost_ret (v := .string ⟨tx.toArray⟩) (by simp [results, Tryz.results42, go_sem]) (by simp [go_sem]) ?_
   rw [HTX.out]
   exact ⟨rfl, hfin.out.2.trans (hb5.1.mono (by omega))⟩
end
end Go.Proofs.YtihgojcfpnhelabGreatDoor
