import Derived.Test.YtihgojcfpnhelabGreatDoorS2Xba
set_option maxRecDepth 100000
set_option maxHeartbeats 4000000
set_option linter.unusedVariables false
set_option linter.unusedSimpArgs false
namespace Go.Proofs.YtihgojcfpnhelabGreatDoor
open Go.RowKit
section
def BrD (ts : List (By × Nat)) (i kd R : Nat) (i' : Nat) (p : Pt) : Prop := ∃ l j, DerB ts i l j ∧ l.length = R ∧ tAt ts j = [41] ∧ i' = j + 1 ∧ p.k = kd ∧ p.nm = [] ∧ p.n = 0 ∧ p.kids = l
theorem mkP (kd R : Nat) (hR : R = 1 ∨ (R = 3 ∧ kd = 3)) (l : List Pt) (hl : l.length = R) : ∃ p : Pt, p.k = kd ∧ p.nm = [] ∧ p.n = 0 ∧ p.kids = l := by
 rcases hR with rfl | ⟨rfl, rfl⟩
 ·match l, hl with
  | [a], _ => exact ⟨.un kd a, rfl, rfl, rfl, rfl⟩
 ·match l, hl with
  | [a, b, c], _ => exact ⟨.ifs a b c, rfl, rfl, rfl, rfl⟩
section
variable {len : Nat} {ts : List (By × Nat)} {b bl cp : Nat}
theorem br_go (hok : OkT ts) (F : Nat) (IH : LvAll len ts b bl cp F) (kd R i d : Nat) (hR : R = 1 ∨ (R = 3 ∧ kd = 3)) (e : Int) (w : World) (hd : d < 6) (ht : tAt ts i = [40]) (hF : 10 * (ts.length - i) < F) (hS : St len ts w b bl cp i d e) :
  Calls Tryz.prog 150 #[.pointer (some ⟨b, 0, none⟩), .int .i64 (kd : Int), .int .i64 (R : Int)] w (LvPost len ts (brS R (d + 1)) (BrD ts i kd R) 14 b bl cp i d e w) := by
 have hlt := hS.rd.lt
 have hi : i < ts.length := at_lt (by decide) ht
 have hk9 : ((ptoks len ts)[i]).1 = 9 := (hok.word hlt [40] 9 (by decide)).2 ht
 have H := tZ (fun w1 (g : Rdr w1 b bl cp (ptoks len ts) i (d : Int) e) => is_yes w1 b bl cp _ i d e 9 g hk9)
 have H2 := tZ (fun w1 (g : Rdr w1 b bl cp (ptoks len ts) i (d : Int) e) => enter_yes w1 b bl cp _ i d e g hd (by rw [ptoks_length]; omega))
 have hs := hS.rd.size
 have hblk := hS.rd.blk
 have hmany := hS.rd.many
 have HS := tZ hS
 have HIH := tZ IH
 have HT := tZ ht
 have HOK := tZ hok
 have HRR := tZ hR
 have hR1 : 1 ≤ R := by omega
 have hR3 : R ≤ 3 := by omega
 obtain ⟨i0, hi0, hz0, hz1, hz2⟩ := info_parts infoPart
 clear IH ht hok hk9 hR
 go_enter Tryz.func150, Tryz.ntmps150
 go_wp2_with (first | (go_at_call 92; refine (H.out _ (HS.out.rd.next (bZ _))).mono ?_; rintro e w' ⟨rfl, rfl⟩) | (go_at_call 149; refine (H2.out _ (HS.out.rd.next (bZ _))).mono ?_; rintro e w1 ⟨rfl, hr, hbb⟩; refine Hid.out ?_))
 have hR1' := hbb.blk (q := w.heap.size) (heap_alloc_new w _) (by omega)
 have hk1 : Kp b w w1 := (Kp.of (bZ _) hs).trans hbb
 have hS1 : St len ts w1 b bl cp (i + 1) (d + 1) e := HS.out.down (d' := d + 1) hr hk1.bel
 have hsz1 := (Array.getElem?_eq_some_iff.1 hR1').1
 generalize ((ptoks len ts)[i]).2.2.2 = tn at *
 generalize ((ptoks len ts)[i]).2.2.1 = tx at *
 generalize ((ptoks len ts)[i]).2.1 = tp at *
 generalize ((ptoks len ts)[i]).1 = tk at *
 have HBr0 := tZ (show BrI len ts b bl cp w (w1.heap.size + 1) kd d e ((w1.alloc (.cells #[.int .i64 tk, .int .i64 (tp : Int), .string ⟨tx.toArray⟩, .int .i64 (tn : Int)] 78)).alloc (.cells #[.int .i64 (kd : Int), .string ⟨#[]⟩, .int .i64 0, .slice none 0 0] 49)) (i + 1) [] none 0 0 from
  ⟨hS1.next (below2 _ _ _), hk1.next (below2 _ _ _) (by omega), (heap2 _ _ _ hsz1).trans hR1', by have := heap_alloc_new (w1.alloc (.cells #[.int .i64 tk, .int .i64 (tp : Int), .string ⟨tx.toArray⟩, .int .i64 (tn : Int)] 78)) (.cells #[.int .i64 (kd : Int), .string ⟨#[]⟩, .int .i64 0, .slice none 0 0] 49); simpa using this, World.ownsRow_nil _ _ _ _, rfl, (fun x hx => by cases hx), by omega, HS.out.env, hs⟩)
 clear hr hbb hR1' hk1 hS1 H H2
 refine tZ ?_
 go_wp2
 go_loopw [29] (fun ci wr => ∃ (c i' m : Nat) (ks : List KR) (ao : Option Addr) (cap : Nat), c ≤ R ∧ ci = .int .i64 (c : Int) ∧ i < i' ∧ m + 19 ≤ 20 * (i' - i) ∧ Hid (BrI len ts b bl cp w (w1.heap.size + 1) kd d e wr i' ks ao c cap) ∧ Hid (To1 len ts (brS R (d + 1)) (stackS R c (d + 1)) i i' m) ∧ Hid ((c = 0 → i' = i + 1) ∧ (0 < c → DerB ts i (ks.map (·.1)) i'))) (fun ci _ => R - (intOf ci).toNat)
 case atStart =>
  refine ⟨0, i + 1, 1, [], none, 0, by omega, rfl, by omega, by omega, HBr0, ?_, fun _ => rfl, fun h => absurd h (by omega)⟩
  intro K q
  rw [Nat.add_comm 1 q]
  exact step_tok len ts [40] i q _ tkOpen HT.out
 case round =>
  obtain ⟨c, i', m, ks, ao, cap, hc, rfl, hii, hm, HBr, HTo, HDb⟩ := hrel
  have hle : i' ≤ ts.length := HBr.out.st.le
  by_cases hlc : c < R
  ·by_cases h0 : c = 0
   ·subst h0
    have HL := tZ (HIH.out 1 i' (d + 1) e wr (by omega) (by omega) (by omega) (by omega) HBr.out.st)
    go_wp2_with (first | (go_at_call 91; refine HL.out.mono ?_; rintro r w2 (⟨i2, m2, p, a, l, cc, rfl, hp, hD, hS2, hi2, hk2, hm2, hgo⟩ | ⟨i2, m2, d2, er, kk2, n2, s2, a, l, cc, rfl, hr2, her, hk2, hm2, hno⟩) <;> refine Hid.out ?_))
    ·have h2 := HBr.out.call hk2 hS2
     obtain ⟨⟨k0, k1, k2, k3⟩, ⟨f0, f1, f2, f3⟩, hsz⟩ := row4 h2.whl
     have A0 := tZ h2
     have A1 := tZ hS2
     have A2 := tZ hk2
     have A3 := tZ hp
     have A5 := tZ (show To1 len ts (brS R (d + 1)) (stackS R (0 + 1) (d + 1)) i i2 (m + m2) from To1.go (A := [symB (lv 1) (d + 1)]) (by rw [List.singleton_append]; exact HTo.out) hgo)
     have A7 := tZ (show DerB ts i ((ks ++ [(p, a, l, cc)]).map (·.1)) i2 from by
      have h1 := HDb.out.1 trivial
      have h2 := HBr.out.len
      obtain rfl : ks = [] := List.eq_nil_of_length_eq_zero h2.symm
      subst h1
      exact DerB.one i2 p HT.out hD)
     have HNW := tZ (show ∀ j u, ([Value.int .i64 (p.k : Int), .string ⟨p.nm.toArray⟩, .int .i64 (p.n : Int), .slice a l cc])[j]? = some u → ((w2.alloc (.cells #[.int .i64 (p.k : Int), .string ⟨p.nm.toArray⟩, .int .i64 (p.n : Int), .slice a l cc] 49)).alloc (.cells #[.int .i64 (p.k : Int), .string ⟨p.nm.toArray⟩, .int .i64 (p.n : Int), .slice a l cc] 49)).cell? ((⟨w2.heap.size + 1, 0, none⟩ : Addr).add j) = some u from by
      have := World.news_of_block (cs := #[.int .i64 (p.k : Int), .string ⟨p.nm.toArray⟩, .int .i64 (p.n : Int), .slice a l cc]) (t := 49) (fr := (0, 0)) (heap_alloc_new (w2.alloc (.cells #[.int .i64 (p.k : Int), .string ⟨p.nm.toArray⟩, .int .i64 (p.n : Int), .slice a l cc] 49)) (.cells #[.int .i64 (p.k : Int), .string ⟨p.nm.toArray⟩, .int .i64 (p.n : Int), .slice a l cc] 49))
      simpa using this)
     clear h2 hS2 hk2 hp hD hgo
     refine tZ ?_
     go_wp2_with (first | (at_builtin; refine wpList_append_lies _ rfl (.tmp 49) (.tmp 51) 47 rfl (w1.heap.size + 1 + 1) 49 i0 (.agg #[.int .i64 0, .string ⟨#[]⟩, .int .i64 0, .slice none 0 0]) 4 56 Tryz.underlying47 hi0 hz0 hz1 hz2 rfl (by decide) (.slice ao 0 cap) 0 (krc ks) rfl ((A0.out.own.alloc _).alloc _) ⟨w2.heap.size + 1, 0, none⟩ 1 1 [.int .i64 (p.k : Int), .string ⟨p.nm.toArray⟩, .int .i64 (p.n : Int), .slice a l cc] rfl rfl HNW.out (by simp [Value.oneCell']) (by omega) (by unfold maxLen; omega) (by omega) (by simp; omega) (w2.heap.size + 1 + 1) (by simp) ?_; intro g cap' w3 hown' hgrow hat _; refine Hid.out ?_))
     have hb3 := (hgrow.block (w1.heap.size + 1) (by simp; omega) (fun e => by have := (A0.out.own.lt _ e.symm).1; omega)).trans ((heap2 w2 _ _ hsz).trans A0.out.whl)
     obtain ⟨⟨_, _, _, q3⟩, ⟨_, _, _, g3⟩, hsz3⟩ := row4 hb3
     have A6 := tZ (HBr.out.app A2.out A1.out (p, a, l, cc) A3.out (below2 w2 _ _) hgrow (by simpa using hat) hown')
     clear hb3 hown' hgrow hat k0 k1 k2 k3 f0 f1 f2 f3 HNW
     refine tZ ?_
     go_wp2
     go_roundw
     case rel => exact ⟨0 + 1, i2, m + m2, ks ++ [(p, a, l, cc)], some ⟨g, 0, none⟩, cap', by omega, by go_num, by omega, by omega, A6, A5, fun h => by omega, fun _ => A7.out⟩
     case measure => simp [intOf]; omega
    ·obtain ⟨⟨k0, k1, k2, k3⟩, ⟨f0, f1, f2, f3⟩, hsz⟩ := row4 (hk2.blk HBr.out.res (by omega))
     have A1 := tZ hr2
     have A2 := tZ (HBr.out.kp.trans hk2)
     have A3 := tZ (show No1 len ts (brS R (d + 1)) i er (pAt len ts i2) (m + m2) from To1.no (A := [symB (lv 1) (d + 1)]) (L := stackS R (0 + 1) (d + 1)) (by rw [List.singleton_append]; exact HTo.out) hno)
     have A4 := tZ her
     clear hr2 hk2 hno her
     refine tZ ?_
     go_wp2
     refine bodyPost_ret (v := .tuple #[.agg #[.int .i64 0, .string ⟨#[]⟩, .int .i64 0, .slice none 0 0], .bool false]) (by simp [results, Tryz.results150, go_sem, k0, k1, k2, k3, hsz]) rfl ?_
     have hkA := A2.out.there4 w.heap.size (.int .i64 0) (.string ⟨#[]⟩) (.int .i64 0) (.slice none 0 0) (Nat.le_refl _) hs
     exact Or.inr ⟨i2, m + m2, d2, er, 0, 0, [], none, 0, 0, rfl, (A1.out.store4 w.heap.size _ _ _ _ hs).next (bZ _), A4.out, hkA.next (bZ _) (by have := hkA.size; omega), by omega, A3.out⟩
   ·have hc1 : 1 ≤ c := by omega
    have hlt2 := HBr.out.st.rd.lt
    have HST := tZ (stackS_step R c (d + 1) hc1 hlc)
    have hcb : (0 : Int) < (c : Int) := by omega
    by_cases hcm : tAt ts i' = [44]
    ·have hi' : i' < ts.length := at_lt (by decide) hcm
     have hk11 : ((ptoks len ts)[i']).1 = 11 := (HOK.out.word hlt2 [44] 11 (by decide)).2 hcm
     have HP := tZ (pass_yes wr b bl cp _ i' _ e 11 HBr.out.st.rd hk11 (by rw [ptoks_length]; omega))
     have HT2 := tZ (show To1 len ts (brS R (d + 1)) (symB 82 (d + 1) :: stackS R (c + 1) (d + 1)) i (i' + 1) (m + 1) from To1.tok (by rw [← HST.out]; exact HTo.out) tkComma hcm)
     have HCM := tZ hcm
     clear hcm hk11
     go_wp2_with (first | (go_at_call 174; refine HP.out.mono ?_; rintro r wp ⟨rfl, hr1, hb1⟩; refine Hid.out ?_))
     have HBp := tZ (HBr.out.call hb1 (HBr.out.st.down (d' := d + 1) hr1 hb1.bel))
     have HL := tZ (HIH.out 1 (i' + 1) (d + 1) e wp (by omega) (by omega) (by omega) (by omega) HBp.out.st)
     clear hr1 hb1 HP
     refine tZ ?_
     go_wp2_with (first | (go_at_call 91; refine HL.out.mono ?_; rintro r w2 (⟨i2, m2, p, a, l, cc, rfl, hp, hD, hS2, hi2, hk2, hm2, hgo⟩ | ⟨i2, m2, d2, er, kk2, n2, s2, a, l, cc, rfl, hr2, her, hk2, hm2, hno⟩) <;> refine Hid.out ?_))
     ·have h2 := HBp.out.call hk2 hS2
      obtain ⟨⟨k0, k1, k2, k3⟩, ⟨f0, f1, f2, f3⟩, hsz⟩ := row4 h2.whl
      have A0 := tZ h2
      have A1 := tZ hS2
      have A2 := tZ hk2
      have A3 := tZ hp
      have A5 := tZ (show To1 len ts (brS R (d + 1)) (stackS R (c + 1) (d + 1)) i i2 ((m + 1) + m2) from To1.go (A := [symB (lv 1) (d + 1)]) (by rw [List.singleton_append]; exact HT2.out) hgo)
      have A7 := tZ (show DerB ts i ((ks ++ [(p, a, l, cc)]).map (·.1)) i2 from by
       rw [List.map_append]
       exact DerB.snoc _ i' i2 p (HDb.out.2 (by omega)) HCM.out hD)
      have HNW := tZ (show ∀ j u, ([Value.int .i64 (p.k : Int), .string ⟨p.nm.toArray⟩, .int .i64 (p.n : Int), .slice a l cc])[j]? = some u → ((w2.alloc (.cells #[.int .i64 (p.k : Int), .string ⟨p.nm.toArray⟩, .int .i64 (p.n : Int), .slice a l cc] 49)).alloc (.cells #[.int .i64 (p.k : Int), .string ⟨p.nm.toArray⟩, .int .i64 (p.n : Int), .slice a l cc] 49)).cell? ((⟨w2.heap.size + 1, 0, none⟩ : Addr).add j) = some u from by
       have := World.news_of_block (cs := #[.int .i64 (p.k : Int), .string ⟨p.nm.toArray⟩, .int .i64 (p.n : Int), .slice a l cc]) (t := 49) (fr := (0, 0)) (heap_alloc_new (w2.alloc (.cells #[.int .i64 (p.k : Int), .string ⟨p.nm.toArray⟩, .int .i64 (p.n : Int), .slice a l cc] 49)) (.cells #[.int .i64 (p.k : Int), .string ⟨p.nm.toArray⟩, .int .i64 (p.n : Int), .slice a l cc] 49))
       simpa using this)
      clear h2 hS2 hk2 hp hD hgo
      refine tZ ?_
      go_wp2_with (first | (at_builtin; refine wpList_append_lies _ rfl (.tmp 49) (.tmp 51) 47 rfl (w1.heap.size + 1 + 1) 49 i0 (.agg #[.int .i64 0, .string ⟨#[]⟩, .int .i64 0, .slice none 0 0]) 4 56 Tryz.underlying47 hi0 hz0 hz1 hz2 rfl (by decide) (.slice ao c cap) c (krc ks) rfl ((A0.out.own.alloc _).alloc _) ⟨w2.heap.size + 1, 0, none⟩ 1 1 [.int .i64 (p.k : Int), .string ⟨p.nm.toArray⟩, .int .i64 (p.n : Int), .slice a l cc] rfl rfl HNW.out (by simp [Value.oneCell']) (by omega) (by unfold maxLen; omega) (by omega) (by simp; omega) (w2.heap.size + 1 + 1) (by simp) ?_; intro g cap' w3 hown' hgrow hat _; refine Hid.out ?_))
      have hb3 := (hgrow.block (w1.heap.size + 1) (by simp; omega) (fun e => by have := (A0.out.own.lt _ e.symm).1; omega)).trans ((heap2 w2 _ _ hsz).trans A0.out.whl)
      obtain ⟨⟨_, _, _, q3⟩, ⟨_, _, _, g3⟩, hsz3⟩ := row4 hb3
      have A6 := tZ (HBp.out.app A2.out A1.out (p, a, l, cc) A3.out (below2 w2 _ _) hgrow (by simpa using hat) hown')
      clear hb3 hown' hgrow hat k0 k1 k2 k3 f0 f1 f2 f3 HNW
      refine tZ ?_
      go_wp2
      go_roundw
      case rel => exact ⟨c + 1, i2, (m + 1) + m2, ks ++ [(p, a, l, cc)], some ⟨g, 0, none⟩, cap', by omega, by go_num, by omega, by omega, A6, A5, fun h => by omega, fun _ => A7.out⟩
      case measure => simp [intOf]; omega
     ·obtain ⟨⟨k0, k1, k2, k3⟩, ⟨f0, f1, f2, f3⟩, hsz⟩ := row4 (hk2.blk HBp.out.res (by omega))
      have A1 := tZ hr2
      have A2 := tZ (HBp.out.kp.trans hk2)
      have A3 := tZ (show No1 len ts (brS R (d + 1)) i er (pAt len ts i2) ((m + 1) + m2) from To1.no (A := [symB (lv 1) (d + 1)]) (L := stackS R (c + 1) (d + 1)) (by rw [List.singleton_append]; exact HT2.out) hno)
      have A4 := tZ her
      clear hr2 hk2 hno her
      refine tZ ?_
      go_wp2
      refine bodyPost_ret (v := .tuple #[.agg #[.int .i64 0, .string ⟨#[]⟩, .int .i64 0, .slice none 0 0], .bool false]) (by simp [results, Tryz.results150, go_sem, k0, k1, k2, k3, hsz]) rfl ?_
      have hkA := A2.out.there4 w.heap.size (.int .i64 0) (.string ⟨#[]⟩) (.int .i64 0) (.slice none 0 0) (Nat.le_refl _) hs
      exact Or.inr ⟨i2, (m + 1) + m2, d2, er, 0, 0, [], none, 0, 0, rfl, (A1.out.store4 w.heap.size _ _ _ _ hs).next (bZ _), A4.out, hkA.next (bZ _) (by have := hkA.size; omega), by omega, A3.out⟩
    ·have hk11 : ((ptoks len ts)[i']).1 ≠ 11 := fun h => hcm ((HOK.out.word hlt2 [44] 11 (by decide)).1 h)
     have HP := tZ (pass_no wr b bl cp _ i' _ e 11 HBr.out.st.rd hk11)
     have A3 := tZ (show No1 len ts (brS R (d + 1)) i 3 (pAt len ts i') (m + 1) from To1.bad (by rw [← HST.out]; exact HTo.out) tkComma hcm)
     clear hcm hk11
     go_wp2_with (first | (go_at_call 174; refine HP.out.mono ?_; rintro r wp ⟨rfl, hr1, hb1⟩; refine Hid.out ?_))
     obtain ⟨⟨k0, k1, k2, k3⟩, ⟨f0, f1, f2, f3⟩, hsz⟩ := row4 (hb1.blk HBr.out.res (by omega))
     have A1 := tZ hr1
     have A2 := tZ (HBr.out.kp.trans hb1)
     clear hr1 hb1 HP
     refine tZ ?_
     go_wp2
     refine bodyPost_ret (v := .tuple #[.agg #[.int .i64 0, .string ⟨#[]⟩, .int .i64 0, .slice none 0 0], .bool false]) (by simp [results, Tryz.results150, go_sem, k0, k1, k2, k3]) rfl ?_
     exact Or.inr ⟨i', m + 1, _, 3, 0, 0, [], none, 0, 0, rfl, A1.out.store4 w.heap.size _ _ _ _ hs, by decide, A2.out.there4 w.heap.size _ _ _ _ (Nat.le_refl _) hs, by omega, A3.out⟩
  ·obtain rfl : c = R := by omega
   obtain ⟨_, c2, _, fz⟩ := HBr.out.st.rd.cell
   have fz2 := fz 1
   clear fz
   obtain ⟨⟨k0, k1, k2, k3⟩, ⟨f0, f1, f2, f3⟩, hsz⟩ := row4 HBr.out.res
   obtain ⟨⟨q0, q1, q2, q3⟩, _, hszW⟩ := row4 HBr.out.whl
   have hcast : ((d + 1 : Nat) : Int) = (d : Int) + 1 := by omega
   rw [hcast] at c2
   clear hcast
   obtain ⟨hSd, hbd⟩ := HBr.out.st.setD d
   have HSD := tZ hSd
   have HBD := tZ hbd
   clear hSd hbd
   have HPY := tZ (fun w4 (g : Rdr w4 b bl cp (ptoks len ts) i' (d : Int) e) hk hi => pass_yes w4 b bl cp _ i' _ e 10 g hk hi)
   have HPN := tZ (fun w4 (g : Rdr w4 b bl cp (ptoks len ts) i' (d : Int) e) hk => pass_no w4 b bl cp _ i' _ e 10 g hk)
   have hlt2 := HBr.out.st.rd.lt
   have HTE := tZ (show To1 len ts (brS c (d + 1)) ([41] :: []) i i' m by have := HTo.out; rw [stackS_end c (d + 1) hR1] at this; exact this)
   have HX := tZ (show ∀ wp, Kp b ((wr.setCell ⟨b, 1, none⟩ (.int .i64 (d : Int))).drew) wp → wp.heap[w.heap.size]? = some (.cells #[.int .i64 0, .string ⟨#[]⟩, .int .i64 0, .slice none 0 0] 49 (0, 0)) ∧ wp.heap[w1.heap.size + 1]? = some (.cells #[.int .i64 (kd : Int), .string ⟨#[]⟩, .int .i64 0, .slice ao c cap] 49 (0, 0)) from fun wp h =>
    ⟨h.blk ((Below.heap_setCell wr ⟨b, 1, none⟩ (.int .i64 (d : Int)) w.heap.size (by show w.heap.size ≠ b; omega)).trans HBr.out.res) (by omega), h.blk ((Below.heap_setCell wr ⟨b, 1, none⟩ (.int .i64 (d : Int)) (w1.heap.size + 1) (by show w1.heap.size + 1 ≠ b; omega)).trans HBr.out.whl) (by omega)⟩)
   by_cases hcl : tAt ts i' = [41]
   ·have hi' : i' < ts.length := at_lt (by decide) hcl
    have hk10 : ((ptoks len ts)[i']).1 = 10 := (HOK.out.word hlt2 [41] 10 (by decide)).2 hcl
    have HK10 := tZ hk10
    have HI10 := tZ (show i' + 1 < (ptoks len ts).length by rw [ptoks_length]; omega)
    have HG := tZ (show Go1 len ts (brS c (d + 1)) i (i' + 1) (m + 1) from To1.go1 (To1.tok HTE.out tkClose hcl))
    have HCL := tZ hcl
    clear hcl hk10
    have HFIN := tZ (show ∀ wp, Rdr wp b bl cp (ptoks len ts) (i' + 1) (d : Int) e → Kp b ((wr.setCell ⟨b, 1, none⟩ (.int .i64 (d : Int))).drew) wp → ∀ v0 v1 v2 v3, LvPost len ts (brS c (d + 1)) (BrD ts i kd c) 14 b bl cp i d e w (.returned (.tuple #[.agg #[.int .i64 (kd : Int), .string ⟨#[]⟩, .int .i64 0, .slice ao c cap], .bool true])) ((((wp.setCell ⟨w.heap.size, 0, none⟩ v0).setCell ⟨w.heap.size, 1, none⟩ v1).setCell ⟨w.heap.size, 2, none⟩ v2).setCell ⟨w.heap.size, 3, none⟩ v3) from fun wp hr1 hb1 v0 v1 v2 v3 => by
     have hkA : Kp b wr wp := (Kp.drew HBD.out).trans hb1
     have hlen := HBr.out.len
     obtain ⟨p, e1, e2, e3, e4⟩ := mkP kd c HRR.out (ks.map (·.1)) (by rw [List.length_map]; omega)
     refine Or.inl ⟨i' + 1, m + 1, p, ao, c, cap, by rw [e1, e2, e3]; rfl, HBr.out.fin hkA hR1 v0 v1 v2 v3 p e4, ⟨ks.map (·.1), i', HDb.out.2 (by omega), by rw [List.length_map]; omega, HCL.out, rfl, e1, e2, e3, e4⟩, (HBr.out.st.down (d' := d) hr1 hkA.bel).store4 w.heap.size _ _ _ _ hs, by omega, (HBr.out.kp.trans hkA).there4 w.heap.size _ _ _ _ (Nat.le_refl _) hs, by omega, HG.out⟩)
    go_wp2_with fail
    go_region_with (first | (go_at_call 174; refine (HPY.out _ HSD.out.rd.drew HK10.out HI10.out).mono ?_; rintro r wp ⟨rfl, hr1, hb1⟩; obtain ⟨⟨y0, y1, y2, y3⟩, ⟨z0, z1, z2, z3⟩, hsy⟩ := row4 (HX.out _ hb1).1; obtain ⟨⟨x0, x1, x2, x3⟩, _, hsx⟩ := row4 (HX.out _ hb1).2; have B1 := tZ hr1; have B2 := tZ hb1; clear hr1 hb1))
    all_goals go_wp2
    all_goals refine bodyPost_ret (v := .tuple #[.agg #[.int .i64 (kd : Int), .string ⟨#[]⟩, .int .i64 0, .slice ao c cap], .bool true]) (by simp [results, Tryz.results150, go_sem, y0, y1, y2, y3]) rfl ?_
    all_goals exact HFIN.out wp B1.out B2.out _ _ _ _
   ·have hk10 : ((ptoks len ts)[i']).1 ≠ 10 := fun h => hcl ((HOK.out.word hlt2 [41] 10 (by decide)).1 h)
    have HK10 := tZ hk10
    have A3 := tZ (show No1 len ts (brS c (d + 1)) i 3 (pAt len ts i') (m + 1) from To1.bad HTE.out tkClose hcl)
    clear hcl hk10
    have HFIN := tZ (show ∀ wp, Rdr wp b bl cp (ptoks len ts) i' (d : Int) 3 → Kp b ((wr.setCell ⟨b, 1, none⟩ (.int .i64 (d : Int))).drew) wp → ∀ v0 v1 v2 v3, LvPost len ts (brS c (d + 1)) (BrD ts i kd c) 14 b bl cp i d e w (.returned (.tuple #[.agg #[.int .i64 (kd : Int), .string ⟨#[]⟩, .int .i64 0, .slice ao c cap], .bool false])) ((((wp.setCell ⟨w.heap.size, 0, none⟩ v0).setCell ⟨w.heap.size, 1, none⟩ v1).setCell ⟨w.heap.size, 2, none⟩ v2).setCell ⟨w.heap.size, 3, none⟩ v3) from fun wp hr1 hb1 v0 v1 v2 v3 => by
     have hkA : Kp b wr wp := (Kp.drew HBD.out).trans hb1
     exact Or.inr ⟨i', m + 1, d, 3, kd, 0, [], ao, c, cap, rfl, hr1.store4 w.heap.size _ _ _ _ hs, by decide, (HBr.out.kp.trans hkA).there4 w.heap.size _ _ _ _ (Nat.le_refl _) hs, by omega, A3.out⟩)
    go_wp2_with fail
    go_region_with (first | (go_at_call 174; refine (HPN.out _ HSD.out.rd.drew HK10.out).mono ?_; rintro r wp ⟨rfl, hr1, hb1⟩; obtain ⟨⟨y0, y1, y2, y3⟩, ⟨z0, z1, z2, z3⟩, hsy⟩ := row4 (HX.out _ hb1).1; obtain ⟨⟨x0, x1, x2, x3⟩, _, hsx⟩ := row4 (HX.out _ hb1).2; have B1 := tZ hr1; have B2 := tZ hb1; clear hr1 hb1))
    all_goals go_wp2
    all_goals refine bodyPost_ret (v := .tuple #[.agg #[.int .i64 (kd : Int), .string ⟨#[]⟩, .int .i64 0, .slice ao c cap], .bool false]) (by simp [results, Tryz.results150, go_sem, y0, y1, y2, y3]) rfl ?_
    all_goals exact HFIN.out wp B1.out B2.out _ _ _ _
end
end
end Go.Proofs.YtihgojcfpnhelabGreatDoor
