import Derived.Test.YtkhpobgknnjbaaaDoorXc
namespace Go.Proofs.YtkhpobgknnjbaaaDoor
open Go.RowKit

theorem Env.aheadAt {w : World} (h : Env w) (k : Nat) (hk : k < 20) : w.cell? ⟨2, k, none⟩ = some (.int .i64 (aheadW.getD k 0)) := by
  obtain ⟨t, fr, hb⟩ := h.ahead
  rw [cell_of_row w 2 k _ _ _ hb]
  have hl : k < aheadW.length := hk
  simp [aheadC, List.getD_eq_getElem?_getD, hl]

theorem Env.betwAt {w : World} (h : Env w) (k : Nat) (hk : k < 20) : w.cell? ⟨3, k, none⟩ = some (.int .i64 (betwW.getD k 0)) := by
  obtain ⟨t, fr, hb⟩ := h.betw
  rw [cell_of_row w 3 k _ _ _ hb]
  have hl : k < betwW.length := hk
  simp [betwC, List.getD_eq_getElem?_getD, hl]

theorem sgn_bet (n : Nat) (h1 : 1 ≤ n) (h5 : n ≤ 5) (t : By) (h : inB t (sgn n) = true) : inB t betW = true ∧ behB t = false ∧ t ≠ [] := by
  have hn : n = 1 ∨ n = 2 ∨ n = 3 ∨ n = 4 ∨ n = 5 := by omega
  simp only [inB, List.contains_iff_mem] at h
  rcases hn with rfl | rfl | rfl | rfl | rfl <;> simp only [sgn, List.mem_cons, List.not_mem_nil, or_false] at h
  · subst h; decide
  · subst h; decide
  · rcases h with rfl | rfl <;> decide
  · rcases h with rfl | rfl <;> decide
  · rcases h with rfl | rfl | rfl <;> decide

section
variable {len : Nat} {ts : List (By × Nat)} {b bl cp : Nat}

set_option maxRecDepth 100000 in
set_option maxHeartbeats 2000000 in
theorem lv_ahead (k n i : Nat) (tk : List PT) (d e : Int) (w : World) (h : Rdr w b bl cp (ptoks len ts) i tk d e) (hE : Env w) (hk20 : k < 20) (hk : ((ptoks len ts)[i]'h.lt).1 = (k : Int)) (ha : aheadW.getD k 0 = (n : Int)) (P : Ending → World → Prop)
    (hP : Calls Tryd.prog 43 #[.pointer (some ⟨b, 0, none⟩), .int .i64 (n : Int)] w fun r w2 => ∃ z, r = .returned (.bool z) ∧ P (.returned (.bool z)) w2) :
    Calls Tryd.prog 29 #[.pointer (some ⟨b, 0, none⟩), .int .i64 (n : Int)] w P := by
  have H := toHid (kind42 w b bl cp _ i tk d e h)
  have HK := toHid hk
  have HP := toHid hP
  have hc := hE.aheadAt k hk20
  have hk1 : (0 : Int) ≤ (k : Int) := by omega
  have hk2 : (k : Int) < 20 := by omega
  rw [ha] at hc
  have hnb : ((n : Int) == (n : Int)) = true := by simp
  clear hk hP hE ha
  go_enter Tryd.func29, Tryd.ntmps29
  go_wp2_with (first | (go_at_call 42; refine H.out.mono ?_; rw [HK.out]; rintro e w' ⟨rfl, rfl⟩) | (go_at_call 43; refine HP.out.mono ?_; rintro e w2 ⟨z, rfl, hz⟩; have HZ := toHid hz; clear hz; refine Hid.out ?_))
  refine toHid ?_
  go_wp2
  exact HZ.out

set_option maxRecDepth 100000 in
set_option maxHeartbeats 2000000 in
theorem lv_atom (k i : Nat) (tk : List PT) (d e : Int) (w : World) (h : Rdr w b bl cp (ptoks len ts) i tk d e) (hE : Env w) (hk20 : k < 20) (hk : ((ptoks len ts)[i]'h.lt).1 = (k : Int)) (ha : aheadW.getD k 0 ≠ 6) (P : Ending → World → Prop)
    (hP : Calls Tryd.prog 44 #[.pointer (some ⟨b, 0, none⟩)] w fun r w2 => ∃ z, r = .returned (.bool z) ∧ P (.returned (.bool z)) w2) :
    Calls Tryd.prog 29 #[.pointer (some ⟨b, 0, none⟩), .int .i64 6] w P := by
  have H := toHid (kind42 w b bl cp _ i tk d e h)
  have HK := toHid hk
  have HP := toHid hP
  have hc := hE.aheadAt k hk20
  have hk1 : (0 : Int) ≤ (k : Int) := by omega
  have hk2 : (k : Int) < 20 := by omega
  generalize aheadW.getD k 0 = av at *
  have hab : (av == 6) = false := beq_eq_false_iff_ne.2 ha
  clear hk hP hE ha
  go_enter Tryd.func29, Tryd.ntmps29
  go_wp2_with (first | (go_at_call 42; refine H.out.mono ?_; rw [HK.out]; rintro e w' ⟨rfl, rfl⟩) | (go_at_call 44; refine HP.out.mono ?_; rintro e w2 ⟨z, rfl, hz⟩; have HZ := toHid hz; clear hz; refine Hid.out ?_))
  refine toHid ?_
  go_wp2
  exact HZ.out

set_option maxRecDepth 100000 in
set_option maxHeartbeats 8000000 in
theorem lv_go (hok : OkT ts) (F : Nat) (IH : LvAll len ts b bl cp F) (k n i d : Nat) (hn1 : 1 ≤ n) (hn5 : n ≤ 5) (tk : List PT) (e : Int) (w : World) (hd : d ≤ 6) (hF : 10 * (ts.length - i) + (7 - n) < F + 1) (hS : St len ts w b bl cp i tk d e) (hq : behO (prevB ts i) = false)
    (hk20 : k < 20) (hk : ((ptoks len ts)[i]'hS.rd.lt).1 = (k : Int)) (ha : aheadW.getD k 0 ≠ (n : Int)) (hbec : becB (lv n) d (tAt ts i) = [symB (lv (n + 1)) d, symB (tl n) d]) :
    Calls Tryd.prog 29 #[.pointer (some ⟨b, 0, none⟩), .int .i64 (n : Int)] w (LvPost len ts [symB (lv n) d] (2 * n) b bl cp i d e w) := by
  have H := toHid (kind42 w b bl cp _ i tk d e hS.rd)
  have HK := toHid hk
  have hc := hS.env.aheadAt k hk20
  have hk1 : (0 : Int) ≤ (k : Int) := by omega
  have hk2 : (k : Int) < 20 := by omega
  generalize aheadW.getD k 0 = av at *
  have hab : (av == (n : Int)) = false := beq_eq_false_iff_ne.2 ha
  have hn6 : ((n : Int) == 6) = false := beq_eq_false_iff_ne.2 (by omega)
  have HIH := toHid IH
  have HOK := toHid hok
  have HBEC := toHid hbec
  have hcast : ((n + 1 : Nat) : Int) = (n : Int) + 1 := by omega
  have HL1 := toHid (IH (n + 1) i d tk e w (by omega) (by omega) hd (by omega) hS hq)
  rw [hcast] at HL1
  have HCAST := toHid hcast
  clear hk ha IH hok hbec hq hcast
  go_enter Tryd.func29, Tryd.ntmps29
  go_wp2_with (first | (go_at_call 42; refine H.out.mono ?_; rw [HK.out]; rintro e w' ⟨rfl, rfl⟩) | (go_at_call 29; refine HL1.out.mono ?_; rintro r w1 (⟨rfl, i1, tk1, m1, hS1, hi1, hbe1, hb1, hm1, hgo1⟩ | ⟨rfl, i1, tk1, d1, er, m1, hr1, her, hb1, hm1, hno1⟩) <;> refine Hid.out ?_))
  · have A1 := toHid hS1
    have A2 := toHid hb1
    have A3 := toHid hbe1
    have A4 := toHid (show To1 len ts [symB (lv n) d] [symB (tl n) d] i i1 (m1 + 1) from fun K q => by
      rw [show m1 + 1 + q = m1 + q + 1 by omega, List.singleton_append, step_sym len ts (lv n) d i (m1 + q) K (by omega), HBEC.out]
      exact hgo1 (symB (tl n) d :: K) q)
    clear hS1 hb1 hbe1 hgo1 hc
    refine toHid ?_
    go_wp2
    go_loopg [] (ts.length - i1) (fun gk wr => ∃ (i' m : Nat) (tk' : List PT), ts.length ≤ i' + gk ∧ i < i' ∧ m + 2 * n + 1 ≤ 20 * (i' - i) ∧ Hid (St len ts wr b bl cp i' tk' d e) ∧ Hid (Below b w wr) ∧ Hid (behO (prevB ts i') = true) ∧ Hid (To1 len ts [symB (lv n) d] [symB (tl n) d] i i' m))
    case atStart => exact ⟨i1, m1 + 1, tk1, by omega, by omega, by omega, A1, A2, A3, A4⟩
    case round =>
      obtain ⟨i', m, tk', hgk, hii, hm, HSr, HBr, HPv, HTo⟩ := hrel
      have hlt := HSr.out.rd.lt
      have hle := HSr.out.le
      obtain ⟨k', hcl, hkk, hk20', hk0⟩ := HOK.out.cls hlt
      have HCL := toHid hcl
      have HK' := toHid hkk
      have H' := toHid (kind42 wr b bl cp _ i' tk' d e HSr.out.rd)
      have hc' := HSr.out.env.betwAt k' hk20'
      have hk1' : (0 : Int) ≤ (k' : Int) := by omega
      have hk2' : (k' : Int) < 20 := by omega
      have HBS := toHid (betw_sgn _ k' hcl n hn1 hn5)
      clear hcl hkk hk0
      by_cases hbt : inB (tAt ts i') (sgn n) = true
      · obtain ⟨hbw, hbn, hne⟩ := sgn_bet n hn1 hn5 _ hbt
        have hi' : i' < ts.length := by
          rcases Nat.lt_or_ge i' ts.length with h | h
          · exact h
          · exact absurd (tAt_ge ts i' h) hne
        rw [HBS.out.2 hbt] at hc'
        have HT := toHid (take45 wr b bl cp _ i' tk' d e HSr.out.rd (by rw [ptoks_length]; omega))
        have HTD := toHid (told_take hlt hi' HK'.out (piece_op _ _ k' HCL.out hbw HPv.out) tk' HSr.out.told)
        have HPV2 := toHid (show behO (prevB ts (i' + 1)) = false by rw [prev_succ hi']; exact hbn)
        have HGO := toHid (bec_tl_go n hn1 hn5 d _ hbt)
        have hnb : ((n : Int) == (n : Int)) = true := by simp
        clear hbt hbw hbn hne
        go_wp2_with (first | (go_at_call 42; refine H'.out.mono ?_; rw [HK'.out]; rintro r w' ⟨rfl, rfl⟩) | (go_at_call 45; refine HT.out.mono ?_; rintro r w2 ⟨rfl, hr2, hb2⟩; refine Hid.out ?_))
        have hS2 : St len ts w2 b bl cp (i' + 1) (tk' ++ [(ptoks len ts)[i']]) d e := HSr.out.down hr2 HTD.out hb2
        have HB2 := toHid (HBr.out.trans hb2)
        have HL2 := toHid (HIH.out (n + 1) (i' + 1) d _ e w2 (by omega) (by omega) hd (by omega) hS2 HPV2.out)
        rw [HCAST.out] at HL2
        clear hr2 hb2 hS2 hc'
        refine toHid ?_
        go_wp2_with (first | (go_at_call 29; refine HL2.out.mono ?_; rintro r w3 (⟨rfl, i3, tk3, m3, hS3, hi3, hbe3, hb3, hm3, hgo3⟩ | ⟨rfl, i3, tk3, d3, er, m3, hr3, her, hb3, hm3, hno3⟩) <;> refine Hid.out ?_))
        · have B1 := toHid hS3
          have B2 := toHid (HB2.out.trans hb3)
          have B3 := toHid hbe3
          have B4 := toHid (show To1 len ts [symB (lv n) d] (if n = 3 then [] else [symB (tl n) d]) i i3 (m + 2 + m3) from fun K q => by
            rw [show m + 2 + m3 + q = m + (m3 + q + 1 + 1) by omega, HTo.out K (m3 + q + 1 + 1), List.singleton_append, step_sym len ts (tl n) d i' (m3 + q + 1) K (by omega), HGO.out, List.cons_append, step_tok len ts _ i' (m3 + q) _ (HOK.out.tk hi') rfl]
            exact hgo3 ((if n = 3 then [] else [symB (tl n) d]) ++ K) q)
          clear hS3 hb3 hbe3 hgo3
          refine toHid ?_
          by_cases h3 : n = 3
          · have h3b : ((n : Int) == 3) = true := by simp [h3]
            have B5 := toHid (show Go1 len ts [symB (lv n) d] i i3 (m + 2 + m3) from fun K q => by have := B4.out K q; rw [if_pos h3] at this; exact this)
            clear h3
            go_wp2
            go_ret
            exact Or.inl ⟨rfl, i3, tk3, m + 2 + m3, B1.out, by omega, B3.out, B2.out, by omega, B5.out⟩
          · have h3b : ((n : Int) == 3) = false := beq_eq_false_iff_ne.2 (by omega)
            have B5 := toHid (show To1 len ts [symB (lv n) d] [symB (tl n) d] i i3 (m + 2 + m3) by have := B4.out; rw [if_neg h3] at this; exact this)
            clear h3
            go_wp2
            go_roundg (ts.length - i3)
            case measure => omega
            case rel => exact ⟨i3, m + 2 + m3, tk3, by omega, by omega, by omega, B1, B2, B3, B5⟩
        · have B1 := toHid hr3
          have B2 := toHid (HB2.out.trans hb3)
          have B3 := toHid her
          have B4 := toHid (show No1 len ts [symB (lv n) d] i er (pAt len ts i3) (m + 2 + m3) from fun K q => by
            rw [show m + 2 + m3 + q = m + (m3 + q + 1 + 1) by omega, HTo.out K (m3 + q + 1 + 1), List.singleton_append, step_sym len ts (tl n) d i' (m3 + q + 1) K (by omega), HGO.out, List.cons_append, step_tok len ts _ i' (m3 + q) _ (HOK.out.tk hi') rfl]
            exact hno3 ((if n = 3 then [] else [symB (tl n) d]) ++ K) q)
          clear hr3 hb3 her hno3
          refine toHid ?_
          go_wp2
          go_ret
          exact Or.inr ⟨rfl, i3, tk3, d3, er, m + 2 + m3, B1.out, B3.out, B2.out, by omega, B4.out⟩
      · have hbt' : inB (tAt ts i') (sgn n) = false := by simpa using hbt
        have hne : betwW.getD k' 0 ≠ (n : Int) := fun h => hbt (HBS.out.1 h)
        generalize betwW.getD k' 0 = bv at hc' hne
        have hbb : (bv == (n : Int)) = false := beq_eq_false_iff_ne.2 hne
        have B5 := toHid (show Go1 len ts [symB (lv n) d] i i' (m + 1) from fun K q => by
          rw [show m + 1 + q = m + (q + 1) by omega, HTo.out K (q + 1), List.singleton_append, step_sym len ts (tl n) d i' q K (by omega), bec_tl_stop n hn1 hn5 d _ hbt']
          rfl)
        clear hbt hbt' hne HBS
        go_wp2_with (first | (go_at_call 42; refine H'.out.mono ?_; rw [HK'.out]; rintro r w' ⟨rfl, rfl⟩))
        go_ret
        exact Or.inl ⟨rfl, i', tk', m + 1, HSr.out, by omega, HPv.out, HBr.out, by omega, B5.out⟩
  · have B1 := toHid hr1
    have B2 := toHid hb1
    have B3 := toHid her
    have B4 := toHid (show No1 len ts [symB (lv n) d] i er (pAt len ts i1) (m1 + 1) from fun K q => by
      rw [show m1 + 1 + q = m1 + q + 1 by omega, List.singleton_append, step_sym len ts (lv n) d i (m1 + q) K (by omega), HBEC.out]
      exact hno1 (symB (tl n) d :: K) q)
    clear hr1 hb1 her hno1
    refine toHid ?_
    go_wp2
    go_ret
    exact Or.inr ⟨rfl, i1, tk1, d1, er, m1 + 1, B1.out, B3.out, B2.out, by omega, B4.out⟩

theorem level29 (hok : OkT ts) (F : Nat) : LvAll len ts b bl cp F := by
  induction F with
  | zero => intro n i d tk e w _ _ _ h; omega
  | succ F IH =>
    intro n i d tk e w hn1 hn6 hd hF hS hq
    have hlt := hS.rd.lt
    obtain ⟨k, hcl, hkk, hk20, hk0⟩ := hok.cls hlt
    by_cases ha : aheadW.getD k 0 = (n : Int)
    · have hA : Ahead n (tAt ts i) := (ahead_iff _ k hcl n hn1 hn6).1 ha
      have hi : i < ts.length := by
        rcases hA with ⟨_, h⟩ | ⟨_, h⟩
        · exact at_lt (by decide) h
        · exact at_lt (by decide) h
      refine lv_ahead k n i tk d e w hS.rd hS.env hk20 hkk ha _ ?_
      refine (behindSign43 hok F IH n i d tk e w hd hi hA hF hS hq).mono fun r w' h => ?_
      obtain ⟨z, rfl⟩ := h.bool
      exact ⟨z, rfl, h⟩
    · by_cases h6 : n = 6
      · subst h6
        have hm : tAt ts i ≠ [45] := fun h => ha ((ahead_iff _ k hcl 6 (by omega) (by omega)).2 (Or.inr ⟨rfl, h⟩))
        refine lv_atom k i tk d e w hS.rd hS.env hk20 hkk ha _ ?_
        refine (atom44 hok F IH i d tk e w hd hm (by omega) hS).mono fun r w' h => ?_
        obtain ⟨z, rfl⟩ := h.bool
        exact ⟨z, rfl, h⟩
      · have hb : becB (lv n) d (tAt ts i) = [symB (lv (n + 1)) d, symB (tl n) d] :=
          bec_lv n hn1 (by omega) d _ (fun h3 ht => ha ((ahead_iff _ k hcl n hn1 hn6).2 (Or.inl ⟨h3, ht⟩)))
        exact lv_go hok F IH k n i d hn1 (by omega) tk e w hd hF hS hq hk20 hkk ha hb
end
end Go.Proofs.YtkhpobgknnjbaaaDoor
