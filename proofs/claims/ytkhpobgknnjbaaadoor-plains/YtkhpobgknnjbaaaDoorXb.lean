import Derived.Test.YtkhpobgknnjbaaaDoorXa
namespace Go.Proofs.YtkhpobgknnjbaaaDoor
open Go.RowKit

def restS (R c o : Nat) : List By := (List.replicate (R - c) [[44], symB 82 o]).flatten ++ [[41]]
def stackS (R c o : Nat) : List By := if c = 0 then symB 82 o :: restS R 1 o else restS R c o
def brS (R o : Nat) : List By := [40] :: stackS R 0 o

theorem stackS_zero (R o : Nat) : stackS R 0 o = symB 82 o :: stackS R 1 o := rfl
theorem stackS_step (R c o : Nat) (h1 : 1 ≤ c) (h : c < R) : stackS R c o = [44] :: symB 82 o :: stackS R (c + 1) o := by
  unfold stackS restS
  rw [if_neg (by omega), if_neg (by omega), show R - c = R - (c + 1) + 1 by omega, List.replicate_succ]
  simp
theorem stackS_end (R o : Nat) (h : 1 ≤ R) : stackS R R o = [[41]] := by
  unfold stackS restS
  rw [if_neg (by omega), Nat.sub_self]
  rfl

theorem tkOpen : Tk [40] := ⟨40, _, rfl, by decide, by decide⟩
theorem tkClose : Tk [41] := ⟨41, _, rfl, by decide, by decide⟩
theorem tkComma : Tk [44] := ⟨44, _, rfl, by decide, by decide⟩

/-- The machine comes to other symbols. -/
def To1 (len : Nat) (ts : List (By × Nat)) (S L : List By) (i j m : Nat) : Prop := ∀ K q, runB len (m + q) (S ++ K) (ts.drop i) = runB len q (L ++ K) (ts.drop j)

section
variable {len : Nat} {ts : List (By × Nat)}

theorem To1.go {S A L : List By} {i j k m n : Nat} (h : To1 len ts S (A ++ L) i j m) (g : Go1 len ts A j k n) : To1 len ts S L i k (m + n) := fun K q => by
  rw [Nat.add_assoc, h K (n + q), List.append_assoc, g (L ++ K) q]
theorem To1.no {S A L : List By} {i j m n p : Nat} {er : Int} (h : To1 len ts S (A ++ L) i j m) (g : No1 len ts A j er p n) : No1 len ts S i er p (m + n) := fun K q => by
  rw [Nat.add_assoc, h K (n + q), List.append_assoc, g (L ++ K) q]
theorem To1.tok {S L : List By} {x : By} {i j m : Nat} (h : To1 len ts S (x :: L) i j m) (hx : Tk x) (ht : tAt ts j = x) : To1 len ts S L i (j + 1) (m + 1) := fun K q => by
  rw [Nat.add_assoc, h K (1 + q), Nat.add_comm 1 q, List.cons_append, step_tok len ts x j q (L ++ K) hx ht]
theorem To1.bad {S L : List By} {x : By} {i j m : Nat} (h : To1 len ts S (x :: L) i j m) (hx : Tk x) (ht : tAt ts j ≠ x) : No1 len ts S i 3 (pAt len ts j) (m + 1) := fun K q => by
  rw [Nat.add_assoc, h K (1 + q), Nat.add_comm 1 q, List.cons_append, step_no len ts x j q (L ++ K) hx ht]
theorem To1.go1 {S : List By} {i j m : Nat} (h : To1 len ts S [] i j m) : Go1 len ts S i j m := fun K q => h K q

/-- A token of a meaning is known by its kind. -/
theorem cls_word (x : By) (n : Nat) (hm : (x, n) ∈ meanN) (t : By) (k : Nat) (h : Cls t k) : k = n ↔ t = x := by
  have hx : ∀ y, y ∈ meanN → headD y.1 = false ∧ nameB y.1 = false ∧ y.1 ≠ [] ∧ y.2 ≠ 1 ∧ y.2 ≠ 2 ∧ y.2 ≠ 0 := by decide
  obtain ⟨a1, a2, a3, a4, a5, a6⟩ := hx _ hm
  simp only at a1 a2 a3 a4 a5 a6
  have huniq : ∀ y, y ∈ meanN → ∀ z, z ∈ meanN → (y.2 = z.2 ↔ y.1 = z.1) := by decide
  rcases h with ⟨h, rfl⟩ | ⟨_, h, rfl⟩ | ⟨rfl, rfl⟩ | h
  · exact ⟨fun e => absurd e.symm a4, fun e => by rw [e, a1] at h; cases h⟩
  · exact ⟨fun e => absurd e.symm a5, fun e => by rw [e, a2] at h; cases h⟩
  · exact ⟨fun e => absurd e.symm a6, fun e => absurd e.symm a3⟩
  · exact huniq _ h _ hm

/-- The token at a place, known by its kind. -/
theorem OkT.word (hok : OkT ts) {i : Nat} (h : i < (ptoks len ts).length) (x : By) (n : Nat) (hm : (x, n) ∈ meanN) : ((ptoks len ts)[i]).1 = (n : Int) ↔ tAt ts i = x := by
  obtain ⟨k, hc, hk, _, _⟩ := hok.cls h
  rw [hk]
  have := cls_word x n hm _ k hc
  constructor
  · intro h; exact this.1 (by omega)
  · intro h; have := this.2 h; omega

theorem at_lt {i : Nat} {x : By} (hx : x ≠ []) (h : tAt ts i = x) : i < ts.length := by
  rcases Nat.lt_or_ge i ts.length with h1 | h1
  · exact h1
  · rw [tAt_ge ts i h1] at h; exact absurd h.symm hx
end

section
variable {len : Nat} {ts : List (By × Nat)} {b bl cp : Nat}

set_option maxHeartbeats 2000000 in
theorem br_nope (R i : Nat) (tk : List PT) (d e : Int) (w : World) (h : Rdr w b bl cp (ptoks len ts) i tk d e) (hk : ((ptoks len ts)[i]'h.lt).1 ≠ 9) :
    Calls Tryd.prog 53 #[.pointer (some ⟨b, 0, none⟩), .int .i64 (R : Int)] w fun r w' => r = .returned (.bool false) ∧ Rdr w' b bl cp (ptoks len ts) i tk d 3 ∧ Below b w w' := by
  have H := toHid (is_no w b bl cp _ i tk d e 9 h hk)
  clear hk
  go_enter Tryd.func53, Tryd.ntmps53
  go_wp2_with (first | (go_at_call 30; refine H.out.mono ?_; rintro e w' ⟨rfl, hr, hbb⟩))
  go_ret
  exact ⟨rfl, hr, hbb⟩

set_option maxHeartbeats 2000000 in
theorem br_deep (R i : Nat) (tk : List PT) (e : Int) (w : World) (h : Rdr w b bl cp (ptoks len ts) i tk 6 e) (hk : ((ptoks len ts)[i]'h.lt).1 = 9) :
    Calls Tryd.prog 53 #[.pointer (some ⟨b, 0, none⟩), .int .i64 (R : Int)] w fun r w' => r = .returned (.bool false) ∧ Rdr w' b bl cp (ptoks len ts) i tk 6 4 ∧ Below b w w' := by
  have H := toHid (is_yes w b bl cp _ i tk 6 e 9 h hk)
  have H2 := toHid (enter_no w b bl cp _ i tk e h)
  clear hk
  go_enter Tryd.func53, Tryd.ntmps53
  go_wp2_with (first | (go_at_call 30; refine H.out.mono ?_; rintro e w' ⟨rfl, rfl⟩) | (go_at_call 52; refine H2.out.mono ?_; rintro e w' ⟨rfl, hr, hbb⟩))
  go_ret
  exact ⟨rfl, hr, hbb⟩

set_option maxRecDepth 100000 in
set_option maxHeartbeats 8000000 in
theorem br_go (hok : OkT ts) (F : Nat) (IH : LvAll len ts b bl cp F) (R i d : Nat) (hR : 1 ≤ R) (hR3 : R ≤ 3) (tk : List PT) (e : Int) (w : World) (hd : d < 6) (ht : tAt ts i = [40]) (hF : 10 * (ts.length - i) < F) (hS : St len ts w b bl cp i tk d e) :
    Calls Tryd.prog 53 #[.pointer (some ⟨b, 0, none⟩), .int .i64 (R : Int)] w (LvPost len ts (brS R (d + 1)) 14 b bl cp i d e w) := by
  have hlt := hS.rd.lt
  have hi : i < ts.length := at_lt (by decide) ht
  have hk9 : ((ptoks len ts)[i]).1 = 9 := (hok.word hlt [40] 9 (by decide)).2 ht
  have H := toHid (is_yes w b bl cp _ i tk d e 9 hS.rd hk9)
  have H2 := toHid (enter_yes w b bl cp _ i tk d e hS.rd hd (by rw [ptoks_length]; omega))
  have hmany := hS.rd.many
  have HS := toHid hS
  have HIH := toHid IH
  have HT := toHid ht
  have HOK := toHid hok
  have HK9 := toHid hk9
  have HTOLD := toHid (told_take hlt hi (k := 9) hk9 (piece_other _ _ 9 (Or.inr (Or.inr (Or.inr (by rw [ht]; decide)))) (by decide) (by rw [ht]; decide)) tk hS.told)
  clear IH ht hok hk9
  go_enter Tryd.func53, Tryd.ntmps53
  go_wp2_with (first | (go_at_call 30; refine H.out.mono ?_; rintro e w' ⟨rfl, rfl⟩) | (go_at_call 52; refine H2.out.mono ?_; rintro e w1 ⟨rfl, hr1, hb1⟩))
  have HS1 := toHid (show St len ts w1 b bl cp (i + 1) (tk ++ [(ptoks len ts)[i]]) (d + 1) e from HS.out.down (d' := d + 1) hr1 HTOLD.out hb1)
  have HB1 := toHid hb1
  clear hr1 hb1 H H2
  go_loopw [15] (fun ci wr => ∃ (c i' m : Nat) (tk' : List PT), c ≤ R ∧ ci = .int .i64 (c : Int) ∧ i < i' ∧ m + 19 ≤ 20 * (i' - i) ∧ Hid (St len ts wr b bl cp i' tk' (d + 1) e) ∧ Hid (Below b w wr) ∧ Hid (To1 len ts (brS R (d + 1)) (stackS R c (d + 1)) i i' m) ∧ Hid (c = 0 → behO (prevB ts i') = false)) (fun ci _ => R - (intOf ci).toNat)
  case atStart =>
    refine ⟨0, i + 1, 1, _, by omega, rfl, by omega, by omega, HS1, HB1, ?_, fun _ => ?_⟩
    · intro K q
      rw [Nat.add_comm 1 q]
      exact step_tok len ts [40] i q _ tkOpen HT.out
    · rw [prev_succ hi, HT.out]; decide
  case round =>
    obtain ⟨c, i', m, tk', hc, rfl, hii, hm, HSr, HBr, HTo, HPv⟩ := hrel
    have hle : i' ≤ ts.length := HSr.out.le
    by_cases hlc : c < R
    · by_cases h0 : c = 0
      · subst h0
        have HL := toHid (HIH.out 1 i' (d + 1) tk' e wr (by omega) (by omega) (by omega) (by omega) HSr.out (HPv.out rfl))
        go_wp2_with (first | (go_at_call 29; refine HL.out.mono ?_; rintro r w2 (⟨rfl, i2, tk2, m2, hS2, hi2, hbe, hb2, hm2, hgo⟩ | ⟨rfl, i2, tk2, d2, er, m2, hr2, her, hb2, hm2, hno⟩) <;> refine Hid.out ?_))
        · have A1 := toHid hS2
          have A2 := toHid (HBr.out.trans hb2)
          have A3 := toHid (show To1 len ts (brS R (d + 1)) (stackS R 1 (d + 1)) i i2 (m + m2) from To1.go (A := [symB (lv 1) (d + 1)]) (by rw [List.singleton_append]; exact HTo.out) hgo)
          clear hS2 hbe hb2 hgo
          refine toHid ?_
          go_wp2
          go_roundw
          case rel => exact ⟨1, i2, m + m2, tk2, by omega, by go_num, by omega, by omega, A1, A2, A3, fun h => by cases h⟩
          case measure => simp [intOf]; omega
        · have A1 := toHid hr2
          have A2 := toHid (HBr.out.trans hb2)
          have A3 := toHid (show No1 len ts (brS R (d + 1)) i er (pAt len ts i2) (m + m2) from To1.no (A := [symB (lv 1) (d + 1)]) (L := stackS R 1 (d + 1)) (by rw [List.singleton_append]; exact HTo.out) hno)
          have A4 := toHid her
          clear hr2 hb2 hno her
          refine toHid ?_
          go_wp2
          go_ret
          exact Or.inr ⟨rfl, i2, tk2, d2, er, m + m2, A1.out, A4.out, A2.out, by omega, A3.out⟩
      · have hc1 : 1 ≤ c := by omega
        have hlt2 := HSr.out.rd.lt
        have HST := toHid (stackS_step R c (d + 1) hc1 hlc)
        have hcb : (0 : Int) < (c : Int) := by omega
        by_cases hcm : tAt ts i' = [44]
        · have hi' : i' < ts.length := at_lt (by decide) hcm
          have hk11 : ((ptoks len ts)[i']).1 = 11 := (HOK.out.word hlt2 [44] 11 (by decide)).2 hcm
          have HP := toHid (pass_yes wr b bl cp _ i' tk' _ e 11 HSr.out.rd hk11 (by rw [ptoks_length]; omega))
          have HTD := toHid (told_take hlt2 hi' (k := 11) hk11 (piece_other _ _ 11 (Or.inr (Or.inr (Or.inr (by rw [hcm]; decide)))) (by decide) (by rw [hcm]; decide)) tk' HSr.out.told)
          have HT2 := toHid (show To1 len ts (brS R (d + 1)) (symB 82 (d + 1) :: stackS R (c + 1) (d + 1)) i (i' + 1) (m + 1) from To1.tok (by rw [← HST.out]; exact HTo.out) tkComma hcm)
          have HPV2 := toHid (show behO (prevB ts (i' + 1)) = false by rw [prev_succ hi', hcm]; decide)
          clear hcm hk11
          go_wp2_with (first | (go_at_call 64; refine HP.out.mono ?_; rintro r w1 ⟨rfl, hr1, hb1⟩; refine Hid.out ?_))
          have HS1 := toHid (show St len ts w1 b bl cp (i' + 1) (tk' ++ [(ptoks len ts)[i']]) (d + 1) e from HSr.out.down (d' := d + 1) hr1 HTD.out hb1)
          have HB1 := toHid (HBr.out.trans hb1)
          have HL := toHid (HIH.out 1 (i' + 1) (d + 1) _ e w1 (by omega) (by omega) (by omega) (by omega) HS1.out HPV2.out)
          clear hr1 hb1
          refine toHid ?_
          go_wp2_with (first | (go_at_call 29; refine HL.out.mono ?_; rintro r w2 (⟨rfl, i2, tk2, m2, hS2, hi2, hbe, hb2, hm2, hgo⟩ | ⟨rfl, i2, tk2, d2, er, m2, hr2, her, hb2, hm2, hno⟩) <;> refine Hid.out ?_))
          · have A1 := toHid hS2
            have A2 := toHid (HB1.out.trans hb2)
            have A3 := toHid (show To1 len ts (brS R (d + 1)) (stackS R (c + 1) (d + 1)) i i2 (m + 1 + m2) from To1.go (A := [symB (lv 1) (d + 1)]) (by rw [List.singleton_append]; exact HT2.out) hgo)
            clear hS2 hbe hb2 hgo
            refine toHid ?_
            go_wp2
            go_roundw
            case rel => exact ⟨c + 1, i2, m + 1 + m2, tk2, by omega, by go_num, by omega, by omega, A1, A2, A3, fun h => by omega⟩
            case measure => simp [intOf]; omega
          · have A1 := toHid hr2
            have A2 := toHid (HB1.out.trans hb2)
            have A3 := toHid (show No1 len ts (brS R (d + 1)) i er (pAt len ts i2) (m + 1 + m2) from To1.no (A := [symB (lv 1) (d + 1)]) (L := stackS R (c + 1) (d + 1)) (by rw [List.singleton_append]; exact HT2.out) hno)
            have A4 := toHid her
            clear hr2 hb2 hno her
            refine toHid ?_
            go_wp2
            go_ret
            exact Or.inr ⟨rfl, i2, tk2, d2, er, m + 1 + m2, A1.out, A4.out, A2.out, by omega, A3.out⟩
        · have hk11 : ((ptoks len ts)[i']).1 ≠ 11 := fun h => hcm ((HOK.out.word hlt2 [44] 11 (by decide)).1 h)
          have HP := toHid (pass_no wr b bl cp _ i' tk' _ e 11 HSr.out.rd hk11)
          have A3 := toHid (show No1 len ts (brS R (d + 1)) i 3 (pAt len ts i') (m + 1) from To1.bad (by rw [← HST.out]; exact HTo.out) tkComma hcm)
          clear hcm hk11
          go_wp2_with (first | (go_at_call 64; refine HP.out.mono ?_; rintro r w1 ⟨rfl, hr1, hb1⟩))
          go_ret
          exact Or.inr ⟨rfl, i', tk', _, 3, m + 1, hr1, by decide, HBr.out.trans hb1, by omega, A3.out⟩
    · obtain rfl : c = R := by omega
      obtain ⟨_, c2, _, fz⟩ := HSr.out.rd.cell
      have fz2 := fz 2
      clear fz
      obtain ⟨hSd, hbd⟩ := HSr.out.setD d
      have HSD := toHid hSd
      have HBD := toHid (HBr.out.trans hbd)
      clear hSd hbd
      have hlt2 := HSr.out.rd.lt
      have HTE := toHid (show To1 len ts (brS c (d + 1)) ([41] :: []) i i' m by have := HTo.out; rw [stackS_end c (d + 1) hR] at this; exact this)
      by_cases hcl : tAt ts i' = [41]
      · have hi' : i' < ts.length := at_lt (by decide) hcl
        have hk10 : ((ptoks len ts)[i']).1 = 10 := (HOK.out.word hlt2 [41] 10 (by decide)).2 hcl
        have HP := toHid (pass_yes _ b bl cp _ i' tk' _ e 10 HSD.out.rd hk10 (by rw [ptoks_length]; omega))
        have HTD := toHid (told_take hlt2 hi' (k := 10) hk10 (piece_other _ _ 10 (Or.inr (Or.inr (Or.inr (by rw [hcl]; decide)))) (by decide) (by rw [hcl]; decide)) tk' HSr.out.told)
        have HG := toHid (show Go1 len ts (brS c (d + 1)) i (i' + 1) (m + 1) from To1.go1 (To1.tok HTE.out tkClose hcl))
        have HPV2 := toHid (show behO (prevB ts (i' + 1)) = true by rw [prev_succ hi', hcl]; decide)
        clear hcl hk10
        go_wp2_with (first | (go_at_call 64; refine HP.out.mono ?_; rintro r w1 ⟨rfl, hr1, hb1⟩))
        go_ret
        exact Or.inl ⟨rfl, i' + 1, _, m + 1, HSD.out.down hr1 HTD.out hb1, by omega, HPV2.out, HBD.out.trans hb1, by omega, HG.out⟩
      · have hk10 : ((ptoks len ts)[i']).1 ≠ 10 := fun h => hcl ((HOK.out.word hlt2 [41] 10 (by decide)).1 h)
        have HP := toHid (pass_no _ b bl cp _ i' tk' _ e 10 HSD.out.rd hk10)
        have A3 := toHid (show No1 len ts (brS c (d + 1)) i 3 (pAt len ts i') (m + 1) from To1.bad HTE.out tkClose hcl)
        clear hcl hk10
        go_wp2_with (first | (go_at_call 64; refine HP.out.mono ?_; rintro r w1 ⟨rfl, hr1, hb1⟩))
        go_ret
        exact Or.inr ⟨rfl, i', tk', _, 3, m + 1, hr1, by decide, HBD.out.trans hb1, by omega, A3.out⟩
end
end Go.Proofs.YtkhpobgknnjbaaaDoor
