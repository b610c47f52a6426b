import Derived.Test.YtkhpobgknnjbaaaDoorXb
namespace Go.Proofs.YtkhpobgknnjbaaaDoor
open Go.RowKit

section
variable {len : Nat} {ts : List (By × Nat)} {b bl cp : Nat}

set_option maxHeartbeats 2000000 in
/-- A plain ATOM is taken. -/
theorem at_take (k i : Nat) (tk : List PT) (d e : Int) (w : World) (h : Rdr w b bl cp (ptoks len ts) i tk d e) (hi : i + 1 < (ptoks len ts).length) (hk : ((ptoks len ts)[i]'h.lt).1 = (k : Int)) (hk4 : k = 1 ∨ k = 2 ∨ k = 7 ∨ k = 8) :
    Calls Tryd.prog 44 #[.pointer (some ⟨b, 0, none⟩)] w fun r w' => r = .returned (.bool true) ∧ Rdr w' b bl cp (ptoks len ts) (i + 1) (tk ++ [(ptoks len ts)[i]'h.lt]) d e ∧ Below b w w' := by
  have H := toHid (kind42 w b bl cp _ i tk d e h)
  have H2 := toHid (take45 w b bl cp _ i tk d e h hi)
  have HK := toHid hk
  clear hk
  rcases hk4 with rfl | rfl | rfl | rfl
  all_goals
    go_enter Tryd.func44, Tryd.ntmps44
    go_wp2_with (first | (go_at_call 42; refine H.out.mono ?_; rw [HK.out]; rintro e w' ⟨rfl, rfl⟩) | (go_at_call 45; refine H2.out.mono ?_; rintro e w' ⟨rfl, hr, hbb⟩))
    go_ret
    exact ⟨rfl, hr, hbb⟩

set_option maxHeartbeats 2000000 in
/-- 'if': brackets with three. -/
theorem at_if (i : Nat) (tk : List PT) (d e : Int) (w : World) (h : Rdr w b bl cp (ptoks len ts) i tk d e) (hi : i + 1 < (ptoks len ts).length) (hk : ((ptoks len ts)[i]'h.lt).1 = 3) (P : Ending → World → Prop)
    (hP : ∀ w1, Rdr w1 b bl cp (ptoks len ts) (i + 1) (tk ++ [(ptoks len ts)[i]'h.lt]) d e → Below b w w1 → Calls Tryd.prog 53 #[.pointer (some ⟨b, 0, none⟩), .int .i64 3] w1 fun r w2 => ∃ z, r = .returned (.bool z) ∧ P (.returned (.bool z)) w2) :
    Calls Tryd.prog 44 #[.pointer (some ⟨b, 0, none⟩)] w P := by
  have H := toHid (kind42 w b bl cp _ i tk d e h)
  have H2 := toHid (take45 w b bl cp _ i tk d e h hi)
  have HK := toHid hk
  have HP := toHid hP
  clear hk hP
  go_enter Tryd.func44, Tryd.ntmps44
  go_wp2_with (first | (go_at_call 42; refine H.out.mono ?_; rw [HK.out]; rintro e w' ⟨rfl, rfl⟩) | (go_at_call 45; refine H2.out.mono ?_; rintro e w1 ⟨rfl, hr, hbb⟩) | (go_at_call 53; refine (HP.out _ hr hbb).mono ?_; rintro e w2 ⟨z, rfl, hz⟩; have HZ := toHid hz; clear hz; refine Hid.out ?_))
  refine toHid ?_
  go_wp2
  exact HZ.out

set_option maxHeartbeats 2000000 in
/-- Else: brackets with one. -/
theorem at_br (k i : Nat) (tk : List PT) (d e : Int) (w : World) (h : Rdr w b bl cp (ptoks len ts) i tk d e) (hk : ((ptoks len ts)[i]'h.lt).1 = (k : Int)) (hk5 : k ≠ 1 ∧ k ≠ 2 ∧ k ≠ 7 ∧ k ≠ 8 ∧ k ≠ 3) (P : Ending → World → Prop)
    (hP : Calls Tryd.prog 53 #[.pointer (some ⟨b, 0, none⟩), .int .i64 1] w fun r w2 => ∃ z, r = .returned (.bool z) ∧ P (.returned (.bool z)) w2) :
    Calls Tryd.prog 44 #[.pointer (some ⟨b, 0, none⟩)] w P := by
  have H := toHid (kind42 w b bl cp _ i tk d e h)
  have HK := toHid hk
  have HP := toHid hP
  obtain ⟨n1, n2, n7, n8, n3⟩ := hk5
  have b1 : ((k : Int) == 1) = false := beq_eq_false_iff_ne.2 (by omega)
  have b2 : ((k : Int) == 2) = false := beq_eq_false_iff_ne.2 (by omega)
  have b7 : ((k : Int) == 7) = false := beq_eq_false_iff_ne.2 (by omega)
  have b8 : ((k : Int) == 8) = false := beq_eq_false_iff_ne.2 (by omega)
  have b3 : ((k : Int) == 3) = false := beq_eq_false_iff_ne.2 (by omega)
  clear hk hP n1 n2 n7 n8 n3
  go_enter Tryd.func44, Tryd.ntmps44
  go_wp2_with (first | (go_at_call 42; refine H.out.mono ?_; rw [HK.out]; rintro e w' ⟨rfl, rfl⟩) | (go_at_call 53; refine HP.out.mono ?_; rintro e w2 ⟨z, rfl, hz⟩; have HZ := toHid hz; clear hz; refine Hid.out ?_))
  refine toHid ?_
  go_wp2
  exact HZ.out

theorem atomB_plain (t : By) (k d : Nat) (h : Cls t k) (hk : k = 1 ∨ k = 2 ∨ k = 7 ∨ k = 8) : atomB t d = [t] := by
  have hne : t ≠ [] := by
    rcases h with ⟨h, _⟩ | ⟨_, h, _⟩ | ⟨_, h⟩ | h
    · rintro rfl; cases h
    · rintro rfl; cases h
    · omega
    · exact (show ∀ x, x ∈ meanN → x.1 ≠ [] by decide) _ h
  have hc : (headD t || t = [116, 114, 117, 101] || t = [102, 97, 108, 115, 101] || nameB t) = true := by
    rcases h with ⟨h, _⟩ | ⟨_, h, _⟩ | ⟨_, h⟩ | h
    · simp [h]
    · simp [h]
    · omega
    · simp only [meanN, List.mem_cons, List.not_mem_nil, or_false, Prod.mk.injEq] at h
      rcases h with ⟨rfl, rfl⟩ | ⟨rfl, rfl⟩ | ⟨rfl, rfl⟩ | ⟨rfl, rfl⟩ | ⟨rfl, rfl⟩ | ⟨rfl, rfl⟩ | ⟨rfl, rfl⟩ | ⟨rfl, rfl⟩ | ⟨rfl, rfl⟩ | ⟨rfl, rfl⟩ | ⟨rfl, rfl⟩ | ⟨rfl, rfl⟩ | ⟨rfl, rfl⟩ | ⟨rfl, rfl⟩ | ⟨rfl, rfl⟩ | ⟨rfl, rfl⟩ <;> first | decide | omega
  unfold atomB
  rw [if_neg hne, if_pos hc]

theorem atomB_none (t : By) (k d : Nat) (h : Cls t k) (hk : k ≠ 1 ∧ k ≠ 2 ∧ k ≠ 7 ∧ k ≠ 8 ∧ k ≠ 3) (h9 : k ≠ 9) (h13 : k ≠ 13) : atomB t d = [wNone] := by
  rcases h with ⟨_, h⟩ | ⟨_, _, h⟩ | ⟨rfl, _⟩ | h
  · omega
  · omega
  · rfl
  · simp only [meanN, List.mem_cons, List.not_mem_nil, or_false, Prod.mk.injEq] at h
    rcases h with ⟨rfl, rfl⟩ | ⟨rfl, rfl⟩ | ⟨rfl, rfl⟩ | ⟨rfl, rfl⟩ | ⟨rfl, rfl⟩ | ⟨rfl, rfl⟩ | ⟨rfl, rfl⟩ | ⟨rfl, rfl⟩ | ⟨rfl, rfl⟩ | ⟨rfl, rfl⟩ | ⟨rfl, rfl⟩ | ⟨rfl, rfl⟩ | ⟨rfl, rfl⟩ | ⟨rfl, rfl⟩ | ⟨rfl, rfl⟩ | ⟨rfl, rfl⟩ <;> first | rfl | omega

theorem atomB_open (d : Nat) (hd : d < 6) : atomB [40] d = brS 1 (d + 1) := by
  show deepB [40] 82 d ++ [[41]] = _
  unfold deepB
  rw [if_neg (by omega)]
  rfl
theorem atomB_open6 : atomB [40] 6 = [wDeep, [41]] := by decide
theorem atomB_if (d : Nat) (hd : d < 6) : atomB [105, 102] d = [105, 102] :: brS 3 (d + 1) := by
  unfold atomB
  rw [if_neg (by decide), if_neg (by decide), if_neg (by decide), if_neg (by decide), if_neg (by simp; omega), if_pos rfl]
  rfl
theorem atomB_if6 : atomB [105, 102] 6 = [[105, 102], wOpen] := by decide

theorem bet_plain (t : By) (k : Nat) (h : Cls t k) (hk : k = 1 ∨ k = 2 ∨ k = 7 ∨ k = 8) : inB t betW = false ∧ behB t = true := by
  rcases h with ⟨hD, _⟩ | ⟨_, hN, _⟩ | ⟨_, h⟩ | h
  · exact ⟨inB_false t betW (fun x hx => headD_not t x hD (by revert x; decide)), by simp [behB, hD]⟩
  · exact ⟨inB_false t betW (fun x hx => name_not t x hN (by revert x; decide)), by simp [behB, hN]⟩
  · omega
  · simp only [meanN, List.mem_cons, List.not_mem_nil, or_false, Prod.mk.injEq] at h
    rcases h with ⟨rfl, rfl⟩ | ⟨rfl, rfl⟩ | ⟨rfl, rfl⟩ | ⟨rfl, rfl⟩ | ⟨rfl, rfl⟩ | ⟨rfl, rfl⟩ | ⟨rfl, rfl⟩ | ⟨rfl, rfl⟩ | ⟨rfl, rfl⟩ | ⟨rfl, rfl⟩ | ⟨rfl, rfl⟩ | ⟨rfl, rfl⟩ | ⟨rfl, rfl⟩ | ⟨rfl, rfl⟩ | ⟨rfl, rfl⟩ | ⟨rfl, rfl⟩ <;> first | decide | omega

theorem LvPost.bool {S : List By} {c1 i d : Nat} {e : Int} {w : World} {r : Ending} {w' : World} (h : LvPost len ts S c1 b bl cp i d e w r w') : ∃ z, r = .returned (.bool z) := by
  rcases h with ⟨h, _⟩ | ⟨h, _⟩
  · exact ⟨_, h⟩
  · exact ⟨_, h⟩

theorem atom44 (hok : OkT ts) (F : Nat) (IH : LvAll len ts b bl cp F) (i d : Nat) (tk : List PT) (e : Int) (w : World) (hd : d ≤ 6) (hm : tAt ts i ≠ [45]) (hF : 10 * (ts.length - i) < F) (hS : St len ts w b bl cp i tk d e) :
    Calls Tryd.prog 44 #[.pointer (some ⟨b, 0, none⟩)] w (LvPost len ts [symB 65 d] 12 b bl cp i d e w) := by
  have hlt := hS.rd.lt
  have hbec : becB 65 d (tAt ts i) = atomB (tAt ts i) d := rfl
  obtain ⟨k, hcl, hkk, hk20, hk0⟩ := hok.cls hlt
  have hle := hS.le
  by_cases h4 : k = 1 ∨ k = 2 ∨ k = 7 ∨ k = 8
  · have hi : i < ts.length := by
      rcases Nat.lt_or_ge i ts.length with h | h
      · exact h
      · have := hk0.2 (by omega); omega
    obtain ⟨hnb, hbe⟩ := bet_plain _ k hcl h4
    refine (at_take k i tk d e w hS.rd (by rw [ptoks_length]; omega) hkk h4).mono ?_
    rintro r w' ⟨rfl, hr, hb⟩
    have htold := told_take hlt hi hkk (piece_other _ _ k hcl (by omega) hnb) tk hS.told
    refine Or.inl ⟨rfl, i + 1, _, 2, hS.down hr htold hb, by omega, by rw [prev_succ hi]; exact hbe, hb, by omega, ?_⟩
    refine Go1.sym (by omega) ?_
    rw [hbec, atomB_plain _ k d hcl h4]
    exact Go1.tok (hok.tk hi) rfl (Go1.nil _)
  · by_cases h3 : k = 3
    · subst h3
      have ht : tAt ts i = [105, 102] := (cls_word [105, 102] 3 (by decide) _ 3 hcl).1 rfl
      have hi : i < ts.length := at_lt (by decide) ht
      have htk : Tk [105, 102] := ⟨105, _, rfl, by decide, by decide⟩
      refine at_if i tk d e w hS.rd (by rw [ptoks_length]; omega) hkk _ ?_
      intro w1 hr1 hb1
      have htold := told_take hlt hi hkk (piece_other _ _ 3 hcl (by decide) (by rw [ht]; decide)) tk hS.told
      have hS1 : St len ts w1 b bl cp (i + 1) _ d e := hS.down hr1 htold hb1
      have hlt1 := hr1.lt
      by_cases hop : tAt ts (i + 1) = [40]
      · have hk9 := (hok.word hlt1 [40] 9 (by decide)).2 hop
        have hi1 : i + 1 < ts.length := at_lt (by decide) hop
        by_cases h6 : d = 6
        · subst h6
          refine (br_deep 3 (i + 1) _ e w1 hr1 hk9).mono ?_
          rintro r w2 ⟨rfl, hr2, hb2⟩
          refine ⟨_, rfl, Or.inr ⟨rfl, i + 1, _, 6, 4, 4, hr2, by decide, hb1.trans hb2, by omega, ?_⟩⟩
          refine No1.sym (by omega) ?_
          rw [hbec, ht, atomB_if6]
          exact No1.tok htk ht (No1.opens hop)
        · refine (br_go hok F IH 3 (i + 1) d (by omega) (by omega) _ e w1 (by omega) hop (by omega) hS1).mono ?_
          rintro r w2 (⟨rfl, i', tk', m, hS3, hi', hbe, hb3, hm3, hgo⟩ | ⟨rfl, i', tk', d', er, m, hr3, her, hb3, hm3, hno⟩)
          · refine ⟨_, rfl, Or.inl ⟨rfl, i', tk', m + 1 + 1, hS3, by omega, hbe, hb1.trans hb3, by omega, ?_⟩⟩
            refine Go1.sym (by omega) ?_
            rw [hbec, ht, atomB_if d (by omega), List.append_nil]
            exact Go1.tok htk ht hgo
          · refine ⟨_, rfl, Or.inr ⟨rfl, i', tk', d', er, m + 1 + 1, hr3, her, hb1.trans hb3, by omega, ?_⟩⟩
            refine No1.sym (by omega) ?_
            rw [hbec, ht, atomB_if d (by omega), List.append_nil]
            exact No1.tok htk ht hno
      · have hk9 : ((ptoks len ts)[i + 1]).1 ≠ 9 := fun h => hop ((hok.word hlt1 [40] 9 (by decide)).1 h)
        refine (br_nope 3 (i + 1) _ d e w1 hr1 hk9).mono ?_
        rintro r w2 ⟨rfl, hr2, hb2⟩
        by_cases h6 : d = 6
        · subst h6
          refine ⟨_, rfl, Or.inr ⟨rfl, i + 1, _, _, 3, 4, hr2, by decide, hb1.trans hb2, by omega, ?_⟩⟩
          refine No1.sym (by omega) ?_
          rw [hbec, ht, atomB_if6]
          exact No1.tok htk ht (No1.opens_no hop (hok.notNone _))
        · refine ⟨_, rfl, Or.inr ⟨rfl, i + 1, _, _, 3, 3, hr2, by decide, hb1.trans hb2, by omega, ?_⟩⟩
          refine No1.sym (by omega) ?_
          rw [hbec, ht, atomB_if d (by omega), List.append_nil]
          exact No1.tok htk ht (No1.bad tkOpen hop)
    · have h5 : k ≠ 1 ∧ k ≠ 2 ∧ k ≠ 7 ∧ k ≠ 8 ∧ k ≠ 3 := by omega
      refine at_br k i tk d e w hS.rd hkk h5 _ ?_
      by_cases h9 : k = 9
      · subst h9
        have ht : tAt ts i = [40] := (cls_word [40] 9 (by decide) _ 9 hcl).1 rfl
        have hi : i < ts.length := at_lt (by decide) ht
        by_cases h6 : d = 6
        · subst h6
          refine (br_deep 1 i tk e w hS.rd hkk).mono ?_
          rintro r w2 ⟨rfl, hr2, hb2⟩
          refine ⟨_, rfl, Or.inr ⟨rfl, i, _, 6, 4, 2, hr2, by decide, hb2, by omega, ?_⟩⟩
          refine No1.sym (by omega) ?_
          rw [hbec, ht, atomB_open6]
          exact No1.deep
        · refine (br_go hok F IH 1 i d (by omega) (by omega) tk e w (by omega) ht hF hS).mono ?_
          rintro r w2 (⟨rfl, i', tk', m, hS3, hi', hbe, hb3, hm3, hgo⟩ | ⟨rfl, i', tk', d', er, m, hr3, her, hb3, hm3, hno⟩)
          · refine ⟨_, rfl, Or.inl ⟨rfl, i', tk', m + 1, hS3, by omega, hbe, hb3, by omega, ?_⟩⟩
            refine Go1.sym (by omega) ?_
            rw [hbec, ht, atomB_open d (by omega), List.append_nil]
            exact hgo
          · refine ⟨_, rfl, Or.inr ⟨rfl, i', tk', d', er, m + 1, hr3, her, hb3, by omega, ?_⟩⟩
            refine No1.sym (by omega) ?_
            rw [hbec, ht, atomB_open d (by omega), List.append_nil]
            exact hno
      · have h13 : k ≠ 13 := by
          rintro rfl
          exact hm ((cls_word [45] 13 (by decide) _ 13 hcl).1 rfl)
        refine (br_nope 1 i tk d e w hS.rd (by rw [hkk]; omega)).mono ?_
        rintro r w2 ⟨rfl, hr2, hb2⟩
        refine ⟨_, rfl, Or.inr ⟨rfl, i, _, _, 3, 2, hr2, by decide, hb2, by omega, ?_⟩⟩
        refine No1.sym (by omega) ?_
        rw [hbec, atomB_none _ k d hcl h5 h9 h13]
        exact No1.bad tkNone (hok.notNone _)
end
end Go.Proofs.YtkhpobgknnjbaaaDoor
