import Derived.Test.YtkhpobgknnjbaaaDoorX
namespace Go.Proofs.YtkhpobgknnjbaaaDoor
open Go.RowKit

/-- A sign ahead: 'not' at a TEST, a minus at an ATOM. -/
def Ahead (n : Nat) (t : By) : Prop := (n = 3 ∧ t = [110, 111, 116]) ∨ (n = 6 ∧ t = [45])

theorem bec_ahead_go (n : Nat) (t : By) (d : Nat) (h : Ahead n t) (hd : d < 6) : becB (lv n) d t = [t, symB (lv n) (d + 1)] := by
  have hdp : ∀ k, deepB t k d = [t, symB k (d + 1)] := fun k => by unfold deepB; rw [if_neg (by omega)]
  rcases h with ⟨rfl, rfl⟩ | ⟨rfl, rfl⟩
  · exact hdp 84
  · exact hdp 65

theorem bec_ahead_no (n : Nat) (t : By) (h : Ahead n t) : becB (lv n) 6 t = [wDeep] := by
  rcases h with ⟨rfl, rfl⟩ | ⟨rfl, rfl⟩ <;> decide

theorem ahead_kind (n : Nat) (t : By) (k : Nat) (h : Ahead n t) (hc : Cls t k) : (n = 3 ∧ k = 6) ∨ (n = 6 ∧ k = 13) := by
  have key : ∀ x : By, headD x = false → nameB x = false → x ≠ [] → Cls x k → (x, k) ∈ meanN := by
    intro x h1 h2 h3 h4
    rcases h4 with ⟨h, _⟩ | ⟨_, h, _⟩ | ⟨h, _⟩ | h
    · rw [h1] at h; cases h
    · rw [h2] at h; cases h
    · exact absurd h h3
    · exact h
  rcases h with ⟨rfl, rfl⟩ | ⟨rfl, rfl⟩
  · have := key _ (by decide) (by decide) (by decide) hc
    left
    refine ⟨rfl, ?_⟩
    simp [meanN] at this
    exact this
  · have := key _ (by decide) (by decide) (by decide) hc
    right
    refine ⟨rfl, ?_⟩
    simp [meanN] at this
    exact this

section
variable {len : Nat} {ts : List (By × Nat)} {b bl cp : Nat}

theorem behindSign43 (hok : OkT ts) (F : Nat) (IH : LvAll len ts b bl cp F) (n i d : Nat) (tk : List PT) (e : Int) (w : World) (hd : d ≤ 6) (hi : i < ts.length) (hA : Ahead n (tAt ts i)) (hF : 10 * (ts.length - i) + (7 - n) < F + 1)
    (hS : St len ts w b bl cp i tk d e) (hq : behO (prevB ts i) = false) :
    Calls Tryd.prog 43 #[.pointer (some ⟨b, 0, none⟩), .int .i64 (n : Int)] w (LvPost len ts [symB (lv n) d] (2 * n) b bl cp i d e w) := by
  have hn : 1 ≤ n ∧ n ≤ 6 := by rcases hA with ⟨rfl, _⟩ | ⟨rfl, _⟩ <;> omega
  by_cases h6 : d = 6
  · subst h6
    refine (bs_deep n i tk e w hS.rd).mono ?_
    rintro r w' ⟨rfl, hr, hb⟩
    refine Or.inr ⟨rfl, i, tk, 6, 4, 2, hr, by decide, hb, by omega, ?_⟩
    refine No1.sym (by omega) ?_
    rw [bec_ahead_no n _ hA]
    exact No1.deep
  · have hd6 : d < 6 := by omega
    have hlt := hS.rd.lt
    obtain ⟨k, hcl, hkk, hk20, _⟩ := hok.cls hlt
    have hkn := ahead_kind n _ k hA hcl
    have hpt := ptoks_lt hlt hi
    have hzz : (((ptoks len ts)[i]).1 = 13 ∧ (if n = 6 then (14 : Int) else 6) = 14) ∨ (((ptoks len ts)[i]).1 ≠ 13 ∧ (if n = 6 then (14 : Int) else 6) = ((ptoks len ts)[i]).1) := by
      rw [hkk]
      rcases hkn with ⟨rfl, rfl⟩ | ⟨rfl, rfl⟩
      · right; decide
      · left; decide
    refine bs_go n i d tk e _ w hS.rd hd6 (by rw [ptoks_length]; omega) rfl _ _ hzz ?_
    intro w2 hr2 hb2
    have htold : spellAll (tk ++ [((if n = 6 then (14 : Int) else 6), ((ptoks len ts)[i]).2)]) = toldTo ts (i + 1) := by
      rw [spellAll_snoc, told_succ hi, hS.told, hpt]
      rcases hA with ⟨rfl, ht⟩ | ⟨rfl, ht⟩
      · rw [ht]
        rw [piece_other (prevB ts i) [110, 111, 116] 6 (Or.inr (Or.inr (Or.inr (by decide)))) (by decide) (by decide)]
        rfl
      · rw [ht, piece_neg _ hq]
        rfl
    have hprev : behO (prevB ts (i + 1)) = false := by
      rw [prev_succ hi]
      rcases hA with ⟨_, ht⟩ | ⟨_, ht⟩ <;> rw [ht] <;> decide
    have hS2 : St len ts w2 b bl cp (i + 1) _ (d + 1) e := hS.down (d' := d + 1) hr2 htold hb2
    refine (IH n (i + 1) (d + 1) _ e w2 hn.1 hn.2 (by omega) (by omega) hS2 hprev).mono ?_
    rintro r w3 (⟨rfl, i', tk', m, hS3, hi', hbe, hb3, hm, hgo⟩ | ⟨rfl, i', tk', d', er, m, hr3, her, hb3, hm, hno⟩)
    · right
      obtain ⟨hS4, hb4⟩ := hS3.setD d
      refine ⟨rfl, i', tk', hS3.rd, Or.inl ⟨rfl, i', tk', m + 1 + 1, hS4, by omega, hbe, (hb2.trans hb3).trans hb4, by omega, ?_⟩⟩
      refine Go1.sym (by omega) ?_
      rw [bec_ahead_go n _ d hA hd6]
      exact Go1.tok (hok.tk hi) rfl hgo
    · left
      refine ⟨rfl, Or.inr ⟨rfl, i', tk', d', er, m + 1 + 1, hr3, her, hb2.trans hb3, by omega, ?_⟩⟩
      refine No1.sym (by omega) ?_
      rw [bec_ahead_go n _ d hA hd6]
      exact No1.tok (hok.tk hi) rfl hno
end
end Go.Proofs.YtkhpobgknnjbaaaDoor
