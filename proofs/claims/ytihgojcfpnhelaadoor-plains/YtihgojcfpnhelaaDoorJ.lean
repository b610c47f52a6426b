import Derived.Test.YtihgojcfpnhelaaDoorI
import Derived.Test.YtihgojcfpnhelaaDoorF
import Derived.Deep.LoopGhost
import Derived.Laws.AppendOwnNone
namespace Go.Proofs.YtihgojcfpnhelaaDoor
open Go.RowKit
attribute [local go_sem] idx_eq app_eq

def kindsW : List UInt8 := [82, 114, 80, 112, 84, 99, 83, 115, 77, 109, 65]

/-- A symbol that the machine may meet. -/
def GoodS (s : By) : Prop := (∃ c r, s = c :: r ∧ c ≠ 63 ∧ c :: r ≠ wName) ∨ s = wOpen ∨ s = wDeep ∨ ∃ k o, k ∈ kindsW ∧ o ≤ 6 ∧ s = symB k o

/-- A token's text, or none. -/
def GoodT (t : By) : Prop := t = [] ∨ ∃ c r, t = c :: r ∧ c ≠ 63 ∧ c ≠ 78

theorem byte_small (o : Nat) (h : o ≤ 7) : (48 + UInt8.ofNat o).toNat - 48 = o := by
  rcases (show o = 0 ∨ o = 1 ∨ o = 2 ∨ o = 3 ∨ o = 4 ∨ o = 5 ∨ o = 6 ∨ o = 7 by omega) with h | h | h | h | h | h | h | h <;> subst h <;> decide +kernel

theorem becomesB_sym (k : UInt8) (o : Nat) (t : By) (h : o ≤ 7) : becomesB (symB k o) t = some (becB k o t) := by
  show some (becB k ((48 + UInt8.ofNat o).toNat - 48) t) = _
  rw [byte_small o h]

theorem becomesB_tok (c : UInt8) (r t : By) (h : c ≠ 63) : becomesB (c :: r) t = none := by
  unfold becomesB
  split
  · rename_i heq; simp at heq; exact absurd heq.1 h
  · rename_i heq; simp at heq; exact absurd heq.1 h
  · rfl

/-- 'becomes' as the machine has it. -/
theorem becomes18 (s t : By) (w : World) (hs : GoodS s) (hd : s ≠ wDeep) :
    Calls Tryd.prog 18 #[.string ⟨s.toArray⟩, .string ⟨t.toArray⟩] w fun e w' =>
      (∀ L, becomesB s t = some L → BecPost w L e w') ∧ (becomesB s t = none → e = .returned (.tuple #[.slice none 0 0, .bool false]) ∧ w = w') := by
  rcases hs with ⟨c, r, rfl, hc⟩ | rfl | rfl | ⟨k, o, hk, ho, rfl⟩
  · refine (bec_tok c r t w hc.1).mono fun e w' h => ⟨fun L hL => ?_, fun _ => h⟩
    rw [becomesB_tok c r t hc.1] at hL
    cases hL
  · have hb : becomesB wOpen t = some (if t = [40] then [wDeep] else [wNone]) := rfl
    rw [hb]
    by_cases h : t = [40]
    · subst h
      exact (bec_open_y w).mono fun e w' h => ⟨fun L hL => by simp at hL; subst hL; exact h, fun h => by cases h⟩
    · rw [if_neg h]
      exact (bec_open_n t w (beq_eq_false_iff_ne.2 h)).mono fun e w' h => ⟨fun L hL => by simp at hL; subst hL; exact h, fun h => by cases h⟩
  · exact absurd rfl hd
  · rw [becomesB_sym k o t (by omega)]
    have fin : ∀ L, becB k o t = L → Calls Tryd.prog 18 #[.string ⟨(symB k o).toArray⟩, .string ⟨t.toArray⟩] w (BecPost w L) →
        Calls Tryd.prog 18 #[.string ⟨(symB k o).toArray⟩, .string ⟨t.toArray⟩] w fun e w' =>
        (∀ L, some (becB k o t) = some L → BecPost w L e w') ∧ (some (becB k o t) = none → e = .returned (.tuple #[.slice none 0 0, .bool false]) ∧ w = w') := by
      intro L hL hC
      exact hC.mono fun e w' h => ⟨fun L' hL' => by simp at hL'; rw [← hL', hL]; exact h, fun h => by cases h⟩
    simp only [kindsW, List.mem_cons, List.not_mem_nil, or_false] at hk
    rcases hk with rfl | rfl | rfl | rfl | rfl | rfl | rfl | rfl | rfl | rfl | rfl
    · exact fin _ rfl (bec_R o t w ho)
    · exact fin _ rfl (bec_r o t w ho)
    · exact fin _ rfl (bec_P o t w ho)
    · exact fin _ rfl (bec_p o t w ho)
    · by_cases h : t = [110, 111, 116]
      · exact fin _ (by unfold becB; rw [if_neg (by decide), if_neg (by decide), if_neg (by decide), if_neg (by decide), if_pos rfl, if_pos h]) (bec_Tn o t w ho (by simp [h]))
      · exact fin _ (by unfold becB; rw [if_neg (by decide), if_neg (by decide), if_neg (by decide), if_neg (by decide), if_pos rfl, if_neg h]) (bec_T o t w ho (beq_eq_false_iff_ne.2 h))
    · exact fin _ rfl (bec_c o t w ho)
    · exact fin _ rfl (bec_S o t w ho)
    · exact fin _ rfl (bec_s o t w ho)
    · exact fin _ rfl (bec_M o t w ho)
    · exact fin _ rfl (bec_m o t w ho)
    · exact fin _ rfl (bec_A o t w ho)

theorem good_sym (k : UInt8) (o : Nat) (hk : k ∈ kindsW) (ho : o ≤ 6) : GoodS (symB k o) := Or.inr (Or.inr (Or.inr ⟨k, o, hk, ho, rfl⟩))
theorem good_tok (c : UInt8) (r : By) (hc : c ≠ 63 ∧ c :: r ≠ wName) : GoodS (c :: r) := Or.inl ⟨c, r, rfl, hc⟩
theorem good_T {t : By} (ht : GoodT t) (h : t ≠ []) : GoodS t := by
  rcases ht with rfl | ⟨c, r, rfl, hc⟩
  · exact absurd rfl h
  · exact good_tok c r ⟨hc.1, fun h => hc.2 (by unfold wName at h; simp at h; exact h.1)⟩

def AllGood (L : List By) : Prop := ∀ x, x ∈ L → GoodS x

theorem good_deep (t : By) (k : UInt8) (o : Nat) (hk : k ∈ kindsW) (ht : GoodS t) : AllGood (deepB t k o) := by
  unfold deepB
  split
  · intro x hx; simp at hx; subst hx; exact Or.inr (Or.inr (Or.inl rfl))
  · intro x hx
    simp at hx
    rcases hx with rfl | rfl
    · exact ht
    · exact good_sym _ _ hk (by omega)

theorem good_more (t : By) (signs : List By) (p : UInt8) (g : Option UInt8) (o : Nat) (ho : o ≤ 6) (hp : p ∈ kindsW) (hg : ∀ x, g = some x → x ∈ kindsW) (ht : GoodT t) (hne : ∀ x, x ∈ signs → x ≠ []) : AllGood (moreB t signs p g o) := by
  unfold moreB
  split
  · rename_i hin
    have hT : GoodS t := good_T ht (hne t (by simpa [inB] using hin))
    cases g with
    | none =>
      intro x hx
      simp at hx
      rcases hx with rfl | rfl
      · exact hT
      · exact good_sym _ _ hp ho
    | some y =>
      intro x hx
      simp at hx
      rcases hx with rfl | rfl | rfl
      · exact hT
      · exact good_sym _ _ hp ho
      · exact good_sym _ _ (hg y rfl) ho
  · intro x hx; simp at hx

theorem good_two (a b : UInt8) (o : Nat) (ho : o ≤ 6) (ha : a ∈ kindsW) (hb : b ∈ kindsW) : AllGood [symB a o, symB b o] := by
  intro x hx
  simp at hx
  rcases hx with rfl | rfl
  · exact good_sym _ _ ha ho
  · exact good_sym _ _ hb ho

theorem good_one {t : By} (h : GoodS t) : AllGood [t] := by
  intro x hx; simp at hx; subst hx; exact h

theorem good_atom (t : By) (o : Nat) (ho : o ≤ 6) (ht : GoodT t) : AllGood (atomB t o) := by
  unfold atomB
  split
  · exact good_one (good_tok 78 _ ⟨by decide, by decide⟩)
  · rename_i hne
    have hT := good_T ht hne
    split
    · exact good_one hT
    · split
      · exact good_deep t 65 o (by decide) hT
      · split
        · intro x hx
          rw [List.mem_append] at hx
          rcases hx with hx | hx
          · exact good_deep t 82 o (by decide) hT x hx
          · exact good_one (good_tok 41 _ ⟨by decide, by decide⟩) x hx
        · split
          · intro x hx
            simp at hx
            rcases hx with rfl | rfl
            · exact good_tok 105 _ ⟨by decide, by decide⟩
            · exact Or.inr (Or.inl rfl)
          · split
            · rename_i h1 h2
              have ho5 : o + 1 ≤ 6 := by
                simp [h2] at h1
                omega
              intro x hx
              simp only [List.mem_cons, List.not_mem_nil, or_false] at hx
              rcases hx with rfl | rfl | rfl | rfl | rfl | rfl | rfl | rfl
              · exact good_tok 105 _ ⟨by decide, by decide⟩
              · exact good_tok 40 _ ⟨by decide, by decide⟩
              · exact good_sym _ _ (by decide) ho5
              · exact good_tok 44 _ ⟨by decide, by decide⟩
              · exact good_sym _ _ (by decide) ho5
              · exact good_tok 44 _ ⟨by decide, by decide⟩
              · exact good_sym _ _ (by decide) ho5
              · exact good_tok 41 _ ⟨by decide, by decide⟩
            · exact good_one (good_tok 78 _ ⟨by decide, by decide⟩)

theorem good_becomes (s t : By) (hs : GoodS s) (hd : s ≠ wDeep) (ht : GoodT t) (L : List By) (h : becomesB s t = some L) : AllGood L := by
  rcases hs with ⟨c, r, rfl, hc⟩ | rfl | rfl | ⟨k, o, hk, ho, rfl⟩
  · rw [becomesB_tok c r t hc.1] at h; cases h
  · have hb : becomesB wOpen t = some (if t = [40] then [wDeep] else [wNone]) := rfl
    rw [hb] at h
    simp at h
    subst h
    split
    · exact good_one (Or.inr (Or.inr (Or.inl rfl)))
    · exact good_one (good_tok 78 _ ⟨by decide, by decide⟩)
  · exact absurd rfl hd
  · rw [becomesB_sym k o t (by omega)] at h
    simp at h
    subst h
    simp only [kindsW, List.mem_cons, List.not_mem_nil, or_false] at hk
    have sg : ∀ x y : UInt8, x ∈ kindsW → (some x : Option UInt8) = some y → y ∈ kindsW := fun x y hx he => by simp at he; exact he ▸ hx
    rcases hk with rfl | rfl | rfl | rfl | rfl | rfl | rfl | rfl | rfl | rfl | rfl
    · exact good_two 80 114 o ho (by decide) (by decide)
    · exact good_more t _ 80 (some 114) o ho (by decide) (fun y => sg 114 y (by decide)) ht (by decide)
    · exact good_two 84 112 o ho (by decide) (by decide)
    · exact good_more t _ 84 (some 112) o ho (by decide) (fun y => sg 112 y (by decide)) ht (by decide)
    · unfold becB
      rw [if_neg (by decide), if_neg (by decide), if_neg (by decide), if_neg (by decide), if_pos rfl]
      split
      · rename_i hn
        exact good_deep t 84 o (by decide) (by rw [hn]; exact good_tok 110 _ ⟨by decide, by decide⟩)
      · exact good_two 83 99 o ho (by decide) (by decide)
    · exact good_more t _ 83 none o ho (by decide) (fun y he => by cases he) ht (by decide)
    · exact good_two 77 115 o ho (by decide) (by decide)
    · exact good_more t _ 77 (some 115) o ho (by decide) (fun y => sg 115 y (by decide)) ht (by decide)
    · exact good_two 65 109 o ho (by decide) (by decide)
    · exact good_more t _ 65 (some 109) o ho (by decide) (fun y => sg 109 y (by decide)) ht (by decide)
    · exact good_atom t o ho ht

theorem becomesB_len (s t : By) (L : List By) (h : becomesB s t = some L) : L.length ≤ 8 := by
  have hdp : ∀ t k o, (deepB t k o).length ≤ 2 := by intro t k o; unfold deepB; split <;> simp
  have hmr : ∀ t sg p g o, (moreB t sg p g o).length ≤ 3 := by
    intro t sg p g o
    unfold moreB
    split
    · cases g <;> simp
    · simp
  have hat : ∀ t o, (atomB t o).length ≤ 8 := by
    intro t o
    have := hdp t 65 o
    have := hdp t 82 o
    unfold atomB
    repeat' split
    all_goals simp
    all_goals omega
  have hb : ∀ k o t, (becB k o t).length ≤ 8 := by
    intro k o t
    unfold becB
    repeat' split
    all_goals first | (simp; done) | (have := hdp t 84 o; omega) | (refine Nat.le_trans (hmr _ _ _ _ _) (by omega)) | exact hat t o
  unfold becomesB at h
  split at h
  · simp at h; subst h; exact hb _ _ _
  · simp at h; subst h; split <;> simp
  · cases h
end Go.Proofs.YtihgojcfpnhelaaDoor
