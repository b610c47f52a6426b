import Derived.Test.YtihgojcfpnhelaaGreatDoorI
import Derived.Test.YtihgojcfpnhelaaGreatDoorF
import Derived.Deep.LoopGhost
import Derived.Laws.AppendOwnNone
set_option linter.unusedVariables false
set_option linter.unusedSimpArgs false
namespace Go.Proofs.YtihgojcfpnhelaaGreatDoor
open Go.RowKit
attribute [local go_sem] idx_eq app_eq

def kindsW : List UInt8 := [82, 114, 80, 112, 84, 99, 83, 115, 77, 109, 65]

/-- A symbol that the machine may meet. -/
def GoodS (s : By) : Prop := (∃ c r, s = c :: r ∧ c ≠ 63 ∧ c :: r ≠ wName) ∨ s = wOpen ∨ s = wDeep ∨ ∃ k o, k ∈ kindsW ∧ o ≤ 6 ∧ s = symB k o

/-- A token's text, or none. -/
def GoodT (t : By) : Prop := t = [] ∨ ∃ c r, t = c :: r ∧ c ≠ 63 ∧ c ≠ 78

theorem byte_small (o : Nat) (h : o ≤ 7) : (48 + UInt8.ofNat o).toNat - 48 = o := by
  rcases (show o = 0 ∨ o = 1 ∨ o = 2 ∨ o = 3 ∨ o = 4 ∨ o = 5 ∨ o = 6 ∨ o = 7 by omega) with h | h | h | h | h | h | h | h <;> subst h <;> decide +kernel

theorem becomesB_sym (k : UInt8) (o : Nat) (t : By) (h : o ≤ 7) : becomesB (symB k o) t = some (becB k o t) := by
  show some (becB k ((48 + UInt8.ofNat o).toNat - 48) t) = _
  rw [byte_small o h]

theorem becomesB_tok (c : UInt8) (r t : By) (h : c ≠ 63) : becomesB (c :: r) t = none := by
  unfold becomesB
  split
  · rename_i heq; simp at heq; exact absurd heq.1 h
  · rename_i heq; simp at heq; exact absurd heq.1 h
  · rfl

/-- 'becomes' as the machine has it. -/
theorem becomes18 (s t : By) (w : World) (hs : GoodS s) (hd : s ≠ wDeep) :
    Calls Tryz.prog 75 #[.string ⟨s.toArray⟩, .string ⟨t.toArray⟩] w fun e w' =>
      (∀ L, becomesB s t = some L → BecPost w L e w') ∧ (becomesB s t = none → e = .returned (.tuple #[.slice none 0 0, .bool false]) ∧ w = w') := by
  rcases hs with ⟨c, r, rfl, hc⟩ | rfl | rfl | ⟨k, o, hk, ho, rfl⟩
  · refine (bec_tok c r t w hc.1).mono fun e w' h => ⟨fun L hL => ?_, fun _ => h⟩
    rw [becomesB_tok c r t hc.1] at hL
    cases hL
  · have hb : becomesB wOpen t = some (if t = [40] then [wDeep] else [wNone]) := rfl
    rw [hb]
    by_cases h : t = [40]
    · subst h
      exact (bec_open_y w).mono fun e w' h => ⟨fun L hL => by simp at hL; subst hL; exact h, fun h => by cases h⟩
    · rw [if_neg h]
      exact (bec_open_n t w (beq_eq_false_iff_ne.2 h)).mono fun e w' h => ⟨fun L hL => by simp at hL; subst hL; exact h, fun h => by cases h⟩
  · exact absurd rfl hd
  · rw [becomesB_sym k o t (by omega)]
    have fin : ∀ L, becB k o t = L → Calls Tryz.prog 75 #[.string ⟨(symB k o).toArray⟩, .string ⟨t.toArray⟩] w (BecPost w L) →
        Calls Tryz.prog 75 #[.string ⟨(symB k o).toArray⟩, .string ⟨t.toArray⟩] w fun e w' =>
        (∀ L, some (becB k o t) = some L → BecPost w L e w') ∧ (some (becB k o t) = none → e = .returned (.tuple #[.slice none 0 0, .bool false]) ∧ w = w') := by
      intro L hL hC
      exact hC.mono fun e w' h => ⟨fun L' hL' => by simp at hL'; rw [← hL', hL]; exact h, fun h => by cases h⟩
    simp only [kindsW, List.mem_cons, List.not_mem_nil, or_false] at hk
    rcases hk with rfl | rfl | rfl | rfl | rfl | rfl | rfl | rfl | rfl | rfl | rfl
    · exact fin _ rfl (bec_R o t w ho)
    · exact fin _ rfl (bec_r o t w ho)
    · exact fin _ rfl (bec_P o t w ho)
    · exact fin _ rfl (bec_p o t w ho)
    · by_cases h : t = [110, 111, 116]
      · exact fin _ (by unfold becB; rw [if_neg (by decide), if_neg (by decide), if_neg (by decide), if_neg (by decide), if_pos rfl, if_pos h]) (bec_Tn o t w ho (by simp [h]))
      · exact fin _ (by unfold becB; rw [if_neg (by decide), if_neg (by decide), if_neg (by decide), if_neg (by decide), if_pos rfl, if_neg h]) (bec_T o t w ho (beq_eq_false_iff_ne.2 h))
    · exact fin _ rfl (bec_c o t w ho)
    · exact fin _ rfl (bec_S o t w ho)
    · exact fin _ rfl (bec_s o t w ho)
    · exact fin _ rfl (bec_M o t w ho)
    · exact fin _ rfl (bec_m o t w ho)
    · exact fin _ rfl (bec_A o t w ho)

theorem good_sym (k : UInt8) (o : Nat) (hk : k ∈ kindsW) (ho : o ≤ 6) : GoodS (symB k o) := Or.inr (Or.inr (Or.inr ⟨k, o, hk, ho, rfl⟩))
theorem good_tok (c : UInt8) (r : By) (hc : c ≠ 63 ∧ c :: r ≠ wName) : GoodS (c :: r) := Or.inl ⟨c, r, rfl, hc⟩
theorem good_T {t : By} (ht : GoodT t) (h : t ≠ []) : GoodS t := by
  rcases ht with rfl | ⟨c, r, rfl, hc⟩
  · exact absurd rfl h
  · exact good_tok c r ⟨hc.1, fun h => hc.2 (by unfold wName at h; simp at h; exact h.1)⟩

def AllGood (L : List By) : Prop := ∀ x, x ∈ L → GoodS x

theorem good_deep (t : By) (k : UInt8) (o : Nat) (hk : k ∈ kindsW) (ht : GoodS t) : AllGood (deepB t k o) := by
  unfold deepB
  split
  · intro x hx; simp at hx; subst hx; exact Or.inr (Or.inr (Or.inl rfl))
  · intro x hx
    simp at hx
    rcases hx with rfl | rfl
    · exact ht
    · exact good_sym _ _ hk (by omega)

theorem good_more (t : By) (signs : List By) (p : UInt8) (g : Option UInt8) (o : Nat) (ho : o ≤ 6) (hp : p ∈ kindsW) (hg : ∀ x, g = some x → x ∈ kindsW) (ht : GoodT t) (hne : ∀ x, x ∈ signs → x ≠ []) : AllGood (moreB t signs p g o) := by
  unfold moreB
  split
  · rename_i hin
    have hT : GoodS t := good_T ht (hne t (by simpa [inB] using hin))
    cases g with
    | none =>
      intro x hx
      simp at hx
      rcases hx with rfl | rfl
      · exact hT
      · exact good_sym _ _ hp ho
    | some y =>
      intro x hx
      simp at hx
      rcases hx with rfl | rfl | rfl
      · exact hT
      · exact good_sym _ _ hp ho
      · exact good_sym _ _ (hg y rfl) ho
  · intro x hx; simp at hx

theorem good_two (a b : UInt8) (o : Nat) (ho : o ≤ 6) (ha : a ∈ kindsW) (hb : b ∈ kindsW) : AllGood [symB a o, symB b o] := by
  intro x hx
  simp at hx
  rcases hx with rfl | rfl
  · exact good_sym _ _ ha ho
  · exact good_sym _ _ hb ho

theorem good_one {t : By} (h : GoodS t) : AllGood [t] := by
  intro x hx; simp at hx; subst hx; exact h

theorem good_atom (t : By) (o : Nat) (ho : o ≤ 6) (ht : GoodT t) : AllGood (atomB t o) := by
  unfold atomB
  split
  · exact good_one (good_tok 78 _ ⟨by decide, by decide⟩)
  · rename_i hne
    have hT := good_T ht hne
    split
    · exact good_one hT
    · split
      · exact good_deep t 65 o (by decide) hT
      · split
        · intro x hx
          rw [List.mem_append] at hx
          rcases hx with hx | hx
          · exact good_deep t 82 o (by decide) hT x hx
          · exact good_one (good_tok 41 _ ⟨by decide, by decide⟩) x hx
        · split
          · intro x hx
            simp at hx
            rcases hx with rfl | rfl
            · exact good_tok 105 _ ⟨by decide, by decide⟩
            · exact Or.inr (Or.inl rfl)
          · split
            · rename_i h1 h2
              have ho5 : o + 1 ≤ 6 := by
                simp [h2] at h1
                omega
              intro x hx
              simp only [List.mem_cons, List.not_mem_nil, or_false] at hx
              rcases hx with rfl | rfl | rfl | rfl | rfl | rfl | rfl | rfl
              · exact good_tok 105 _ ⟨by decide, by decide⟩
              · exact good_tok 40 _ ⟨by decide, by decide⟩
              · exact good_sym _ _ (by decide) ho5
              · exact good_tok 44 _ ⟨by decide, by decide⟩
              · exact good_sym _ _ (by decide) ho5
              · exact good_tok 44 _ ⟨by decide, by decide⟩
              · exact good_sym _ _ (by decide) ho5
              · exact good_tok 41 _ ⟨by decide, by decide⟩
            · exact good_one (good_tok 78 _ ⟨by decide, by decide⟩)

theorem good_becomes (s t : By) (hs : GoodS s) (hd : s ≠ wDeep) (ht : GoodT t) (L : List By) (h : becomesB s t = some L) : AllGood L := by
  rcases hs with ⟨c, r, rfl, hc⟩ | rfl | rfl | ⟨k, o, hk, ho, rfl⟩
  · rw [becomesB_tok c r t hc.1] at h; cases h
  · have hb : becomesB wOpen t = some (if t = [40] then [wDeep] else [wNone]) := rfl
    rw [hb] at h
    simp at h
    subst h
    split
    · exact good_one (Or.inr (Or.inr (Or.inl rfl)))
    · exact good_one (good_tok 78 _ ⟨by decide, by decide⟩)
  · exact absurd rfl hd
  · rw [becomesB_sym k o t (by omega)] at h
    simp at h
    subst h
    simp only [kindsW, List.mem_cons, List.not_mem_nil, or_false] at hk
    have sg : ∀ x y : UInt8, x ∈ kindsW → (some x : Option UInt8) = some y → y ∈ kindsW := fun x y hx he => by simp at he; exact he ▸ hx
    rcases hk with rfl | rfl | rfl | rfl | rfl | rfl | rfl | rfl | rfl | rfl | rfl
    · exact good_two 80 114 o ho (by decide) (by decide)
    · exact good_more t _ 80 (some 114) o ho (by decide) (fun y => sg 114 y (by decide)) ht (by decide)
    · exact good_two 84 112 o ho (by decide) (by decide)
    · exact good_more t _ 84 (some 112) o ho (by decide) (fun y => sg 112 y (by decide)) ht (by decide)
    · unfold becB
      rw [if_neg (by decide), if_neg (by decide), if_neg (by decide), if_neg (by decide), if_pos rfl]
      split
      · rename_i hn
        exact good_deep t 84 o (by decide) (by rw [hn]; exact good_tok 110 _ ⟨by decide, by decide⟩)
      · exact good_two 83 99 o ho (by decide) (by decide)
    · exact good_more t _ 83 none o ho (by decide) (fun y he => by cases he) ht (by decide)
    · exact good_two 77 115 o ho (by decide) (by decide)
    · exact good_more t _ 77 (some 115) o ho (by decide) (fun y => sg 115 y (by decide)) ht (by decide)
    · exact good_two 65 109 o ho (by decide) (by decide)
    · exact good_more t _ 65 (some 109) o ho (by decide) (fun y => sg 109 y (by decide)) ht (by decide)
    · exact good_atom t o ho ht

theorem becomesB_len (s t : By) (L : List By) (h : becomesB s t = some L) : L.length ≤ 8 := by
  have hdp : ∀ t k o, (deepB t k o).length ≤ 2 := by intro t k o; unfold deepB; split <;> simp
  have hmr : ∀ t sg p g o, (moreB t sg p g o).length ≤ 3 := by
    intro t sg p g o
    unfold moreB
    split
    · cases g <;> simp
    · simp
  have hat : ∀ t o, (atomB t o).length ≤ 8 := by
    intro t o
    have := hdp t 65 o
    have := hdp t 82 o
    unfold atomB
    repeat' split
    all_goals simp
    all_goals omega
  have hb : ∀ k o t, (becB k o t).length ≤ 8 := by
    intro k o t
    unfold becB
    repeat' split
    all_goals first | (simp; done) | (have := hdp t 84 o; omega) | (refine Nat.le_trans (hmr _ _ _ _ _) (by omega)) | exact hat t o
  unfold becomesB at h
  split at h
  · simp at h; subst h; exact hb _ _ _
  · simp at h; subst h; split <;> simp
  · cases h
end Go.Proofs.YtihgojcfpnhelaaGreatDoor
namespace Go.Proofs.YtihgojcfpnhelaaGreatDoor
open Go.RowKit
attribute [local go_sem] idx_eq app_eq

/-- A slice value reads as strings. -/
def Rds (w : World) (v : Value) (L : List By) : Prop :=
  (L = [] ∧ ∃ ao c, v = .slice ao 0 c) ∨
  (L ≠ [] ∧ ∃ a c, v = .slice (some a) L.length c ∧ L.length ≤ c ∧ ∀ j (h : j < L.length), w.cell? (a.add j) = some (.string ⟨(L[j]).toArray⟩))

theorem toks_good (f : Nat) (l : By) (k : Nat) (t : By) (p : Nat) (h : (t, p) ∈ (toks f l k).1) : ∃ c r, t = c :: r ∧ c ≠ 63 ∧ c ≠ 78 := by
  induction f generalizing l k with
  | zero => simp [toks] at h
  | succ f ih =>
    match l with
    | [] => simp [toks] at h
    | c :: r =>
      unfold toks at h
      split at h
      · exact ih _ _ h
      · split at h
        · rename_i hok
          simp only [List.mem_cons, Prod.mk.injEq] at h
          rcases h with ⟨rfl, rfl⟩ | h
          · have h1 := rowLen_pos c r
            obtain ⟨n, hn⟩ : ∃ n, rowLen (c :: r) = n + 1 := ⟨rowLen (c :: r) - 1, by omega⟩
            rw [hn, List.take_succ_cons] at hok ⊢
            refine ⟨c, _, rfl, ?_⟩
            have key : ∀ d : UInt8, isD d = false → isL d = false → inB (d :: List.take n r) signW = false → d ≠ c := by
              rintro d g1 g2 g3 rfl
              unfold tokOK at hok
              rw [show headD (d :: List.take n r) = isD d from rfl, show headL (d :: List.take n r) = isL d from rfl, g1, g2, g3] at hok
              simp at hok
            exact ⟨(key 63 (by decide) (by decide) (by simp [inB, signW])).symm, (key 78 (by decide) (by decide) (by simp [inB, signW])).symm⟩
          · exact ih _ _ h
        · simp at h

theorem toks_length (f : Nat) (l : By) (k : Nat) : (toks f l k).1.length ≤ f := by
  induction f generalizing l k with
  | zero => simp [toks]
  | succ f ih =>
    match l with
    | [] => simp [toks]
    | c :: r =>
      unfold toks
      split
      · exact Nat.le_succ_of_le (ih _ _)
      · split
        · simp only [List.length_cons]
          exact Nat.succ_le_succ (ih _ _)
        · simp

theorem tokens17_ok (s : By) (w : World) (ts : List (By × Nat)) (hl : s.length ≤ 1000) (h : toksOf s = (ts, none)) :
    Calls Tryz.prog 51 #[.string ⟨s.toArray⟩] w fun e w' => ∃ v, e = .returned (.tuple #[v, .int .i64 (-1)]) ∧ w'.ownsRow w.heap.size 118 2 v ts.length (rcells ts) ∧ Below w.heap.size w w' := by
  refine (tokens17 s w hl).mono fun e w' hT => ?_
  obtain ⟨_, h2, h3⟩ := hT
  rw [h] at h2
  obtain ⟨v, he, ho⟩ := h2 rfl
  exact ⟨v, he, ho, h3⟩

theorem tokens17_bad (s : By) (w : World) (p : Nat) (hl : s.length ≤ 1000) (h : (toksOf s).2 = some p) :
    Calls Tryz.prog 51 #[.string ⟨s.toArray⟩] w fun e w' => e = .returned (.tuple #[.slice none 0 0, .int .i64 (p : Int)]) ∧ Below w.heap.size w w' :=
  (tokens17 s w hl).mono fun _ _ hT => ⟨hT.1 p h, hT.2.2⟩

theorem rcells_get0 (ts : List (By × Nat)) (j : Nat) (h : j < ts.length) : (rcells ts)[j * 2]? = some (.string ⟨ts[j].1.toArray⟩) ∧ (rcells ts)[j * 2 + 1]? = some (.int .i64 (ts[j].2 : Int)) := by
  induction ts generalizing j with
  | nil => simp at h
  | cons t ts ih =>
    have hc : rcells (t :: ts) = .string ⟨t.1.toArray⟩ :: .int .i64 (t.2 : Int) :: rcells ts := by simp [rcells]
    rw [hc]
    cases j with
    | zero => simp
    | succ j =>
      have := ih j (by simpa using h)
      rw [show (j + 1) * 2 = j * 2 + 1 + 1 by omega]
      simpa using this

/-- The slice of the tokens, as it is read. -/
theorem tslice {w : World} {B : Nat} {v : Value} {ts : List (By × Nat)} (h : w.ownsRow B 118 2 v ts.length (rcells ts)) :
    ∃ ao cap, v = .slice ao ts.length cap ∧ ∀ j (hj : j < ts.length), ∃ g, ao = some ⟨g, 0, none⟩ ∧ w.cell? ⟨g, j * 2, none⟩ = some (.string ⟨ts[j].1.toArray⟩) ∧ w.cell? ⟨g, j * 2 + 1, none⟩ = some (.int .i64 (ts[j].2 : Int)) := by
  rcases h.2 with ⟨rfl, h0⟩ | ⟨g, cap, cur, rfl, hb, hgg, h1⟩
  · refine ⟨none, 0, by rw [h0], fun j hj => by omega⟩
  · refine ⟨some ⟨g, 0, none⟩, cap, rfl, fun j hj => ⟨g, rfl, ?_, ?_⟩⟩
    · rw [h.cellAt (j * 2) (by omega)]; exact (rcells_get0 ts j hj).1
    · rw [h.cellAt (j * 2 + 1) (by omega)]; exact (rcells_get0 ts j hj).2

theorem runB_step (len n : Nat) (x : By) (K : List By) (ts : List (By × Nat)) (t : By) (p : Nat) (h : (ts = [] ∧ t = [] ∧ p = len) ∨ ∃ r, ts = (t, p) :: r) :
    runB len (n + 1) (x :: K) ts = if x = wDeep then some (4, p) else match becomesB x t with
      | some m => runB len n (m ++ K) ts
      | none => if (if x = wName then nameB t else decide (t ≠ []) && decide (x = t)) then runB len n K ts.tail else some (3, p) := by
  rcases h with ⟨rfl, rfl, rfl⟩ | ⟨r, rfl⟩ <;> rfl

theorem strs_len (m : List By) : (strs m).length = m.length * 1 := by simp [strs]
theorem strs_one (m : List By) (u : Value) (h : u ∈ strs m) : u.oneCell' = true := by
  simp [strs] at h
  obtain ⟨x, _, rfl⟩ := h
  rfl

theorem Rds.below {w w' : World} {v : Value} {L : List By} (h : Rds w v L) (hb : Below w.heap.size w w') : Rds w' v L := by
  rcases h with h | ⟨h1, a, c, h2, hc, h3⟩
  · exact Or.inl h
  · exact Or.inr ⟨h1, a, c, h2, hc, fun j hj => (hb.cell (World.block_lt_of_cell? w _ (h3 j hj))).trans (h3 j hj)⟩

theorem Rds.own {w : World} {B : Nat} {v : Value} {L : List By} (h : Own w B v L) : Rds w v L := by
  rcases h.2 with ⟨rfl, h0⟩ | ⟨g, cap, cur, rfl, hb, hgg, h1⟩
  · exact Or.inl ⟨List.length_eq_zero_iff.1 h0, none, 0, rfl⟩
  · cases L with
    | nil => exact Or.inl ⟨rfl, _, _, rfl⟩
    | cons x L =>
      refine Or.inr ⟨by simp, _, _, rfl, h1.1, fun j hj => ?_⟩
      exact h.cells (g := g) rfl j _ (by unfold strs; rw [List.getElem?_map, List.getElem?_eq_getElem hj]; rfl)

/-- What 'Read' answers where the tokens stand. -/
def ReadPost (s : By) (w : World) (res : Int × Nat) (e : Ending) (w' : World) : Prop :=
  ∃ v, e = .returned (.tuple #[v, .int .i64 res.1, .int .i64 (res.2 : Int)]) ∧ w'.ownsRow w.heap.size 118 2 v (toksOf s).1.length (rcells (toksOf s).1) ∧ Below w.heap.size w w'

set_option maxRecDepth 100000 in
set_option maxHeartbeats 4000000 in
theorem read10 (s : By) (L0 : List By) (v0 : Value) (w : World) (hl : s.length ≤ 1000) (hL0 : Rds w v0 L0) (hlen : L0.length ≤ 10) (hg : AllGood L0) (n0 : Nat) (hn0 : n0 ≤ 1000000) (res : Int × Nat)
    (hno : (toksOf s).2 = none) (hrun : runB s.length n0 L0 (toksOf s).1 = some res) :
    Calls Tryz.prog 53 #[.string ⟨s.toArray⟩, v0] w (ReadPost s w res) := by
  have HG := fun t p (h : (t, p) ∈ (toksOf s).1) => toks_good _ _ _ t p h
  have HG := toHid HG
  have htl : (toksOf s).1.length ≤ s.length := toks_length _ _ _
  generalize hts : toksOf s = tse at *
  obtain ⟨ts, en⟩ := tse
  simp only at hno hrun htl
  subst hno
  have HTS := toHid hts
  have HRUN := toHid hrun
  have HL0 := toHid hL0
  have HAG := toHid hg
  clear hts hrun hL0 hg
  obtain ⟨i0, hi, hz0, hz1, hz2⟩ := info_parts info9
  go_enter Tryz.func53, Tryz.ntmps53
  go_wp2_with (first | (go_at_call 51; refine (tokens17_ok s _ ts hl HTS.out).mono ?_; rintro e w1 ⟨v, rfl, hown, hb1⟩; refine Hid.out ?_))
  refine toHid ?_
  obtain ⟨ao, cap, rfl, hcl⟩ := tslice hown
  have HC := toHid hcl
  have HO := toHid hown
  have hs1 := hb1.size
  clear hcl hown
  go_wp2
  go_loopg [1, 9] n0 (fun k want i wr => ∃ (L : List By) (j : Nat), Rds wr want L ∧ i = .int .i64 (j : Int) ∧ j ≤ ts.length ∧ runB s.length k L (ts.drop j) = some res ∧ AllGood L ∧ L.length + 8 * k ≤ 8 * n0 + 10 ∧ Below w1.heap.size w1 wr)
  case atStart => exact ⟨L0, 0, HL0.out.below hb1, rfl, Nat.zero_le _, by simpa using HRUN.out, HAG.out, by omega, Below.refl _ _⟩
  case round =>
    obtain ⟨L, j, hrd, rfl, hj, hrun, hag, hll, hbr⟩ := hrel
    have HR := toHid hrun
    clear hrun
    have hsr := hbr.size
    have HFIN := toHid (show wr.ownsRow w.heap.size 118 2 (.slice ao ts.length cap) (toksOf s).1.length (rcells (toksOf s).1) by rw [HTS.out]; exact own_below HO.out hbr)
    match gk, HR with
    | 0, HR => have := HR.out; simp [runB] at this
    | gk + 1, HR =>
    match L, hrd, hag, hll, HR with
    | [], hrd, hag, hll, HR =>
      obtain ⟨ax, cx, rfl⟩ : ∃ ao c, u1 = .slice ao 0 c := by
        rcases hrd with ⟨_, h⟩ | ⟨h, _⟩
        · exact h
        · exact absurd rfl h
      clear hrd hag
      by_cases hjl : j < ts.length
      · obtain ⟨g, rfl, hc0, hc1⟩ := HC.out j hjl
        have hc1' := (hbr.cell (World.block_lt_of_cell? w1 _ hc1)).trans hc1
        have HRES := toHid (show some ((3 : Int), ts[j].2) = some res by have := HR.out; rw [List.drop_eq_getElem_cons hjl] at this; exact this)
        go_wp2
        go_quiet (fail)
        go_wp2
        go_ret3
        have := HRES.out
        simp at this
        subst this
        exact ⟨_, rfl, HFIN.out, (hb1.trans (hbr.mono hs1)).trans ⟨rfl, rfl, rfl, Nat.le_refl _, fun _ _ => rfl⟩⟩
      · have HRES := toHid (show some ((0 : Int), 0) = some res by have := HR.out; rw [List.drop_of_length_le (by omega)] at this; exact this)
        go_wp2
        go_ret3
        have := HRES.out
        simp at this
        subst this
        exact ⟨_, rfl, HFIN.out, hb1.trans (hbr.mono hs1)⟩
    | x :: K, hrd, hag, hll, HR =>
      obtain ⟨ax, cx, rfl, hcx, hcw⟩ : ∃ a c, u1 = .slice (some a) (x :: K).length c ∧ (x :: K).length ≤ c ∧ ∀ j (h : j < (x :: K).length), wr.cell? (a.add j) = some (.string ⟨((x :: K)[j]).toArray⟩) := by
        rcases hrd with ⟨h, _⟩ | ⟨_, h⟩
        · cases h
        · exact h
      have hw0 : wr.cell? ax = some (.string ⟨x.toArray⟩) := by have := hcw 0 (by simp); rwa [show ax.add 0 = ax by simp [Addr.add]] at this
      have HCW := toHid hcw
      have hgx : GoodS x := hag x (by simp)
      have HAK := toHid (show AllGood K from fun y hy => hag y (by simp [hy]))
      clear hrd hag hcw
      simp only [List.length_cons] at hll hcx ⊢
      by_cases hjl : j < ts.length
      · obtain ⟨g, rfl, hc0, hc1⟩ := HC.out j hjl
        have hc0' := (hbr.cell (World.block_lt_of_cell? w1 _ hc0)).trans hc0
        have hc1' := (hbr.cell (World.block_lt_of_cell? w1 _ hc1)).trans hc1
        have HGT := toHid (show GoodT ts[j].1 from Or.inr (HG.out ts[j].1 ts[j].2 (List.getElem_mem hjl)))
        have HTP := toHid (show (ts.drop j = [] ∧ ts[j].1 = [] ∧ ts[j].2 = s.length) ∨ ∃ r, ts.drop j = (ts[j].1, ts[j].2) :: r from Or.inr ⟨_, List.drop_eq_getElem_cons hjl⟩)
        clear hc0 hc1
        generalize ts[j].1 = t at *
        generalize ts[j].2 = p at *
        by_cases hxd : x = wDeep
        · subst hxd
          have HRES := toHid (show some ((4 : Int), p) = some res by have := HR.out; rw [runB_step _ _ _ _ _ t p HTP.out, if_pos rfl] at this; exact this)
          have hxb : ((wDeep : By) == [63, 33]) = true := by decide
          go_wp2
          go_ret3
          have := HRES.out
          simp at this
          subst this
          exact ⟨_, rfl, HFIN.out, hb1.trans (hbr.mono hs1)⟩
        · have hxb : (x == [63, 33]) = false := beq_eq_false_iff_ne.2 hxd
          cases hm : becomesB x t with
          | some m =>
            have HM := toHid hm
            have HR2 := toHid (show runB s.length gk (m ++ K) (ts.drop j) = some res by have := HR.out; rw [runB_step _ _ _ _ _ t p HTP.out, if_neg hxd, hm] at this; exact this)
            have HGM := toHid (good_becomes x t hgx hxd HGT.out m hm)
            have hml := becomesB_len x t m hm
            clear hm
            go_wp2_with (first | (go_at_call 75; refine (becomes18 x t _ hgx hxd).mono ?_; rintro e w2 ⟨hY, hN⟩; obtain ⟨v2, rfl, hv2, hb2⟩ := hY m HM.out; clear hY hN; refine Hid.out ?_))
            refine toHid ?_
            rcases hv2.2 with ⟨rfl, hm0⟩ | ⟨g2, cap2, cur2, rfl, hg2, hgg2, hrest2⟩
            · obtain rfl := List.length_eq_zero_iff.1 hm0
              have hs2 := hb2.size
              have hown3 : w2.ownsRow w2.heap.size 9 1 (.slice none 0 0) ([] : List By).length (strs []) := World.ownsRow_nil _ _ _ _
              have hb3 : Below w2.heap.size w2 w2 := Below.refl _ _
              have hs3 := hb3.size
              generalize hmm : ([] : List By) = m at *
              have HMM := toHid hmm
              clear hmm hm0
              go_wp2_with (first | (at_builtin; refine wpList_append_own_none rfl (.tmp 58) (.tmp 59) 24 rfl w2.heap.size 9 i0 1 Tryz.underlying24 hi (.slice none 0 0) 0 [] rfl (World.ownsRow_nil _ _ _ _) rfl ?_; refine Hid.out ?_))
              refine toHid ?_
              by_cases hcx1 : cx = 1
              · have hK0 : K.length = 0 := by omega
                obtain rfl := List.length_eq_zero_iff.1 hK0
                subst hcx1
                go_wp2_with (first | (at_builtin; refine wpList_append_own _ rfl (.tmp 61) (.tmp 63) 24 rfl w2.heap.size 9 i0 (.string ⟨#[]⟩) 1 16 Tryz.underlying24 hi hz0 hz1 hz2 rfl (by decide) (.slice none 0 0) m.length (strs m) rfl hown3 ax 0 0 (strs []) ?e1 (strs_len []) (fun q u hq => by simp [strs] at hq) (strs_one []) (by unfold maxLen; omega) (by omega) hs3 ?_; rotate_right; intro v4 w4 hown4 hgrow4 _; refine Hid.out ?_))
                case e1 => simp [go_sem]
                have HW4 := toHid (show Own w4 w2.heap.size v4 (m ++ []) by
                  show w4.ownsRow _ 9 1 v4 _ _
                  rw [List.length_append]
                  simpa [strs] using hown4)
                have HB4 := toHid (show Below w1.heap.size w1 w4 from ((hbr.trans (hb2.mono hsr)).trans (hb3.mono (by omega))).grown hgrow4 (by omega) (fun q hq => by have := (World.ownsRow.lt hown3 q hq).1; omega))
                clear hown4 hgrow4
                refine toHid ?_
                go_wp2
                go_roundg gk
                case measure => omega
                case rel => exact ⟨m ++ [], j, Rds.own HW4.out, rfl, hj, by simpa using HR2.out, fun y hy => (List.mem_append.1 hy).elim (HGM.out y) (fun h => by cases h), by rw [List.length_append]; simp; omega, HB4.out⟩
              · have hcx2 : 2 ≤ cx := by omega
                have HC3 := toHid (show ∀ q u, (strs K)[q]? = some u → (w2 : World).cell? ((ax.add 1).add q) = some u from fun q u hq => by
                  unfold strs at hq
                  rw [List.getElem?_map] at hq
                  obtain ⟨y, hy, rfl⟩ := Option.map_eq_some_iff.1 hq
                  obtain ⟨hql, rfl⟩ := List.getElem?_eq_some_iff.1 hy
                  have h := HCW.out (q + 1) (by simpa using hql)
                  rw [show (ax.add 1).add q = ax.add (q + 1) by rw [Addr.add_add, Nat.add_comm]]
                  rw [hb3.cell (by have := World.block_lt_of_cell? wr _ h; omega), hb2.cell (World.block_lt_of_cell? wr _ h), h]
                  rfl)
                go_wp2_with (first | (at_builtin; refine wpList_append_own _ rfl (.tmp 61) (.tmp 63) 24 rfl w2.heap.size 9 i0 (.string ⟨#[]⟩) 1 16 Tryz.underlying24 hi hz0 hz1 hz2 rfl (by decide) (.slice none 0 0) m.length (strs m) rfl hown3 (ax.add 1) K.length (cx - 1) (strs K) ?e1 (strs_len K) HC3.out (strs_one K) (by unfold maxLen; omega) (by omega) hs3 ?_; rotate_right; intro v4 w4 hown4 hgrow4 _; refine Hid.out ?_))
                case e1 => simp [go_sem]
                have HW4 := toHid (show Own w4 w2.heap.size v4 (m ++ K) by
                  show w4.ownsRow _ 9 1 v4 _ _
                  rw [List.length_append]
                  simpa [strs] using hown4)
                have HB4 := toHid (show Below w1.heap.size w1 w4 from ((hbr.trans (hb2.mono hsr)).trans (hb3.mono (by omega))).grown hgrow4 (by omega) (fun q hq => by have := (World.ownsRow.lt hown3 q hq).1; omega))
                clear hown4 hgrow4
                refine toHid ?_
                go_wp2
                go_roundg gk
                case measure => omega
                case rel => exact ⟨m ++ K, j, Rds.own HW4.out, rfl, hj, HR2.out, fun y hy => (List.mem_append.1 hy).elim (HGM.out y) (HAK.out y), by rw [List.length_append]; omega, HB4.out⟩
            · have HC2 := toHid (fun q u hq => hv2.cells (g := g2) rfl q u hq)
              have hs2 := hb2.size
              clear hgg2 hrest2
              go_wp2_with (first | (at_builtin; refine wpList_append_own _ rfl (.tmp 58) (.tmp 59) 24 rfl w2.heap.size 9 i0 (.string ⟨#[]⟩) 1 16 Tryz.underlying24 hi hz0 hz1 hz2 rfl (by decide) (.slice none 0 0) 0 [] rfl (World.ownsRow_nil _ _ _ _) ⟨g2, 0, none⟩ m.length cap2 (strs m) rfl (strs_len m) HC2.out (strs_one m) (by unfold maxLen; omega) (by omega) (Nat.le_refl _) ?_; intro v3 w3 hown3 hgrow3 _; refine Hid.out ?_))
              rw [Nat.zero_add, List.nil_append] at hown3
              have hb3 : Below w2.heap.size w2 w3 := (Below.refl _ _).grown hgrow3 (Nat.le_refl _) (fun q hq => by cases hq)
              have hs3 := hb3.size
              clear hgrow3
              refine toHid ?_
              by_cases hcx1 : cx = 1
              · have hK0 : K.length = 0 := by omega
                obtain rfl := List.length_eq_zero_iff.1 hK0
                subst hcx1
                go_wp2_with (first | (at_builtin; refine wpList_append_own _ rfl (.tmp 61) (.tmp 63) 24 rfl w2.heap.size 9 i0 (.string ⟨#[]⟩) 1 16 Tryz.underlying24 hi hz0 hz1 hz2 rfl (by decide) v3 m.length (strs m) rfl hown3 ax 0 0 (strs []) ?e1 (strs_len []) (fun q u hq => by simp [strs] at hq) (strs_one []) (by unfold maxLen; omega) (by omega) hs3 ?_; rotate_right; intro v4 w4 hown4 hgrow4 _; refine Hid.out ?_))
                case e1 => simp [go_sem]
                have HW4 := toHid (show Own w4 w2.heap.size v4 (m ++ []) by
                  show w4.ownsRow _ 9 1 v4 _ _
                  rw [List.length_append]
                  simpa [strs] using hown4)
                have HB4 := toHid (show Below w1.heap.size w1 w4 from ((hbr.trans (hb2.mono hsr)).trans (hb3.mono (by omega))).grown hgrow4 (by omega) (fun q hq => by have := (World.ownsRow.lt hown3 q hq).1; omega))
                clear hown4 hgrow4
                refine toHid ?_
                go_wp2
                go_roundg gk
                case measure => omega
                case rel => exact ⟨m ++ [], j, Rds.own HW4.out, rfl, hj, by simpa using HR2.out, fun y hy => (List.mem_append.1 hy).elim (HGM.out y) (fun h => by cases h), by rw [List.length_append]; simp; omega, HB4.out⟩
              · have hcx2 : 2 ≤ cx := by omega
                have HC3 := toHid (show ∀ q u, (strs K)[q]? = some u → (w3 : World).cell? ((ax.add 1).add q) = some u from fun q u hq => by
                  unfold strs at hq
                  rw [List.getElem?_map] at hq
                  obtain ⟨y, hy, rfl⟩ := Option.map_eq_some_iff.1 hq
                  obtain ⟨hql, rfl⟩ := List.getElem?_eq_some_iff.1 hy
                  have h := HCW.out (q + 1) (by simpa using hql)
                  rw [show (ax.add 1).add q = ax.add (q + 1) by rw [Addr.add_add, Nat.add_comm]]
                  rw [hb3.cell (by have := World.block_lt_of_cell? wr _ h; omega), hb2.cell (World.block_lt_of_cell? wr _ h), h]
                  rfl)
                go_wp2_with (first | (at_builtin; refine wpList_append_own _ rfl (.tmp 61) (.tmp 63) 24 rfl w2.heap.size 9 i0 (.string ⟨#[]⟩) 1 16 Tryz.underlying24 hi hz0 hz1 hz2 rfl (by decide) v3 m.length (strs m) rfl hown3 (ax.add 1) K.length (cx - 1) (strs K) ?e1 (strs_len K) HC3.out (strs_one K) (by unfold maxLen; omega) (by omega) hs3 ?_; rotate_right; intro v4 w4 hown4 hgrow4 _; refine Hid.out ?_))
                case e1 => simp [go_sem]
                have HW4 := toHid (show Own w4 w2.heap.size v4 (m ++ K) by
                  show w4.ownsRow _ 9 1 v4 _ _
                  rw [List.length_append]
                  simpa [strs] using hown4)
                have HB4 := toHid (show Below w1.heap.size w1 w4 from ((hbr.trans (hb2.mono hsr)).trans (hb3.mono (by omega))).grown hgrow4 (by omega) (fun q hq => by have := (World.ownsRow.lt hown3 q hq).1; omega))
                clear hown4 hgrow4
                refine toHid ?_
                go_wp2
                go_roundg gk
                case measure => omega
                case rel => exact ⟨m ++ K, j, Rds.own HW4.out, rfl, hj, HR2.out, fun y hy => (List.mem_append.1 hy).elim (HGM.out y) (HAK.out y), by rw [List.length_append]; omega, HB4.out⟩

          | none =>
            have HM := toHid hm
            have HXN := toHid (show x ≠ wName from by
              rcases hgx with ⟨c, r, rfl, hc⟩ | rfl | rfl | ⟨k, o, hk, ho, rfl⟩
              · exact hc.2
              · decide
              · decide
              · intro h; simp [symB, wName] at h)
            have hxnb : (x == [78, 65, 77, 69]) = false := beq_eq_false_iff_ne.2 HXN.out
            have hxnb2 : (x == wName) = false := beq_eq_false_iff_ne.2 HXN.out
            clear hm
            cases t with
            | nil =>
              have HRES := toHid (show some ((3 : Int), p) = some res by have := HR.out; rw [runB_step _ _ _ _ _ [] p HTP.out, if_neg hxd, HM.out] at this; simpa [HXN.out] using this)
              go_wp2_with (first | (go_at_call 75; refine (becomes18 x [] _ hgx hxd).mono ?_; rintro e w2 ⟨hY, hN⟩; obtain ⟨rfl, rfl⟩ := hN HM.out; clear hY))
              go_ret3
              have := HRES.out
              simp at this
              subst this
              exact ⟨_, rfl, HFIN.out, hb1.trans (hbr.mono hs1)⟩
            | cons tc tr =>
              by_cases hxt : x = tc :: tr
              · have hxtb : (x == tc :: tr) = true := by simp [hxt]
                have HR3 := toHid (show runB s.length gk K (ts.drop (j + 1)) = some res by
                  have := HR.out
                  rw [runB_step _ _ _ _ _ (tc :: tr) p HTP.out, if_neg hxd, HM.out] at this
                  have hn' : (tc :: tr : By) ≠ wName := hxt ▸ HXN.out
                  simpa [hn', hxt, List.tail_drop] using this)
                clear hxt
                by_cases hcx1 : cx = 1
                · have hK0 : K.length = 0 := by omega
                  obtain rfl := List.length_eq_zero_iff.1 hK0
                  subst hcx1
                  go_wp2_with (first | (go_at_call 75; refine (becomes18 x (tc :: tr) _ hgx hxd).mono ?_; rintro e w2 ⟨hY, hN⟩; obtain ⟨rfl, rfl⟩ := hN HM.out; clear hY))
                  go_roundg gk
                  case measure => omega
                  case rel =>
                    refine ⟨[], j + 1, ?_, by go_num, by omega, HR3.out, (fun y hy => by cases hy), (by simp at hll ⊢; omega), hbr⟩
                    exact Or.inl ⟨rfl, _, _, rfl⟩
                · have hcx2 : 2 ≤ cx := by omega
                  go_wp2_with (first | (go_at_call 75; refine (becomes18 x (tc :: tr) _ hgx hxd).mono ?_; rintro e w2 ⟨hY, hN⟩; obtain ⟨rfl, rfl⟩ := hN HM.out; clear hY))
                  go_roundg gk
                  case measure => omega
                  case rel =>
                    refine ⟨K, j + 1, ?_, by go_num, by omega, HR3.out, HAK.out, (by omega), hbr⟩
                    exact by
                      cases K with
                      | nil => exact Or.inl ⟨rfl, _, _, rfl⟩
                      | cons y K =>
                        refine Or.inr ⟨by simp, ax.add 1, cx - 1, by simp [Addr.add], by have := hcx; simp only [List.length_cons] at this ⊢; omega, fun q hq => ?_⟩
                        have h := HCW.out (q + 1) (by simpa using hq)
                        rw [show (ax.add 1).add q = ax.add (q + 1) by rw [Addr.add_add, Nat.add_comm], h]
                        rfl
              · have hxtb : (x == tc :: tr) = false := beq_eq_false_iff_ne.2 hxt
                have HEQ := hxt
                have HRES := toHid (show some ((3 : Int), p) = some res by have := HR.out; rw [runB_step _ _ _ _ _ (tc :: tr) p HTP.out, if_neg hxd, HM.out] at this; simpa [HXN.out, HEQ] using this)
                clear HEQ hxt
                go_wp2_with (first | (go_at_call 75; refine (becomes18 x (tc :: tr) _ hgx hxd).mono ?_; rintro e w2 ⟨hY, hN⟩; obtain ⟨rfl, rfl⟩ := hN HM.out; clear hY))
                go_ret3
                have := HRES.out
                simp at this
                subst this
                exact ⟨_, rfl, HFIN.out, hb1.trans (hbr.mono hs1)⟩


      · have HGT := toHid (show GoodT [] from Or.inl rfl)
        have HTP := toHid (show (ts.drop j = [] ∧ ([] : By) = [] ∧ s.length = s.length) ∨ ∃ r, ts.drop j = ([], s.length) :: r from Or.inl ⟨List.drop_of_length_le (by omega), rfl, rfl⟩)
        by_cases hxd : x = wDeep
        · subst hxd
          have HRES := toHid (show some ((4 : Int), s.length) = some res by have := HR.out; rw [runB_step _ _ _ _ _ [] s.length HTP.out, if_pos rfl] at this; exact this)
          have hxb : ((wDeep : By) == [63, 33]) = true := by decide
          go_wp2
          go_ret3
          have := HRES.out
          simp at this
          subst this
          exact ⟨_, rfl, HFIN.out, hb1.trans (hbr.mono hs1)⟩
        · have hxb : (x == [63, 33]) = false := beq_eq_false_iff_ne.2 hxd
          cases hm : becomesB x [] with
          | some m =>
            have HM := toHid hm
            have HR2 := toHid (show runB s.length gk (m ++ K) (ts.drop j) = some res by have := HR.out; rw [runB_step _ _ _ _ _ [] s.length HTP.out, if_neg hxd, hm] at this; exact this)
            have HGM := toHid (good_becomes x [] hgx hxd HGT.out m hm)
            have hml := becomesB_len x [] m hm
            clear hm
            go_wp2_with (first | (go_at_call 75; refine (becomes18 x [] _ hgx hxd).mono ?_; rintro e w2 ⟨hY, hN⟩; obtain ⟨v2, rfl, hv2, hb2⟩ := hY m HM.out; clear hY hN; refine Hid.out ?_))
            refine toHid ?_
            rcases hv2.2 with ⟨rfl, hm0⟩ | ⟨g2, cap2, cur2, rfl, hg2, hgg2, hrest2⟩
            · obtain rfl := List.length_eq_zero_iff.1 hm0
              have hs2 := hb2.size
              have hown3 : w2.ownsRow w2.heap.size 9 1 (.slice none 0 0) ([] : List By).length (strs []) := World.ownsRow_nil _ _ _ _
              have hb3 : Below w2.heap.size w2 w2 := Below.refl _ _
              have hs3 := hb3.size
              generalize hmm : ([] : List By) = m at *
              have HMM := toHid hmm
              clear hmm hm0
              go_wp2_with (first | (at_builtin; refine wpList_append_own_none rfl (.tmp 58) (.tmp 59) 24 rfl w2.heap.size 9 i0 1 Tryz.underlying24 hi (.slice none 0 0) 0 [] rfl (World.ownsRow_nil _ _ _ _) rfl ?_; refine Hid.out ?_))
              refine toHid ?_
              by_cases hcx1 : cx = 1
              · have hK0 : K.length = 0 := by omega
                obtain rfl := List.length_eq_zero_iff.1 hK0
                subst hcx1
                go_wp2_with (first | (at_builtin; refine wpList_append_own _ rfl (.tmp 61) (.tmp 63) 24 rfl w2.heap.size 9 i0 (.string ⟨#[]⟩) 1 16 Tryz.underlying24 hi hz0 hz1 hz2 rfl (by decide) (.slice none 0 0) m.length (strs m) rfl hown3 ax 0 0 (strs []) ?e1 (strs_len []) (fun q u hq => by simp [strs] at hq) (strs_one []) (by unfold maxLen; omega) (by omega) hs3 ?_; rotate_right; intro v4 w4 hown4 hgrow4 _; refine Hid.out ?_))
                case e1 => simp [go_sem]
                have HW4 := toHid (show Own w4 w2.heap.size v4 (m ++ []) by
                  show w4.ownsRow _ 9 1 v4 _ _
                  rw [List.length_append]
                  simpa [strs] using hown4)
                have HB4 := toHid (show Below w1.heap.size w1 w4 from ((hbr.trans (hb2.mono hsr)).trans (hb3.mono (by omega))).grown hgrow4 (by omega) (fun q hq => by have := (World.ownsRow.lt hown3 q hq).1; omega))
                clear hown4 hgrow4
                refine toHid ?_
                go_wp2
                go_roundg gk
                case measure => omega
                case rel => exact ⟨m ++ [], j, Rds.own HW4.out, rfl, hj, by simpa using HR2.out, fun y hy => (List.mem_append.1 hy).elim (HGM.out y) (fun h => by cases h), by rw [List.length_append]; simp; omega, HB4.out⟩
              · have hcx2 : 2 ≤ cx := by omega
                have HC3 := toHid (show ∀ q u, (strs K)[q]? = some u → (w2 : World).cell? ((ax.add 1).add q) = some u from fun q u hq => by
                  unfold strs at hq
                  rw [List.getElem?_map] at hq
                  obtain ⟨y, hy, rfl⟩ := Option.map_eq_some_iff.1 hq
                  obtain ⟨hql, rfl⟩ := List.getElem?_eq_some_iff.1 hy
                  have h := HCW.out (q + 1) (by simpa using hql)
                  rw [show (ax.add 1).add q = ax.add (q + 1) by rw [Addr.add_add, Nat.add_comm]]
                  rw [hb3.cell (by have := World.block_lt_of_cell? wr _ h; omega), hb2.cell (World.block_lt_of_cell? wr _ h), h]
                  rfl)
                go_wp2_with (first | (at_builtin; refine wpList_append_own _ rfl (.tmp 61) (.tmp 63) 24 rfl w2.heap.size 9 i0 (.string ⟨#[]⟩) 1 16 Tryz.underlying24 hi hz0 hz1 hz2 rfl (by decide) (.slice none 0 0) m.length (strs m) rfl hown3 (ax.add 1) K.length (cx - 1) (strs K) ?e1 (strs_len K) HC3.out (strs_one K) (by unfold maxLen; omega) (by omega) hs3 ?_; rotate_right; intro v4 w4 hown4 hgrow4 _; refine Hid.out ?_))
                case e1 => simp [go_sem]
                have HW4 := toHid (show Own w4 w2.heap.size v4 (m ++ K) by
                  show w4.ownsRow _ 9 1 v4 _ _
                  rw [List.length_append]
                  simpa [strs] using hown4)
                have HB4 := toHid (show Below w1.heap.size w1 w4 from ((hbr.trans (hb2.mono hsr)).trans (hb3.mono (by omega))).grown hgrow4 (by omega) (fun q hq => by have := (World.ownsRow.lt hown3 q hq).1; omega))
                clear hown4 hgrow4
                refine toHid ?_
                go_wp2
                go_roundg gk
                case measure => omega
                case rel => exact ⟨m ++ K, j, Rds.own HW4.out, rfl, hj, HR2.out, fun y hy => (List.mem_append.1 hy).elim (HGM.out y) (HAK.out y), by rw [List.length_append]; omega, HB4.out⟩
            · have HC2 := toHid (fun q u hq => hv2.cells (g := g2) rfl q u hq)
              have hs2 := hb2.size
              clear hgg2 hrest2
              go_wp2_with (first | (at_builtin; refine wpList_append_own _ rfl (.tmp 58) (.tmp 59) 24 rfl w2.heap.size 9 i0 (.string ⟨#[]⟩) 1 16 Tryz.underlying24 hi hz0 hz1 hz2 rfl (by decide) (.slice none 0 0) 0 [] rfl (World.ownsRow_nil _ _ _ _) ⟨g2, 0, none⟩ m.length cap2 (strs m) rfl (strs_len m) HC2.out (strs_one m) (by unfold maxLen; omega) (by omega) (Nat.le_refl _) ?_; intro v3 w3 hown3 hgrow3 _; refine Hid.out ?_))
              rw [Nat.zero_add, List.nil_append] at hown3
              have hb3 : Below w2.heap.size w2 w3 := (Below.refl _ _).grown hgrow3 (Nat.le_refl _) (fun q hq => by cases hq)
              have hs3 := hb3.size
              clear hgrow3
              refine toHid ?_
              by_cases hcx1 : cx = 1
              · have hK0 : K.length = 0 := by omega
                obtain rfl := List.length_eq_zero_iff.1 hK0
                subst hcx1
                go_wp2_with (first | (at_builtin; refine wpList_append_own _ rfl (.tmp 61) (.tmp 63) 24 rfl w2.heap.size 9 i0 (.string ⟨#[]⟩) 1 16 Tryz.underlying24 hi hz0 hz1 hz2 rfl (by decide) v3 m.length (strs m) rfl hown3 ax 0 0 (strs []) ?e1 (strs_len []) (fun q u hq => by simp [strs] at hq) (strs_one []) (by unfold maxLen; omega) (by omega) hs3 ?_; rotate_right; intro v4 w4 hown4 hgrow4 _; refine Hid.out ?_))
                case e1 => simp [go_sem]
                have HW4 := toHid (show Own w4 w2.heap.size v4 (m ++ []) by
                  show w4.ownsRow _ 9 1 v4 _ _
                  rw [List.length_append]
                  simpa [strs] using hown4)
                have HB4 := toHid (show Below w1.heap.size w1 w4 from ((hbr.trans (hb2.mono hsr)).trans (hb3.mono (by omega))).grown hgrow4 (by omega) (fun q hq => by have := (World.ownsRow.lt hown3 q hq).1; omega))
                clear hown4 hgrow4
                refine toHid ?_
                go_wp2
                go_roundg gk
                case measure => omega
                case rel => exact ⟨m ++ [], j, Rds.own HW4.out, rfl, hj, by simpa using HR2.out, fun y hy => (List.mem_append.1 hy).elim (HGM.out y) (fun h => by cases h), by rw [List.length_append]; simp; omega, HB4.out⟩
              · have hcx2 : 2 ≤ cx := by omega
                have HC3 := toHid (show ∀ q u, (strs K)[q]? = some u → (w3 : World).cell? ((ax.add 1).add q) = some u from fun q u hq => by
                  unfold strs at hq
                  rw [List.getElem?_map] at hq
                  obtain ⟨y, hy, rfl⟩ := Option.map_eq_some_iff.1 hq
                  obtain ⟨hql, rfl⟩ := List.getElem?_eq_some_iff.1 hy
                  have h := HCW.out (q + 1) (by simpa using hql)
                  rw [show (ax.add 1).add q = ax.add (q + 1) by rw [Addr.add_add, Nat.add_comm]]
                  rw [hb3.cell (by have := World.block_lt_of_cell? wr _ h; omega), hb2.cell (World.block_lt_of_cell? wr _ h), h]
                  rfl)
                go_wp2_with (first | (at_builtin; refine wpList_append_own _ rfl (.tmp 61) (.tmp 63) 24 rfl w2.heap.size 9 i0 (.string ⟨#[]⟩) 1 16 Tryz.underlying24 hi hz0 hz1 hz2 rfl (by decide) v3 m.length (strs m) rfl hown3 (ax.add 1) K.length (cx - 1) (strs K) ?e1 (strs_len K) HC3.out (strs_one K) (by unfold maxLen; omega) (by omega) hs3 ?_; rotate_right; intro v4 w4 hown4 hgrow4 _; refine Hid.out ?_))
                case e1 => simp [go_sem]
                have HW4 := toHid (show Own w4 w2.heap.size v4 (m ++ K) by
                  show w4.ownsRow _ 9 1 v4 _ _
                  rw [List.length_append]
                  simpa [strs] using hown4)
                have HB4 := toHid (show Below w1.heap.size w1 w4 from ((hbr.trans (hb2.mono hsr)).trans (hb3.mono (by omega))).grown hgrow4 (by omega) (fun q hq => by have := (World.ownsRow.lt hown3 q hq).1; omega))
                clear hown4 hgrow4
                refine toHid ?_
                go_wp2
                go_roundg gk
                case measure => omega
                case rel => exact ⟨m ++ K, j, Rds.own HW4.out, rfl, hj, HR2.out, fun y hy => (List.mem_append.1 hy).elim (HGM.out y) (HAK.out y), by rw [List.length_append]; omega, HB4.out⟩

          | none =>
            have HM := toHid hm
            have HXN := toHid (show x ≠ wName from by
              rcases hgx with ⟨c, r, rfl, hc⟩ | rfl | rfl | ⟨k, o, hk, ho, rfl⟩
              · exact hc.2
              · decide
              · decide
              · intro h; simp [symB, wName] at h)
            have hxnb : (x == [78, 65, 77, 69]) = false := beq_eq_false_iff_ne.2 HXN.out
            have hxnb2 : (x == wName) = false := beq_eq_false_iff_ne.2 HXN.out
            clear hm
            have HRES := toHid (show some ((3 : Int), s.length) = some res by have := HR.out; rw [runB_step _ _ _ _ _ [] s.length HTP.out, if_neg hxd, HM.out] at this; simpa [HXN.out] using this)
            go_wp2_with (first | (go_at_call 75; refine (becomes18 x [] _ hgx hxd).mono ?_; rintro e w2 ⟨hY, hN⟩; obtain ⟨rfl, rfl⟩ := hN HM.out; clear hY))
            go_ret3
            have := HRES.out
            simp at this
            subst this
            exact ⟨_, rfl, HFIN.out, hb1.trans (hbr.mono hs1)⟩


end Go.Proofs.YtihgojcfpnhelaaGreatDoor
