import Derived.Test.YtihgojcfpnhelaaGreatDoorK
set_option linter.unusedVariables false
set_option linter.unusedSimpArgs false
namespace Go.Proofs.YtihgojcfpnhelaaGreatDoor
open Go.RowKit
attribute [local go_sem] idx_eq app_eq

def betW : List By := [[111, 114], [97, 110, 100], [61], [60], [43], [45], [42], [47], [37]]

def behO : Option By → Bool | none => false | some q => behB q

/-- How a token is told behind another (or at the head). -/
def pieceB (prev : Option By) (t : By) : By :=
  if inB t betW && behO prev then [32] ++ t ++ [32]
  else if t = [44] || t = [110, 111, 116] then t ++ [32]
  else shortB t

def prevB (ts : List (By × Nat)) (k : Nat) : Option By := if k = 0 then none else (ts[k - 1]?).map (·.1)

/-- The first k tokens, told. -/
def toldTo (ts : List (By × Nat)) : Nat → By
  | 0 => []
  | k + 1 => toldTo ts k ++ pieceB (prevB ts k) ((ts[k]?).map (·.1) |>.getD [])

theorem shortB_len (t : By) : (shortB t).length ≤ t.length := by
  induction t with
  | nil => simp [shortB]
  | cons c r ih =>
    cases r with
    | nil => simp [shortB]
    | cons d r =>
      unfold shortB
      split
      · simp only [List.length_cons] at ih ⊢
        omega
      · simp

theorem pieceB_len (q : Option By) (t : By) : (pieceB q t).length ≤ t.length + 2 := by
  have := shortB_len t
  unfold pieceB
  split
  · simp
  · split
    · simp
    · omega

theorem toks_len19 (f : Nat) (l : By) (k : Nat) (t : By) (p : Nat) (h : (t, p) ∈ (toks f l k).1) : t.length ≤ 19 := by
  induction f generalizing l k with
  | zero => simp [toks] at h
  | succ f ih =>
    match l with
    | [] => simp [toks] at h
    | c :: r =>
      unfold toks at h
      split at h
      · exact ih _ _ h
      · split at h
        · rename_i hok
          simp only [List.mem_cons, Prod.mk.injEq] at h
          rcases h with ⟨rfl, rfl⟩ | h
          · unfold tokOK at hok
            split at hok
            · simp only [Bool.and_eq_true, decide_eq_true_eq] at hok
              omega
            · split at hok
              · simp only [decide_eq_true_eq] at hok
                omega
              · simp only [inB, signW, List.contains_iff_mem, List.mem_cons, List.not_mem_nil, or_false] at hok
                rcases hok with h | h | h | h | h | h | h | h | h | h <;> rw [h] <;> simp
          · exact ih _ _ h
        · simp at h

theorem toldTo_len (ts : List (By × Nat)) (h : ∀ t p, (t, p) ∈ ts → t.length ≤ 19) (k : Nat) : (toldTo ts k).length ≤ 21 * k := by
  induction k with
  | zero => simp [toldTo]
  | succ k ih =>
    have h1 := pieceB_len (prevB ts k) ((ts[k]?).map (·.1) |>.getD [])
    have h2 : ((ts[k]?).map (·.1) |>.getD []).length ≤ 19 := by
      cases hk : ts[k]? with
      | none => simp
      | some x =>
        obtain ⟨hlt, rfl⟩ := List.getElem?_eq_some_iff.1 hk
        exact h _ _ (List.getElem_mem hlt)
    unfold toldTo
    rw [List.length_append]
    omega

theorem toldTo_succ (ts : List (By × Nat)) (k : Nat) (h : k < ts.length) : toldTo ts (k + 1) = toldTo ts k ++ pieceB (prevB ts k) ts[k].1 := by
  conv => lhs; unfold toldTo
  rw [List.getElem?_eq_getElem h]
  rfl

theorem prevB_zero (ts : List (By × Nat)) : prevB ts 0 = none := rfl
theorem prevB_succ (ts : List (By × Nat)) (k : Nat) (h : k + 1 ≤ ts.length) : prevB ts (k + 1) = some (ts[k]'(by omega)).1 := by
  unfold prevB
  rw [if_neg (by omega)]
  simp [List.getElem?_eq_getElem (show k < ts.length by omega)]

set_option maxRecDepth 100000 in
set_option maxHeartbeats 8000000 in
theorem told11 (ts : List (By × Nat)) (v : Value) (B : Nat) (w : World) (hown : w.ownsRow B 118 2 v ts.length (rcells ts)) (hl : ts.length ≤ 1000)
    (hg : ∀ t p, (t, p) ∈ ts → t ≠ [] ∧ t.length ≤ 19) :
    Calls Tryz.prog 54 #[v] w fun e w' => e = .returned (.string ⟨(toldTo ts ts.length).toArray⟩) ∧ Below w.heap.size w w' := by
  obtain ⟨ao, cap, rfl, hcl⟩ := tslice hown
  have HC := toHid hcl
  have HG := toHid hg
  have HLEN := toHid (fun k => toldTo_len ts (fun t p h => (hg t p h).2) k)
  clear hcl hown hg
  go_enter Tryz.func54, Tryz.ntmps54
  go_wp2
  go_loopw [3, 4] (fun o i wr => ∃ k : Nat, k ≤ ts.length ∧ i = .int .i64 (k : Int) ∧ o = .string ⟨(toldTo ts k).toArray⟩ ∧ Below w.heap.size w wr) (fun _ i _ => ts.length - (intOf i).toNat)
  case atStart => exact ⟨0, Nat.zero_le _, rfl, rfl, Below.refl _ _⟩
  case round =>
    obtain ⟨k, hk, rfl, rfl, hb⟩ := hrel
    have hsz := hb.size
    have hol := HLEN.out k
    by_cases hlt : k < ts.length
    · obtain ⟨g, rfl, hc0, hc1⟩ := HC.out k hlt
      have hc0' := (hb.cell (World.block_lt_of_cell? w _ hc0)).trans hc0
      have hgt := HG.out ts[k].1 ts[k].2 (List.getElem_mem hlt)
      have HS := toHid (toldTo_succ ts k hlt)
      clear hc1
      match k, hlt, hk, hc0', hgt, HS, hol, hc0 with
      | 0, hlt, hk, hc0', hgt, HS, hol, hc0 =>
        rw [prevB_zero] at HS
        clear hc0
        generalize ts[0].1 = t at *
        cases hbt : inB t betW
        · by_cases hcm : t = [44] <;> by_cases hnt : t = [110, 111, 116]
          · subst hcm; simp at hnt
          · have hcmb : (t == [44]) = true := by simp [hcm]
            have HP := toHid (show pieceB none t = t ++ [32] by unfold pieceB; rw [if_neg (by simp [behO])]; simp [hcm])
            clear hcm hnt
            go_wp2_with (first | (go_at_call 77; refine (in20 t betW ⟨wr.heap.size, 0, none⟩ 9 _ (by decide) (fun j h => cells_strs wr betW 9 j h)).mono ?_; rintro e w' ⟨rfl, rfl⟩))
            go_roundw
            case rel => exact ⟨0 + 1, by omega, by go_num, by rw [HS.out, HP.out]; try simp, (hb.alloc hsz _)⟩
            case measure => simp [intOf]; omega
          · have hcmb : (t == [44]) = false := beq_eq_false_iff_ne.2 hcm
            have hntb : (t == [110, 111, 116]) = true := by simp [hnt]
            have HP := toHid (show pieceB none t = t ++ [32] by unfold pieceB; rw [if_neg (by simp [behO])]; simp [hnt])
            clear hcm hnt
            go_wp2_with (first | (go_at_call 77; refine (in20 t betW ⟨wr.heap.size, 0, none⟩ 9 _ (by decide) (fun j h => cells_strs wr betW 9 j h)).mono ?_; rintro e w' ⟨rfl, rfl⟩))
            go_roundw
            case rel => exact ⟨0 + 1, by omega, by go_num, by rw [HS.out, HP.out]; try simp, (hb.alloc hsz _)⟩
            case measure => simp [intOf]; omega
          · have hcmb : (t == [44]) = false := beq_eq_false_iff_ne.2 hcm
            have hntb : (t == [110, 111, 116]) = false := beq_eq_false_iff_ne.2 hnt
            have HP := toHid (show pieceB none t = shortB t by unfold pieceB; rw [if_neg (by simp [behO])]; simp [hcm, hnt])
            have hshl := shortB_len t
            clear hcm hnt
            go_wp2_with (first | (go_at_call 77; refine (in20 t betW ⟨wr.heap.size, 0, none⟩ 9 _ (by decide) (fun j h => cells_strs wr betW 9 j h)).mono ?_; rintro e w' ⟨rfl, rfl⟩) | (go_at_call 79; refine (short22 t _ (by omega)).mono ?_; rintro e w' ⟨rfl, rfl⟩))
            go_roundw
            case rel => exact ⟨0 + 1, by omega, by go_num, by rw [HS.out, HP.out]; try simp, (hb.alloc hsz _)⟩
            case measure => simp [intOf]; omega
        · by_cases hcm : t = [44] <;> by_cases hnt : t = [110, 111, 116]
          · subst hcm; simp at hnt
          · have hcmb : (t == [44]) = true := by simp [hcm]
            have HP := toHid (show pieceB none t = t ++ [32] by unfold pieceB; rw [if_neg (by simp [behO])]; simp [hcm])
            clear hcm hnt
            go_wp2_with (first | (go_at_call 77; refine (in20 t betW ⟨wr.heap.size, 0, none⟩ 9 _ (by decide) (fun j h => cells_strs wr betW 9 j h)).mono ?_; rintro e w' ⟨rfl, rfl⟩))
            go_roundw
            case rel => exact ⟨0 + 1, by omega, by go_num, by rw [HS.out, HP.out]; try simp, (hb.alloc hsz _)⟩
            case measure => simp [intOf]; omega
          · have hcmb : (t == [44]) = false := beq_eq_false_iff_ne.2 hcm
            have hntb : (t == [110, 111, 116]) = true := by simp [hnt]
            have HP := toHid (show pieceB none t = t ++ [32] by unfold pieceB; rw [if_neg (by simp [behO])]; simp [hnt])
            clear hcm hnt
            go_wp2_with (first | (go_at_call 77; refine (in20 t betW ⟨wr.heap.size, 0, none⟩ 9 _ (by decide) (fun j h => cells_strs wr betW 9 j h)).mono ?_; rintro e w' ⟨rfl, rfl⟩))
            go_roundw
            case rel => exact ⟨0 + 1, by omega, by go_num, by rw [HS.out, HP.out]; try simp, (hb.alloc hsz _)⟩
            case measure => simp [intOf]; omega
          · have hcmb : (t == [44]) = false := beq_eq_false_iff_ne.2 hcm
            have hntb : (t == [110, 111, 116]) = false := beq_eq_false_iff_ne.2 hnt
            have HP := toHid (show pieceB none t = shortB t by unfold pieceB; rw [if_neg (by simp [behO])]; simp [hcm, hnt])
            have hshl := shortB_len t
            clear hcm hnt
            go_wp2_with (first | (go_at_call 77; refine (in20 t betW ⟨wr.heap.size, 0, none⟩ 9 _ (by decide) (fun j h => cells_strs wr betW 9 j h)).mono ?_; rintro e w' ⟨rfl, rfl⟩) | (go_at_call 79; refine (short22 t _ (by omega)).mono ?_; rintro e w' ⟨rfl, rfl⟩))
            go_roundw
            case rel => exact ⟨0 + 1, by omega, by go_num, by rw [HS.out, HP.out]; try simp, (hb.alloc hsz _)⟩
            case measure => simp [intOf]; omega
      | k + 1, hlt, hk, hc0', hgt, HS, hol, hc0 =>
        obtain ⟨g', hgg, hq0, _⟩ := HC.out k (by omega)
        obtain rfl : g = g' := by simpa using hgg
        have hq0' := (hb.cell (World.block_lt_of_cell? w _ hq0)).trans hq0
        have hgl : g < wr.heap.size := World.block_lt_of_cell? wr _ hq0'
        have HQ := toHid (HG.out (ts[k]'(by omega)).1 (ts[k]'(by omega)).2 (List.getElem_mem (by omega))).1
        rw [prevB_succ ts k (by omega)] at HS
        clear hc0 hq0 hgg
        generalize (ts[k]'(by omega)).1 = q at *
        generalize ts[k + 1].1 = t at *
        cases hbt : inB t betW
        · by_cases hcm : t = [44] <;> by_cases hnt : t = [110, 111, 116]
          · subst hcm; simp at hnt
          · have hcmb : (t == [44]) = true := by simp [hcm]
            have HP := toHid (show pieceB (some q) t = t ++ [32] by unfold pieceB; rw [if_neg (by simp [hbt])]; simp [hcm])
            clear hcm hnt
            go_wp2_with (first | (go_at_call 77; refine (in20 t betW ⟨wr.heap.size, 0, none⟩ 9 _ (by decide) (fun j h => cells_strs wr betW 9 j h)).mono ?_; rintro e w' ⟨rfl, rfl⟩) | (go_at_call 78; refine (behind21 q _ HQ.out).mono ?_; rintro e w2 ⟨rfl, hb2⟩))
            go_roundw
            case rel => exact ⟨k + 1 + 1, by omega, by go_num, by rw [HS.out, HP.out]; try simp, ((hb.alloc hsz _).trans (hb2.mono (by simp; omega)))⟩
            case measure => simp [intOf]; omega
          · have hcmb : (t == [44]) = false := beq_eq_false_iff_ne.2 hcm
            have hntb : (t == [110, 111, 116]) = true := by simp [hnt]
            have HP := toHid (show pieceB (some q) t = t ++ [32] by unfold pieceB; rw [if_neg (by simp [hbt])]; simp [hnt])
            clear hcm hnt
            go_wp2_with (first | (go_at_call 77; refine (in20 t betW ⟨wr.heap.size, 0, none⟩ 9 _ (by decide) (fun j h => cells_strs wr betW 9 j h)).mono ?_; rintro e w' ⟨rfl, rfl⟩) | (go_at_call 78; refine (behind21 q _ HQ.out).mono ?_; rintro e w2 ⟨rfl, hb2⟩))
            go_roundw
            case rel => exact ⟨k + 1 + 1, by omega, by go_num, by rw [HS.out, HP.out]; try simp, ((hb.alloc hsz _).trans (hb2.mono (by simp; omega)))⟩
            case measure => simp [intOf]; omega
          · have hcmb : (t == [44]) = false := beq_eq_false_iff_ne.2 hcm
            have hntb : (t == [110, 111, 116]) = false := beq_eq_false_iff_ne.2 hnt
            have HP := toHid (show pieceB (some q) t = shortB t by unfold pieceB; rw [if_neg (by simp [hbt])]; simp [hcm, hnt])
            have hshl := shortB_len t
            clear hcm hnt
            go_wp2_with (first | (go_at_call 77; refine (in20 t betW ⟨wr.heap.size, 0, none⟩ 9 _ (by decide) (fun j h => cells_strs wr betW 9 j h)).mono ?_; rintro e w' ⟨rfl, rfl⟩) | (go_at_call 78; refine (behind21 q _ HQ.out).mono ?_; rintro e w2 ⟨rfl, hb2⟩) | (go_at_call 79; refine (short22 t _ (by omega)).mono ?_; rintro e w' ⟨rfl, rfl⟩))
            go_roundw
            case rel => exact ⟨k + 1 + 1, by omega, by go_num, by rw [HS.out, HP.out]; try simp, ((hb.alloc hsz _).trans (hb2.mono (by simp; omega)))⟩
            case measure => simp [intOf]; omega
        · cases hbh : behB q
          · by_cases hcm : t = [44] <;> by_cases hnt : t = [110, 111, 116]
            · subst hcm; simp at hnt
            · have hcmb : (t == [44]) = true := by simp [hcm]
              have HP := toHid (show pieceB (some q) t = t ++ [32] by unfold pieceB; rw [if_neg (by simp [behO, hbh])]; simp [hcm])
              clear hcm hnt
              go_wp2_with (first | (go_at_call 77; refine (in20 t betW ⟨wr.heap.size, 0, none⟩ 9 _ (by decide) (fun j h => cells_strs wr betW 9 j h)).mono ?_; rintro e w' ⟨rfl, rfl⟩) | (go_at_call 78; refine (behind21 q _ HQ.out).mono ?_; rintro e w2 ⟨rfl, hb2⟩))
              go_roundw
              case rel => exact ⟨k + 1 + 1, by omega, by go_num, by rw [HS.out, HP.out]; try simp, ((hb.alloc hsz _).trans (hb2.mono (by simp; omega)))⟩
              case measure => simp [intOf]; omega
            · have hcmb : (t == [44]) = false := beq_eq_false_iff_ne.2 hcm
              have hntb : (t == [110, 111, 116]) = true := by simp [hnt]
              have HP := toHid (show pieceB (some q) t = t ++ [32] by unfold pieceB; rw [if_neg (by simp [behO, hbh])]; simp [hnt])
              clear hcm hnt
              go_wp2_with (first | (go_at_call 77; refine (in20 t betW ⟨wr.heap.size, 0, none⟩ 9 _ (by decide) (fun j h => cells_strs wr betW 9 j h)).mono ?_; rintro e w' ⟨rfl, rfl⟩) | (go_at_call 78; refine (behind21 q _ HQ.out).mono ?_; rintro e w2 ⟨rfl, hb2⟩))
              go_roundw
              case rel => exact ⟨k + 1 + 1, by omega, by go_num, by rw [HS.out, HP.out]; try simp, ((hb.alloc hsz _).trans (hb2.mono (by simp; omega)))⟩
              case measure => simp [intOf]; omega
            · have hcmb : (t == [44]) = false := beq_eq_false_iff_ne.2 hcm
              have hntb : (t == [110, 111, 116]) = false := beq_eq_false_iff_ne.2 hnt
              have HP := toHid (show pieceB (some q) t = shortB t by unfold pieceB; rw [if_neg (by simp [behO, hbh])]; simp [hcm, hnt])
              have hshl := shortB_len t
              clear hcm hnt
              go_wp2_with (first | (go_at_call 77; refine (in20 t betW ⟨wr.heap.size, 0, none⟩ 9 _ (by decide) (fun j h => cells_strs wr betW 9 j h)).mono ?_; rintro e w' ⟨rfl, rfl⟩) | (go_at_call 78; refine (behind21 q _ HQ.out).mono ?_; rintro e w2 ⟨rfl, hb2⟩) | (go_at_call 79; refine (short22 t _ (by omega)).mono ?_; rintro e w' ⟨rfl, rfl⟩))
              go_roundw
              case rel => exact ⟨k + 1 + 1, by omega, by go_num, by rw [HS.out, HP.out]; try simp, ((hb.alloc hsz _).trans (hb2.mono (by simp; omega)))⟩
              case measure => simp [intOf]; omega
          · have HP := toHid (show pieceB (some q) t = [32] ++ t ++ [32] by unfold pieceB; rw [if_pos (by simp [behO, hbt, hbh])])
            go_wp2_with (first | (go_at_call 77; refine (in20 t betW ⟨wr.heap.size, 0, none⟩ 9 _ (by decide) (fun j h => cells_strs wr betW 9 j h)).mono ?_; rintro e w' ⟨rfl, rfl⟩) | (go_at_call 78; refine (behind21 q _ HQ.out).mono ?_; rintro e w2 ⟨rfl, hb2⟩))
            go_roundw
            case rel => exact ⟨k + 1 + 1, by omega, by go_num, by rw [HS.out, HP.out]; try simp, ((hb.alloc hsz _).trans (hb2.mono (by simp; omega)))⟩
            case measure => simp [intOf]; omega
    · obtain rfl : k = ts.length := by omega
      go_wp2
      go_ret
      exact ⟨rfl, hb⟩
end Go.Proofs.YtihgojcfpnhelaaGreatDoor
