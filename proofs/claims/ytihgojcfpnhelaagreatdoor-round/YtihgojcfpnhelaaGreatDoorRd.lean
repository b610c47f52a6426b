import Derived.Test.YtihgojcfpnhelaaGreatDoorRb
set_option linter.unusedVariables false
set_option linter.unusedSimpArgs false
namespace Go.Proofs.YtihgojcfpnhelaaGreatDoor
open Go.RowKit

theorem toks_num (m : Nat) (hm : m ≤ top63) : toks ((Lib.decDigits m).length + 2) (Lib.decDigits m) 8 = ([(Lib.decDigits m, 8)], none) := by
  obtain ⟨c, r, hd, h32, hA, hok, _, _, _, _⟩ := num_tok m hm
  rw [hd]
  have := toks_to ((c :: r).length + 1) c r [] 8 h32 (rowLen_D' c r hA [] (Or.inl rfl)) hok
  rw [toks_nil, List.append_nil] at this
  exact this

theorem toks_neg (m : Nat) (hm : m ≤ top63) : toks ((45 :: (Lib.decDigits m ++ [32, 45, 32, 49])).length + 2) (45 :: (Lib.decDigits m ++ [32, 45, 32, 49])) 8 = ([([45], 8), (Lib.decDigits m, 9), ([45], 10 + (Lib.decDigits m).length), ([49], 12 + (Lib.decDigits m).length)], none) := by
  obtain ⟨c, r, hd, h32, hA, hok, _, _, _, _⟩ := num_tok m hm
  rw [hd]
  have e0 : (45 :: (c :: r ++ [32, 45, 32, 49])).length + 2 = ((c :: r).length + 6) + 1 := by simp
  have e1 : (45 :: (c :: r ++ [32, 45, 32, 49]) : By) = [45] ++ (c :: r ++ ([32, 45, 32, 49] : By)) := rfl
  rw [e0, e1, toks_to ((c :: r).length + 6) 45 [] (c :: r ++ [32, 45, 32, 49]) 8 (by decide) (by simp [rowLen, show isL 45 = false from by decide, show isD 45 = false from by decide]) (by decide)]
  rw [show (c :: r).length + 6 = ((c :: r).length + 5) + 1 by omega, toks_to ((c :: r).length + 5) c r [32, 45, 32, 49] _ h32 (rowLen_D' c r hA _ (Or.inr ⟨_, rfl⟩)) hok]
  rw [show (c :: r).length + 5 = ((c :: r).length + 4) + 1 by omega, toks_sp, show (c :: r).length + 4 = ((c :: r).length + 3) + 1 by omega]
  have e2 : ([45, 32, 49] : By) = [45] ++ [32, 49] := rfl
  rw [e2, toks_to ((c :: r).length + 3) 45 [] [32, 49] _ (by decide) (by decide) (by decide)]
  rw [show (c :: r).length + 3 = ((c :: r).length + 2) + 1 by omega, toks_sp, show (c :: r).length + 2 = ((c :: r).length + 1) + 1 by omega]
  have e3 : ([49] : By) = [49] ++ [] := rfl
  rw [e3, toks_to ((c :: r).length + 1) 49 [] [] _ (by decide) (by decide) (by decide), toks_nil]
  simp
  omega

def setB (a : Int) : By := if 0 ≤ a then Lib.decDigits a.toNat else 45 :: (Lib.decDigits (-(a + 1)).toNat ++ [32, 45, 32, 49])
def setP (a : Int) : Pt := if 0 ≤ a then .atom 1 [] a.toNat else .bin 13 (.un 14 (.atom 1 [] (-(a + 1)).toNat)) (.atom 1 [] 1)
def setT (a : Int) : List (By × Nat) := if 0 ≤ a then [(Lib.decDigits a.toNat, 8)] else [([45], 8), (Lib.decDigits (-(a + 1)).toNat, 9), ([45], 10 + (Lib.decDigits (-(a + 1)).toNat).length), ([49], 12 + (Lib.decDigits (-(a + 1)).toNat).length)]

theorem set26 (a : Int) (h0 : -9223372036854775808 ≤ a) (h1 : a ≤ 9223372036854775807) (w : World) (hE : Env w) :
    Calls Tryz.prog 27 #[.int .i64 a] w fun e w' => e = .returned (.string ⟨(setB a).toArray⟩) ∧ Below w.heap.size w w' := by
  unfold setB
  split
  · have := setPos a.toNat (by unfold top63; omega) w hE
    rw [show ((a.toNat : Nat) : Int) = a by omega] at this
    exact this
  · have := setNeg (-(a + 1)).toNat (by unfold top63; omega) w hE
    rw [show (-(((-(a + 1)).toNat : Nat) : Int) - 1) = a by omega] at this
    exact this

theorem setT_ok (a : Int) (h0 : -9223372036854775808 ≤ a) (h1 : a ≤ 9223372036854775807) : toks ((setB a).length + 2) (setB a) 8 = (setT a, none) ∧ Der (setT a) 1 0 (setT a).length (setP a) ∧ opn (setP a) ≤ 6 ∧ (setB a).length ≤ 30 ∧ (∀ z, mentP z (setP a) = false) ∧ (∀ ρ, valP ρ (setP a) = (1, a)) ∧ (txt (setP a)).length ≤ 100 := by
  unfold setB setT setP
  split
  · have hm : a.toNat ≤ top63 := by unfold top63; omega
    obtain ⟨c, r, hd, _, _, _, hcls, hnm, hnu, hlen⟩ := num_tok a.toNat hm
    refine ⟨toks_num _ hm, ?_, by simp [opn], by rw [hd]; omega, fun z => by simp [mentP], fun ρ => by simp [valP]; omega, ?_⟩
    · rw [hd]
      have : Der [(c :: r, 8)] 6 0 1 (.atom 1 (nmB (c :: r)) (nuB (c :: r))) := .atom 0 1 (by simp) hcls (by omega)
      rw [hnm, hnu] at this
      exact this.at6 1 (by omega) (by omega)
    · simp [txt, ahd, ahdW, btw, btwW, bhd, bhdW, jn, numT, hd]
      simpa using (show (c :: r).length ≤ 100 by omega)
  · have hm : (-(a + 1)).toNat ≤ top63 := by unfold top63; omega
    obtain ⟨c, r, hd, _, _, _, hcls, hnm, hnu, hlen⟩ := num_tok (-(a + 1)).toNat hm
    refine ⟨toks_neg _ hm, ?_, by simp [opn], by rw [hd]; simp at hlen ⊢; omega, fun z => by simp [mentP], fun ρ => ?_, ?_⟩
    · rw [hd]
      have h1 : Der [([45], 8), (c :: r, 9), ([45], 10 + (c :: r).length), ([49], 12 + (c :: r).length)] 6 1 2 (.atom 1 (nmB (c :: r)) (nuB (c :: r))) := .atom 1 1 (by simp) hcls (by omega)
      rw [hnm, hnu] at h1
      have h2 : Der [([45], 8), (c :: r, 9), ([45], 10 + (c :: r).length), ([49], 12 + (c :: r).length)] 6 3 4 (.atom 1 (nmB [49]) (nuB [49])) := .atom 3 1 (by simp) (Or.inl ⟨(show headD ([49] : By) = true by decide), rfl⟩) (by omega)
      exact Der.two (n := 4) (j := 2) (by omega) (by omega) (.neg 0 2 _ rfl h1) (show inB ([45] : By) (sgn 4) = true by decide) (show Cls ([45] : By) 13 from Or.inr (Or.inr (Or.inr (by decide)))) h2
    · have hw1 : wrap64 (-(((-(a + 1)).toNat : Nat) : Int)) = a + 1 := by unfold wrap64; omega
      have hw2 : wrap64 (a + 1 - 1) = a := by unfold wrap64; omega
      have e1 : valP ρ (.un 14 (.atom 1 [] (-(a + 1)).toNat)) = (1, a + 1) := by
        show vMinus (vOnly 1 (1, (((-(a + 1)).toNat : Nat) : Int))) = _
        unfold vOnly
        rw [if_neg (by simp)]
        unfold vMinus
        rw [if_neg (by simp)]
        exact congrArg (fun z => ((1 : Int), z)) hw1
      have e2 : valP ρ (.atom 1 [] 1) = (1, 1) := by simp [valP]
      have e3 : valP ρ (.bin 13 (.un 14 (.atom 1 [] (-(a + 1)).toNat)) (.atom 1 [] 1)) = vTwo 13 (1, a + 1) (1, 1) := by
        rw [← e1, ← e2]
        rfl
      rw [e3]
      show ((1 : Int), wrap64 (a + 1 - 1)) = (1, a)
      rw [hw2]
    · have : (txt (.bin 13 (.un 14 (.atom 1 [] (-(a + 1)).toNat)) (.atom 1 [] 1))).length = (c :: r).length + 5 := by
        rw [show txt (.bin 13 (.un 14 (.atom 1 [] (-(a + 1)).toNat)) (.atom 1 [] 1)) = [45] ++ Lib.decDigits (-(a + 1)).toNat ++ [32, 45, 32] ++ Lib.decDigits 1 by simp [txt, ahd, ahdW, btw, btwW, bhd, bhdW, jn, numT]]
        rw [hd, show Lib.decDigits 1 = [49] by rw [Lib.decDigits]; rfl]
        simp
      omega

section
variable {Ed : World → Nat → List Fd → Prop}

/-- A field that is set to a number. -/
theorem does_num (C : EdC Ed) (e : Nat) (fs : List Fd) (nm : UInt8) (a : Int) (h0 : -9223372036854775808 ≤ a) (h1 : a ≤ 9223372036854775807) (hnm : isL nm = true) (hl : fs.length < 10) (hok : ∀ f, f ∈ fs → mentP [nm] f.p = false) (hnew : ∀ f, f ∈ fs → f.nm ≠ [nm]) (w : World) (hE : Ed w e fs) :
    Calls Tryz.prog 19 #[.pointer (some ⟨e, 0, none⟩), .string ⟨(setL nm (setB a)).toArray⟩] w fun r w' => r = .returned (.bool true) ∧ Ed w' e (fs ++ [⟨[nm], setP a, (1, a)⟩]) := by
  obtain ⟨t1, t2, t3, t4, t5, t6, t7⟩ := setT_ok a h0 h1
  refine does_ok e _ w (fun w' => Ed w' e (fs ++ [⟨[nm], setP a, (1, a)⟩])) (fun w1 w2 h hb => C.next _ _ _ _ h hb) ?_
  have := C.set w e fs nm (setB a) _ (setP a) hE hnm hl (by omega) t1 t2 t3 t7 hnew hok (t5 _)
  rw [t6] at this
  exact this

/-- `n`, which is set to `-a`. -/
theorem does_minus (C : EdC Ed) (e : Nat) (fs : List Fd) (a : Int) (hl : fs.length < 10) (hok : OkR fs) (hnew : ∀ f, f ∈ fs → f.nm ≠ [110]) (ha : rhoF fs [97] = (1, a)) (w : World) (hE : Ed w e fs) :
    Calls Tryz.prog 19 #[.pointer (some ⟨e, 0, none⟩), .string ⟨(setL 110 [45, 97]).toArray⟩] w fun r w' => r = .returned (.bool true) ∧ Ed w' e (fs ++ [⟨[110], .un 14 vx, (1, wrap64 (-a))⟩]) := by
  refine does_ok e _ w (fun w' => Ed w' e (fs ++ [⟨[110], .un 14 vx, (1, wrap64 (-a))⟩])) (fun w1 w2 h hb => C.next _ _ _ _ h hb) ?_
  have hd : Der [([45], 8), ([97], 9)] 1 0 2 (.un 14 vx) := Der.at6 (.neg 0 2 vx rfl (show Der [([45], 8), ([97], 9)] 6 1 2 vx from .atom 1 2 (by simp) cls_a (by omega))) 1 (by omega) (by omega)
  have := C.set w e fs 110 [45, 97] _ (.un 14 vx) hE (by decide) hl (by simp) (by kernel_rfl) hd (by decide) (by decide) hnew (fun f hf => hok f hf _ (by decide) (by decide)) (by decide)
  have hv : valP (rhoF fs) (.un 14 vx) = (1, wrap64 (-a)) := by
    show vMinus (vOnly 1 (rhoF fs [97])) = _
    rw [ha]
    unfold vOnly
    rw [if_neg (by simp)]
    unfold vMinus
    rw [if_neg (by simp)]
  rw [hv] at this
  exact this
end
end Go.Proofs.YtihgojcfpnhelaaGreatDoor
namespace Go.Proofs.YtihgojcfpnhelaaGreatDoor
open Go.RowKit
attribute [local go_sem] idx_eq app_eq

def rlet (k : Nat) : UInt8 := match k with | 0 => 97 | 1 => 98 | 2 => 115 | 3 => 100 | 4 => 109 | 5 => 113 | 6 => 114 | 7 => 110 | 8 => 108 | _ => 103
def fld (a b : Int) (k : Nat) : Fd := match k with
  | 0 => ⟨[97], setP a, (1, a)⟩
  | 1 => ⟨[98], setP b, (1, b)⟩
  | 2 => ⟨[115], .bin 12 vx vy, vInts 12 a b⟩
  | 3 => ⟨[100], .bin 13 vx vy, vInts 13 a b⟩
  | 4 => ⟨[109], .bin 15 vx vy, vInts 15 a b⟩
  | 5 => ⟨[113], .bin 16 vx vy, vInts 16 a b⟩
  | 6 => ⟨[114], .bin 17 vx vy, vInts 17 a b⟩
  | 7 => ⟨[110], .un 14 vx, (1, wrap64 (-a))⟩
  | 8 => ⟨[108], .bin 19 vx vy, vInts 19 a b⟩
  | _ => ⟨[103], .bin 18 vx vy, vInts 18 a b⟩
def RF (a b : Int) : Nat → List Fd
  | 0 => []
  | k + 1 => RF a b k ++ [fld a b k]

theorem RF_mem {a b : Int} : ∀ {k : Nat} {f : Fd}, f ∈ RF a b k → ∃ j, j < k ∧ f = fld a b j
  | 0, f, h => by simp [RF] at h
  | k + 1, f, h => by
    rcases List.mem_append.1 h with h | h
    · obtain ⟨j, hj, e⟩ := RF_mem h
      exact ⟨j, by omega, e⟩
    · exact ⟨k, by omega, List.mem_singleton.1 h⟩
theorem RF_len (a b : Int) : ∀ k, (RF a b k).length = k
  | 0 => rfl
  | k + 1 => by simp [RF, RF_len a b k]
theorem fld_nm (a b : Int) (k : Nat) (h : k < 10) : (fld a b k).nm = [rlet k] := by
  rcases (show k = 0 ∨ k = 1 ∨ k = 2 ∨ k = 3 ∨ k = 4 ∨ k = 5 ∨ k = 6 ∨ k = 7 ∨ k = 8 ∨ k = 9 by omega) with rfl | rfl | rfl | rfl | rfl | rfl | rfl | rfl | rfl | rfl <;> rfl
theorem rlet_ne : ∀ k, k < 10 → ∀ j, j < k → rlet j ≠ rlet k := by decide
theorem RF_new (a b : Int) (k : Nat) (h : k < 10) : ∀ f, f ∈ RF a b k → f.nm ≠ [rlet k] := fun f hf => by
  obtain ⟨j, hj, rfl⟩ := RF_mem hf
  rw [fld_nm a b j (by omega)]
  intro e
  exact rlet_ne k h j hj (by simpa using e)

section
variable {Ed : World → Nat → List Fd → Prop} (a b : Int) (h0 : -9223372036854775808 ≤ a) (h1 : a ≤ 9223372036854775807) (g0 : -9223372036854775808 ≤ b) (g1 : b ≤ 9223372036854775807)

theorem fld_ok (k : Nat) (z : By) (hz1 : z ≠ [97]) (hz2 : z ≠ [98]) (h0 : -9223372036854775808 ≤ a) (h1 : a ≤ 9223372036854775807) (g0 : -9223372036854775808 ≤ b) (g1 : b ≤ 9223372036854775807) : mentP z (fld a b k).p = false := by
  unfold fld
  split
  · exact (setT_ok a h0 h1).2.2.2.2.1 z
  · exact (setT_ok b g0 g1).2.2.2.2.1 z
  all_goals first | exact ment_ab z _ (by decide) hz1 hz2 | (simp [mentP, vx, Ne.symm hz1])

theorem RF_ok (k : Nat) (h0 : -9223372036854775808 ≤ a) (h1 : a ≤ 9223372036854775807) (g0 : -9223372036854775808 ≤ b) (g1 : b ≤ 9223372036854775807) : OkR (RF a b k) := fun f hf z hz1 hz2 => by
  obtain ⟨j, _, rfl⟩ := RF_mem hf
  exact fld_ok a b j z hz1 hz2 h0 h1 g0 g1

/-- What the k-th line does. -/
def DoesK (Ed : World → Nat → List Fd → Prop) (a b : Int) (k : Nat) (s : By) : Prop := ∀ W e, Ed W e (RF a b k) → Calls Tryz.prog 19 #[.pointer (some ⟨e, 0, none⟩), .string ⟨s.toArray⟩] W fun r w' => r = .returned (.bool true) ∧ Ed w' e (RF a b (k + 1))

theorem does0 (C : EdC Ed) (h0 : -9223372036854775808 ≤ a) (h1 : a ≤ 9223372036854775807) : DoesK Ed a b 0 (115 :: 101 :: 116 :: 32 :: 97 :: 32 :: 61 :: 32 :: setB a) := fun W e hE => does_num C e [] 97 a h0 h1 (by decide) (by simp) (fun f hf => by simp at hf) (fun f hf => by simp at hf) W hE
theorem does1 (C : EdC Ed) (h0 : -9223372036854775808 ≤ a) (h1 : a ≤ 9223372036854775807) (g0 : -9223372036854775808 ≤ b) (g1 : b ≤ 9223372036854775807) : DoesK Ed a b 1 (115 :: 101 :: 116 :: 32 :: 98 :: 32 :: 61 :: 32 :: setB b) := fun W e hE => does_num C e (RF a b 1) 98 b g0 g1 (by decide) (by rw [RF_len]; omega) (fun f hf => by
  obtain ⟨j, hj, rfl⟩ := RF_mem hf
  obtain rfl : j = 0 := by omega
  exact (setT_ok a h0 h1).2.2.2.2.1 _) (RF_new a b 1 (by omega)) W hE
theorem does2 (C : EdC Ed) (h0 : -9223372036854775808 ≤ a) (h1 : a ≤ 9223372036854775807) (g0 : -9223372036854775808 ≤ b) (g1 : b ≤ 9223372036854775807) : DoesK Ed a b 2 [115, 101, 116, 32, 115, 32, 61, 32, 97, 32, 43, 32, 98] := fun W e hE => does_ab C e (RF a b 2) 115 43 12 4 a b (by decide) (by decide) (by decide) (by omega) (by omega) (by decide) (Or.inr (Or.inr (Or.inr (by decide)))) (by decide) (by kernel_rfl) (by decide) (by rw [RF_len]; omega) (RF_ok a b 2 h0 h1 g0 g1) (RF_new a b 2 (by omega)) rfl rfl W hE
theorem does3 (C : EdC Ed) (h0 : -9223372036854775808 ≤ a) (h1 : a ≤ 9223372036854775807) (g0 : -9223372036854775808 ≤ b) (g1 : b ≤ 9223372036854775807) : DoesK Ed a b 3 [115, 101, 116, 32, 100, 32, 61, 32, 97, 32, 45, 32, 98] := fun W e hE => does_ab C e (RF a b 3) 100 45 13 4 a b (by decide) (by decide) (by decide) (by omega) (by omega) (by decide) (Or.inr (Or.inr (Or.inr (by decide)))) (by decide) (by kernel_rfl) (by decide) (by rw [RF_len]; omega) (RF_ok a b 3 h0 h1 g0 g1) (RF_new a b 3 (by omega)) rfl rfl W hE
theorem does4 (C : EdC Ed) (h0 : -9223372036854775808 ≤ a) (h1 : a ≤ 9223372036854775807) (g0 : -9223372036854775808 ≤ b) (g1 : b ≤ 9223372036854775807) : DoesK Ed a b 4 [115, 101, 116, 32, 109, 32, 61, 32, 97, 32, 42, 32, 98] := fun W e hE => does_ab C e (RF a b 4) 109 42 15 5 a b (by decide) (by decide) (by decide) (by omega) (by omega) (by decide) (Or.inr (Or.inr (Or.inr (by decide)))) (by decide) (by kernel_rfl) (by decide) (by rw [RF_len]; omega) (RF_ok a b 4 h0 h1 g0 g1) (RF_new a b 4 (by omega)) rfl rfl W hE
theorem does5 (C : EdC Ed) (h0 : -9223372036854775808 ≤ a) (h1 : a ≤ 9223372036854775807) (g0 : -9223372036854775808 ≤ b) (g1 : b ≤ 9223372036854775807) : DoesK Ed a b 5 [115, 101, 116, 32, 113, 32, 61, 32, 97, 32, 47, 32, 98] := fun W e hE => does_ab C e (RF a b 5) 113 47 16 5 a b (by decide) (by decide) (by decide) (by omega) (by omega) (by decide) (Or.inr (Or.inr (Or.inr (by decide)))) (by decide) (by kernel_rfl) (by decide) (by rw [RF_len]; omega) (RF_ok a b 5 h0 h1 g0 g1) (RF_new a b 5 (by omega)) rfl rfl W hE
theorem does6 (C : EdC Ed) (h0 : -9223372036854775808 ≤ a) (h1 : a ≤ 9223372036854775807) (g0 : -9223372036854775808 ≤ b) (g1 : b ≤ 9223372036854775807) : DoesK Ed a b 6 [115, 101, 116, 32, 114, 32, 61, 32, 97, 32, 37, 32, 98] := fun W e hE => does_ab C e (RF a b 6) 114 37 17 5 a b (by decide) (by decide) (by decide) (by omega) (by omega) (by decide) (Or.inr (Or.inr (Or.inr (by decide)))) (by decide) (by kernel_rfl) (by decide) (by rw [RF_len]; omega) (RF_ok a b 6 h0 h1 g0 g1) (RF_new a b 6 (by omega)) rfl rfl W hE
theorem does7 (C : EdC Ed) (h0 : -9223372036854775808 ≤ a) (h1 : a ≤ 9223372036854775807) (g0 : -9223372036854775808 ≤ b) (g1 : b ≤ 9223372036854775807) : DoesK Ed a b 7 [115, 101, 116, 32, 110, 32, 61, 32, 45, 97] := fun W e hE => does_minus C e (RF a b 7) a (by rw [RF_len]; omega) (RF_ok a b 7 h0 h1 g0 g1) (RF_new a b 7 (by omega)) rfl W hE
theorem does8 (C : EdC Ed) (h0 : -9223372036854775808 ≤ a) (h1 : a ≤ 9223372036854775807) (g0 : -9223372036854775808 ≤ b) (g1 : b ≤ 9223372036854775807) : DoesK Ed a b 8 [115, 101, 116, 32, 108, 32, 61, 32, 97, 32, 60, 32, 98] := fun W e hE => does_ab C e (RF a b 8) 108 60 19 3 a b (by decide) (by decide) (by decide) (by omega) (by omega) (by decide) (Or.inr (Or.inr (Or.inr (by decide)))) (by decide) (by kernel_rfl) (by decide) (by rw [RF_len]; omega) (RF_ok a b 8 h0 h1 g0 g1) (RF_new a b 8 (by omega)) rfl rfl W hE
theorem does9 (C : EdC Ed) (h0 : -9223372036854775808 ≤ a) (h1 : a ≤ 9223372036854775807) (g0 : -9223372036854775808 ≤ b) (g1 : b ≤ 9223372036854775807) : DoesK Ed a b 9 [115, 101, 116, 32, 103, 32, 61, 32, 97, 32, 61, 32, 98] := fun W e hE => does_ab C e (RF a b 9) 103 61 18 3 a b (by decide) (by decide) (by decide) (by omega) (by omega) (by decide) (Or.inr (Or.inr (Or.inr (by decide)))) (by decide) (by kernel_rfl) (by decide) (by rw [RF_len]; omega) (RF_ok a b 9 h0 h1 g0 g1) (RF_new a b 9 (by omega)) rfl rfl W hE

/-- What a field of the row is worth. -/
theorem worthK (C : EdC Ed) (k : Nat) (hk : k < 10) (W : World) (e : Nat) (hE : Ed W e (RF a b 10)) : Calls Tryz.prog 24 #[.pointer (some ⟨e, 0, none⟩), .string ⟨([rlet k] : By).toArray⟩] W fun r w' => r = .returned (.tuple #[.int .i64 (fld a b k).v.1, .int .i64 (fld a b k).v.2]) ∧ Ed w' e (RF a b 10) := by
  refine worth_of C e (RF a b 10) (rlet k) (fld a b k) ?_ ?_ W hE
  · revert k; decide
  · rcases (show k = 0 ∨ k = 1 ∨ k = 2 ∨ k = 3 ∨ k = 4 ∨ k = 5 ∨ k = 6 ∨ k = 7 ∨ k = 8 ∨ k = 9 by omega) with rfl | rfl | rfl | rfl | rfl | rfl | rfl | rfl | rfl | rfl <;> rfl
end
end Go.Proofs.YtihgojcfpnhelaaGreatDoor
