import Derived.Test.YtihgojcfpnhelaaGreatDoorKe
import Derived.Test.YtihgojcfpnhelaaGreatDoorLd
import Derived.Deep.LoopGhost
import Derived.Test.YtihgojcfpnhelaaGreatDoorMq
set_option linter.unusedVariables false
set_option linter.unusedSimpArgs false
namespace Go.Proofs.YtihgojcfpnhelaaGreatDoor
open Go.RowKit
attribute [local go_sem] idx_eq app_eq

def prevO (s : By) (i : Nat) : Option UInt8 := if i = 0 then none else s[i - 1]?

/-- The loop's state: i bytes have been told. -/
structure OdI (s r0 : By) (b : Nat) (w wr : World) (i : Nat) (o r : By) : Prop where
  eq : oddB none s r0 = (o ++ (oddB (prevO s i) (s.drop i) r).1, (oddB (prevO s i) (s.drop i) r).2)
  feed : FeedAt wr b r
  keep : KeepB b w wr

theorem OdI.step {s r0 : By} {b : Nat} {w wr wr' : World} {i : Nat} {o r : By} (h : OdI s r0 b w wr i o r) (hlt : i < s.length) (c : UInt8) (hc : s[i]'hlt = c) (z r' : By)
    (hz : oddB (prevO s i) (c :: s.drop (i + 1)) r = (z ++ (oddB (some c) (s.drop (i + 1)) r').1, (oddB (some c) (s.drop (i + 1)) r').2)) (hf : FeedAt wr' b r') (hk : KeepB b wr wr') : OdI s r0 b w wr' (i + 1) (o ++ z) r' := by
  have hp : prevO s (i + 1) = some c := by
    simp [prevO, hlt, hc]
  refine ⟨?_, hf, h.keep.trans hk⟩
  rw [h.eq, List.drop_eq_getElem_cons hlt, hc, hz, hp]
  simp

theorem odd_A (p : Option UInt8) (c : UInt8) (t r : By) (h1 : signO p c t.head? = false) (h2 : digO p c = false) : oddB p (c :: t) r = ((c :: behO1 c) ++ (oddB (some c) t r).1, (oddB (some c) t r).2) := by
  conv => lhs; unfold oddB
  simp [h1, h2]
theorem odd_D1 (p : Option UInt8) (c : UInt8) (t r : By) (h1 : signO p c t.head? = false) (h2 : digO p c = true) (h3 : (nextB r 2).1 = 1) : oddB p (c :: t) r = (([48, 48] ++ c :: behO1 c) ++ (oddB (some c) t (nextB r 2).2).1, (oddB (some c) t (nextB r 2).2).2) := by
  conv => lhs; unfold oddB
  simp [h1, h2, h3]
theorem odd_D0 (p : Option UInt8) (c : UInt8) (t r : By) (h1 : signO p c t.head? = false) (h2 : digO p c = true) (h3 : (nextB r 2).1 = 0) : oddB p (c :: t) r = ((c :: behO1 c) ++ (oddB (some c) t (nextB r 2).2).1, (oddB (some c) t (nextB r 2).2).2) := by
  conv => lhs; unfold oddB
  simp [h1, h2, h3]
theorem odd_S (p : Option UInt8) (c : UInt8) (t r : By) (h1 : signO p c t.head? = true) (h2 : (nextB r 2).1 = 1) (h3 : skipO p t.head? = true) : oddB p (c :: t) r = ([] ++ (oddB (some c) t (nextB r 2).2).1, (oddB (some c) t (nextB r 2).2).2) := by
  conv => lhs; unfold oddB
  simp [h1, h2, h3]
theorem odd_N (p : Option UInt8) (c : UInt8) (t r : By) (h1 : signO p c t.head? = true) (h2 : (nextB r 2).1 = 0 ∨ skipO p t.head? = false) (h3 : digO p c = false) : oddB p (c :: t) r = ((c :: behO1 c) ++ (oddB (some c) t (nextB r 2).2).1, (oddB (some c) t (nextB r 2).2).2) := by
  conv => lhs; unfold oddB
  have : (decide ((nextB r 2).1 = 1) && skipO p t.head?) = false := by
    rcases h2 with h2 | h2 <;> simp [h2]
  simp [h1, h3, this]

theorem head_drop (s : By) (k : Nat) : (s.drop k).head? = s[k]? := by simp [List.head?_drop]

theorem u8_ne (c k : UInt8) (h : c ≠ k) : ((c.toNat : Int) == (k.toNat : Int)) = false := by
  rw [beq_eq_false_iff_ne]
  intro e
  exact h (UInt8.toNat_inj.1 (Int.ofNat_inj.1 e))
theorem u8_nb (c k : UInt8) (h : c ≠ k) : ((c.toNat : Int) != (k.toNat : Int)) = true := by
  rw [bne_iff_ne]
  intro e
  exact h (UInt8.toNat_inj.1 (Int.ofNat_inj.1 e))

theorem ext1 (s : By) (k : Nat) (h : k < s.length) (c : UInt8) (hc : s[k]'h = c) : (ByteArray.mk s.toArray).extract k (k + 1) = ⟨[c].toArray⟩ := by
  rw [ext_eq, List.drop_eq_getElem_cons h, hc]
  simp

set_option maxRecDepth 100000 in
set_option maxHeartbeats 40000000 in
theorem plainLoop (raw s r1 r2 : By) (w : World) (hs : s.length ≤ 117) (d : Nat) (hd : d ≤ 3) (hraw : raw.length ≤ 9223372036854775807)
    (hN : ∀ r W, FeedAt W w.heap.size r → Calls Tryz.prog 16 #[.pointer (some ⟨w.heap.size, 0, none⟩), .int .i64 2] W fun e w' => e = .returned (.int .i64 ((nextB r 2).1 : Int)) ∧ FeedAt w' w.heap.size (nextB r 2).2 ∧ KeepB w.heap.size W w')
    (h1 : Fd1 w.heap.size (.int .i64 (d : Int)) raw r1 16 #[.pointer (some ⟨w.heap.size, 0, none⟩), .int .i64 4])
    (h2 : Fd1 w.heap.size (.string ⟨s.toArray⟩) r1 r2 15 #[.pointer (some ⟨w.heap.size, 0, none⟩), .int .i64 (d : Int)])
    (Ea Eb : Nat → World → Prop) (Q : World → Prop) (a : By) (er : Int)
    (hP1 : ∀ W, Below w.heap.size w W → Calls Tryz.prog 17 #[.string ⟨s.toArray⟩] W fun e w' => e = .returned (.tuple #[.string ⟨a.toArray⟩, .int .i64 er, .int .i64 0]) ∧ Below W.heap.size W w')
    (hP1a : if 100 < s.length then a = [] ∧ er = 7 else a = s ∧ er = 0)
    (hBg : ∀ W, Below w.heap.size w W → s.length ≤ 100 → Calls Tryz.prog 18 #[.int .i64 2] W fun r w' => ∃ e, r = .returned (.tuple #[.pointer (some ⟨e, 0, none⟩), .bool true]) ∧ Ea e w' ∧ Below w.heap.size w w')
    (hDs : ∀ W e, Ea e W → Below w.heap.size w W → s.length ≤ 100 → Calls Tryz.prog 19 #[.pointer (some ⟨e, 0, none⟩), .string ⟨(115 :: 101 :: 116 :: 32 :: 122 :: 32 :: 61 :: 32 :: s).toArray⟩] W fun r w' => r = .returned (.bool true) ∧ Eb e w' ∧ Below w.heap.size w w')
    (hRu : ∀ W e, Eb e W → Below w.heap.size w W → Calls Tryz.prog 20 #[.pointer (some ⟨e, 0, none⟩), .string ⟨([114, 117, 108, 101, 32, 122] : By).toArray⟩] W fun r w' => (∃ (an : Option Addr) (ln cn : Nat) (k n : Int), r = .returned (.agg #[.int .i64 0, .int .i64 0, .string ⟨s.toArray⟩, .slice an ln cn, .int .i64 k, .int .i64 n])) ∧ Below w.heap.size w w')
    (hP2 : ∀ W, Below w.heap.size w W → (oddB none s r2).1.length + 1 ≤ 120 → s.length ≤ 100 → Calls Tryz.prog 17 #[.string ⟨(32 :: (oddB none s r2).1).toArray⟩] W fun e w' => e = .returned (.tuple #[.string ⟨s.toArray⟩, .int .i64 0, .int .i64 0]) ∧ Below W.heap.size W w') :
    Calls Tryz.prog 4 #[.string ⟨raw.toArray⟩] w fun e w' => e = .returned (.bool true) ∧ Below w.heap.size w w' := by
  have H1 := toHid h1
  have H2 := toHid h2
  have HN := toHid hN
  have HP1 := toHid hP1
  have HPA := toHid hP1a
  have HBG := toHid hBg
  have HDS := toHid hDs
  have HRU := toHid hRu
  have HP2 := toHid hP2
  have HF0 := toHid (show FeedAt (w.alloc (.cells #[.string ⟨raw.toArray⟩, .int .i64 0] 28)) w.heap.size raw from ⟨raw, 0, heap_alloc_new w _, Nat.zero_le _, rfl, hraw⟩)
  clear h1 h2 hraw hN hP1 hBg hDs hRu hP2 hP1a
  go_enter Tryz.func4, Tryz.ntmps4
  go_wp2_with (first | (go_at_call 16; refine (H1.out _ HF0.out).mono ?_; rintro e w1 ⟨rfl, hf1, hb1⟩; refine Hid.out ?_))
  have HB1 := toHid (show Below w.heap.size w w1 from ((Below.refl _ _).alloc (Nat.le_refl _) _).trans (hb1.below))
  clear hb1 H1 HF0
  refine toHid ?_
  go_wp2_with (first | (go_at_call 15; refine (H2.out _ hf1).mono ?_; rintro e w2 ⟨rfl, hf2, hb2⟩; refine Hid.out ?_))
  have HB2 := toHid (HB1.out.trans hb2.below)
  have HF2 := toHid hf2
  clear hf1 hf2 hb2 H2 HB1
  refine toHid ?_
  go_wp2_with fail
  go_loopg [5, 6] s.length (fun gk s5 s6 wr => ∃ (i : Nat) (o r : By), i ≤ s.length ∧ s.length ≤ i + gk ∧ s5 = .string ⟨(32 :: o).toArray⟩ ∧ s6 = .int .i64 (i : Int) ∧ o.length ≤ 4 * i ∧ Hid (OdI s r2 w.heap.size w2 wr i o r))
  case atStart => exact ⟨0, [], r2, Nat.zero_le _, by omega, rfl, rfl, by simp, ⟨rfl, HF2.out, KeepB.refl _ _⟩⟩
  case round =>
    obtain ⟨i, o, r, hi, hgk, rfl, rfl, hol, HI⟩ := hrel
    have HFE := toHid HI.out.feed
    have hk01 : (nextB r 2).1 = 0 ∨ (nextB r 2).1 = 1 := by
      have := nextB_lt r 2 (by decide)
      omega
    by_cases hlt : i < s.length
    · have hltz : (i : Int) < (s.length : Int) := by omega
      have hi0 : (0 : Int) ≤ (i : Int) := by omega
      obtain ⟨c, hc⟩ : ∃ c, s[i]'hlt = c := ⟨_, rfl⟩
      have hx := ext1 s i hlt c hc
      by_cases hz : i = 0
      · subst hz
        have hsg : signO (prevO s 0) c (s.drop (0 + 1)).head? = false := rfl
        by_cases h49 : c.toNat < 49
        · have f49 : ¬ (49 : Int) ≤ (c.toNat : Int) := by omega
          have hdg : digO (prevO s 0) c = false := by simp [digO, show ¬ 49 ≤ c.toNat by omega]
          by_cases h32 : c = 32
          · subst h32
            as_aux_lemma =>
              have HS := toHid (HI.out.step hlt 32 hc [32, 32] r (by rw [odd_A _ _ _ _ hsg hdg]; rfl) HFE.out (KeepB.refl _ _))
              clear HI
              go_wp2_with fail
              go_roundg (s.length - (0 + 1))
              case measure => omega
              case rel => exact ⟨0 + 1, o ++ [32, 32], r, by omega, by omega, by simp, by go_num, by simp; omega, HS⟩
          · have f32 : ((c.toNat : Int) == 32) = false := u8_ne c 32 h32
            by_cases h40 : c = 40
            · subst h40
              as_aux_lemma =>
                have HS := toHid (HI.out.step hlt 40 hc [40, 32] r (by rw [odd_A _ _ _ _ hsg hdg]; rfl) HFE.out (KeepB.refl _ _))
                clear HI
                go_wp2_with fail
                go_roundg (s.length - (0 + 1))
                case measure => omega
                case rel => exact ⟨0 + 1, o ++ [40, 32], r, by omega, by omega, by simp, by go_num, by simp; omega, HS⟩
            · have f40 : ((c.toNat : Int) == 40) = false := u8_ne c 40 h40
              have hbh : behO1 c = [] := by simp [behO1, h32, h40]
              as_aux_lemma =>
                have HS := toHid (HI.out.step hlt c hc [c] r (by rw [odd_A _ _ _ _ hsg hdg, hbh]) HFE.out (KeepB.refl _ _))
                clear HI
                go_wp2_with fail
                go_roundg (s.length - (0 + 1))
                case measure => omega
                case rel => exact ⟨0 + 1, o ++ [c], r, by omega, by omega, by simp, by go_num, by simp; omega, HS⟩
        · have g49 : (49 : Int) ≤ (c.toNat : Int) := by omega
          have h32 : c ≠ 32 := by rintro rfl; exact h49 (by decide)
          have h40 : c ≠ 40 := by rintro rfl; exact h49 (by decide)
          have hbh : behO1 c = [] := by simp [behO1, h32, h40]
          have f32' : ((c.toNat : Int) == 32) = false := u8_ne c 32 h32
          have f40' : ((c.toNat : Int) == 40) = false := u8_ne c 40 h40
          by_cases h57 : 57 < c.toNat
          · have f57 : ¬ (c.toNat : Int) ≤ 57 := by omega
            have hdg : digO (prevO s 0) c = false := by simp [digO, show ¬ c.toNat ≤ 57 by omega]
            as_aux_lemma =>
              have HS := toHid (HI.out.step hlt c hc [c] r (by rw [odd_A _ _ _ _ hsg hdg, hbh]) HFE.out (KeepB.refl _ _))
              clear HI
              go_wp2_with fail
              go_roundg (s.length - (0 + 1))
              case measure => omega
              case rel => exact ⟨0 + 1, o ++ [c], r, by omega, by omega, by simp, by go_num, by simp; omega, HS⟩
          · have g57 : (c.toNat : Int) ≤ 57 := by omega
            have hdg : digO (prevO s 0) c = true := by simp [digO, prevO, show 49 ≤ c.toNat by omega, show c.toNat ≤ 57 by omega]
            rcases hk01 with hk | hk
            · have HK := toHid hk
              as_aux_lemma =>
                have HST := toHid (fun wr' (hf : FeedAt wr' w.heap.size (nextB r 2).2) (hkk : KeepB w.heap.size wr wr') => HI.out.step hlt c hc [c] (nextB r 2).2 (by rw [odd_D0 _ _ _ _ hsg hdg hk, hbh]) hf hkk)
                clear HI
                go_wp2_with (first | (go_at_call 16; refine (HN.out r wr HFE.out).mono ?_; rintro e w3 ⟨rfl, hf3, hb3⟩; rw [HK.out]; refine Hid.out ?_))
                have HS := toHid (HST.out w3 hf3 hb3)
                clear hf3 hb3 HST
                refine toHid ?_
                go_wp2
                go_roundg (s.length - (0 + 1))
                case measure => omega
                case rel => exact ⟨0 + 1, o ++ [c], (nextB r 2).2, by omega, by omega, by simp, by go_num, by simp; omega, HS⟩
            · have HK := toHid hk
              as_aux_lemma =>
                have HST := toHid (fun wr' (hf : FeedAt wr' w.heap.size (nextB r 2).2) (hkk : KeepB w.heap.size wr wr') => HI.out.step hlt c hc [48, 48, c] (nextB r 2).2 (by rw [odd_D1 _ _ _ _ hsg hdg hk, hbh]; rfl) hf hkk)
                clear HI
                go_wp2_with (first | (go_at_call 16; refine (HN.out r wr HFE.out).mono ?_; rintro e w3 ⟨rfl, hf3, hb3⟩; rw [HK.out]; refine Hid.out ?_))
                have HS := toHid (HST.out w3 hf3 hb3)
                clear hf3 hb3 HST
                refine toHid ?_
                go_wp2
                go_roundg (s.length - (0 + 1))
                case measure => omega
                case rel => exact ⟨0 + 1, o ++ [48, 48, c], (nextB r 2).2, by omega, by omega, by simp, by go_num, by simp; omega, HS⟩
      · obtain ⟨j, rfl⟩ : ∃ j, i = j + 1 := ⟨i - 1, by omega⟩
        have hjl : j < s.length := by omega
        have hjz : (j : Int) < (s.length : Int) := by omega
        obtain ⟨p, hp⟩ : ∃ p, s[j]'hjl = p := ⟨_, rfl⟩
        by_cases hn1 : j + 1 + 1 < s.length
        · have hnz : (j : Int) + 1 + 1 < (s.length : Int) := by omega
          obtain ⟨n, hn⟩ : ∃ n, s[j + 1 + 1]'hn1 = n := ⟨_, rfl⟩
          by_cases h32 : c = 32
          · subst h32
            have hdg : digO (prevO s (j + 1)) 32 = false := by simp [digO]
            by_cases h41 : p = 41
            · subst h41
              have hsg : signO (prevO s (j + 1)) 32 (s.drop (j + 1 + 1)).head? = true := by rw [head_drop]; simp [prevO, signO, hjl, hn1, hp, hn]
              rcases hk01 with hk | hk
              · have HK := toHid hk
                as_aux_lemma =>
                  have HST := toHid (fun wr' (hf : FeedAt wr' w.heap.size (nextB r 2).2) (hkk : KeepB w.heap.size wr wr') => HI.out.step hlt 32 hc [32, 32] (nextB r 2).2 (by rw [odd_N _ _ _ _ hsg (Or.inl hk) hdg]; rfl) hf hkk)
                  clear HI
                  go_wp2_with (first | (go_at_call 16; refine (HN.out r wr HFE.out).mono ?_; rintro e w3 ⟨rfl, hf3, hb3⟩; rw [HK.out]; refine Hid.out ?_))
                  have HS := toHid (HST.out w3 hf3 hb3)
                  clear hf3 hb3 HST
                  refine toHid ?_
                  go_wp2
                  go_roundg (s.length - (j + 1 + 1))
                  case measure => omega
                  case rel => exact ⟨j + 1 + 1, o ++ [32, 32], (nextB r 2).2, by omega, by omega, by simp, by go_num, by simp; omega, HS⟩
              · have HK := toHid hk
                by_cases h40 : n = 40
                · subst h40
                  have hsk : skipO (prevO s (j + 1)) (s.drop (j + 1 + 1)).head? = true := by rw [head_drop]; simp [prevO, skipO, hjl, hn1, hp, hn]
                  as_aux_lemma =>
                    have HST := toHid (fun wr' (hf : FeedAt wr' w.heap.size (nextB r 2).2) (hkk : KeepB w.heap.size wr wr') => HI.out.step hlt 32 hc [] (nextB r 2).2 (by rw [odd_S _ _ _ _ hsg hk hsk]) hf hkk)
                    clear HI
                    go_wp2_with (first | (go_at_call 16; refine (HN.out r wr HFE.out).mono ?_; rintro e w3 ⟨rfl, hf3, hb3⟩; rw [HK.out]; refine Hid.out ?_))
                    have HS := toHid (HST.out w3 hf3 hb3)
                    clear hf3 hb3 HST
                    refine toHid ?_
                    go_wp2
                    go_roundg (s.length - (j + 1 + 1))
                    case measure => omega
                    case rel => exact ⟨j + 1 + 1, o ++ [], (nextB r 2).2, by omega, by omega, by simp, by go_num, by simp; omega, HS⟩
                · have fn40 : ((n.toNat : Int) == 40) = false := u8_ne n 40 h40
                  have hsk : skipO (prevO s (j + 1)) (s.drop (j + 1 + 1)).head? = false := by rw [head_drop]; simp [prevO, skipO, hjl, hn1, hp, hn, h40]
                  as_aux_lemma =>
                    have HST := toHid (fun wr' (hf : FeedAt wr' w.heap.size (nextB r 2).2) (hkk : KeepB w.heap.size wr wr') => HI.out.step hlt 32 hc [32, 32] (nextB r 2).2 (by rw [odd_N _ _ _ _ hsg (Or.inr hsk) hdg]; rfl) hf hkk)
                    clear HI
                    go_wp2_with (first | (go_at_call 16; refine (HN.out r wr HFE.out).mono ?_; rintro e w3 ⟨rfl, hf3, hb3⟩; rw [HK.out]; refine Hid.out ?_))
                    have HS := toHid (HST.out w3 hf3 hb3)
                    clear hf3 hb3 HST
                    refine toHid ?_
                    go_wp2
                    go_roundg (s.length - (j + 1 + 1))
                    case measure => omega
                    case rel => exact ⟨j + 1 + 1, o ++ [32, 32], (nextB r 2).2, by omega, by omega, by simp, by go_num, by simp; omega, HS⟩
            · have fp41 : ((p.toNat : Int) == 41) = false := u8_ne p 41 h41
              have fq41 : ((p.toNat : Int) != 41) = true := u8_nb p 41 h41
              by_cases h44 : p = 44
              · subst h44
                have hsg : signO (prevO s (j + 1)) 32 (s.drop (j + 1 + 1)).head? = true := by rw [head_drop]; simp [prevO, signO, hjl, hn1, hp, hn]
                rcases hk01 with hk | hk
                · have HK := toHid hk
                  as_aux_lemma =>
                    have HST := toHid (fun wr' (hf : FeedAt wr' w.heap.size (nextB r 2).2) (hkk : KeepB w.heap.size wr wr') => HI.out.step hlt 32 hc [32, 32] (nextB r 2).2 (by rw [odd_N _ _ _ _ hsg (Or.inl hk) hdg]; rfl) hf hkk)
                    clear HI
                    go_wp2_with (first | (go_at_call 16; refine (HN.out r wr HFE.out).mono ?_; rintro e w3 ⟨rfl, hf3, hb3⟩; rw [HK.out]; refine Hid.out ?_))
                    have HS := toHid (HST.out w3 hf3 hb3)
                    clear hf3 hb3 HST
                    refine toHid ?_
                    go_wp2
                    go_roundg (s.length - (j + 1 + 1))
                    case measure => omega
                    case rel => exact ⟨j + 1 + 1, o ++ [32, 32], (nextB r 2).2, by omega, by omega, by simp, by go_num, by simp; omega, HS⟩
                · have HK := toHid hk
                  have hsk : skipO (prevO s (j + 1)) (s.drop (j + 1 + 1)).head? = true := by rw [head_drop]; simp [prevO, skipO, hjl, hn1, hp, hn]
                  by_cases h40 : n = 40
                  · subst h40
                    as_aux_lemma =>
                      have HST := toHid (fun wr' (hf : FeedAt wr' w.heap.size (nextB r 2).2) (hkk : KeepB w.heap.size wr wr') => HI.out.step hlt 32 hc [] (nextB r 2).2 (by rw [odd_S _ _ _ _ hsg hk hsk]) hf hkk)
                      clear HI
                      go_wp2_with (first | (go_at_call 16; refine (HN.out r wr HFE.out).mono ?_; rintro e w3 ⟨rfl, hf3, hb3⟩; rw [HK.out]; refine Hid.out ?_))
                      have HS := toHid (HST.out w3 hf3 hb3)
                      clear hf3 hb3 HST
                      refine toHid ?_
                      go_wp2
                      go_roundg (s.length - (j + 1 + 1))
                      case measure => omega
                      case rel => exact ⟨j + 1 + 1, o ++ [], (nextB r 2).2, by omega, by omega, by simp, by go_num, by simp; omega, HS⟩
                  · have fn40 : ((n.toNat : Int) == 40) = false := u8_ne n 40 h40
                    as_aux_lemma =>
                      have HST := toHid (fun wr' (hf : FeedAt wr' w.heap.size (nextB r 2).2) (hkk : KeepB w.heap.size wr wr') => HI.out.step hlt 32 hc [] (nextB r 2).2 (by rw [odd_S _ _ _ _ hsg hk hsk]) hf hkk)
                      clear HI
                      go_wp2_with (first | (go_at_call 16; refine (HN.out r wr HFE.out).mono ?_; rintro e w3 ⟨rfl, hf3, hb3⟩; rw [HK.out]; refine Hid.out ?_))
                      have HS := toHid (HST.out w3 hf3 hb3)
                      clear hf3 hb3 HST
                      refine toHid ?_
                      go_wp2
                      go_roundg (s.length - (j + 1 + 1))
                      case measure => omega
                      case rel => exact ⟨j + 1 + 1, o ++ [], (nextB r 2).2, by omega, by omega, by simp, by go_num, by simp; omega, HS⟩
              · have fp44 : ((p.toNat : Int) == 44) = false := u8_ne p 44 h44
                by_cases h40 : n = 40
                · subst h40
                  have hsg : signO (prevO s (j + 1)) 32 (s.drop (j + 1 + 1)).head? = true := by rw [head_drop]; simp [prevO, signO, hjl, hn1, hp, hn]
                  rcases hk01 with hk | hk
                  · have HK := toHid hk
                    as_aux_lemma =>
                      have HST := toHid (fun wr' (hf : FeedAt wr' w.heap.size (nextB r 2).2) (hkk : KeepB w.heap.size wr wr') => HI.out.step hlt 32 hc [32, 32] (nextB r 2).2 (by rw [odd_N _ _ _ _ hsg (Or.inl hk) hdg]; rfl) hf hkk)
                      clear HI
                      go_wp2_with (first | (go_at_call 16; refine (HN.out r wr HFE.out).mono ?_; rintro e w3 ⟨rfl, hf3, hb3⟩; rw [HK.out]; refine Hid.out ?_))
                      have HS := toHid (HST.out w3 hf3 hb3)
                      clear hf3 hb3 HST
                      refine toHid ?_
                      go_wp2
                      go_roundg (s.length - (j + 1 + 1))
                      case measure => omega
                      case rel => exact ⟨j + 1 + 1, o ++ [32, 32], (nextB r 2).2, by omega, by omega, by simp, by go_num, by simp; omega, HS⟩
                  · have HK := toHid hk
                    by_cases h116 : p = 116
                    · subst h116
                      have hsk : skipO (prevO s (j + 1)) (s.drop (j + 1 + 1)).head? = false := by rw [head_drop]; simp [prevO, skipO, hjl, hn1, hp, hn]
                      as_aux_lemma =>
                        have HST := toHid (fun wr' (hf : FeedAt wr' w.heap.size (nextB r 2).2) (hkk : KeepB w.heap.size wr wr') => HI.out.step hlt 32 hc [32, 32] (nextB r 2).2 (by rw [odd_N _ _ _ _ hsg (Or.inr hsk) hdg]; rfl) hf hkk)
                        clear HI
                        go_wp2_with (first | (go_at_call 16; refine (HN.out r wr HFE.out).mono ?_; rintro e w3 ⟨rfl, hf3, hb3⟩; rw [HK.out]; refine Hid.out ?_))
                        have HS := toHid (HST.out w3 hf3 hb3)
                        clear hf3 hb3 HST
                        refine toHid ?_
                        go_wp2
                        go_roundg (s.length - (j + 1 + 1))
                        case measure => omega
                        case rel => exact ⟨j + 1 + 1, o ++ [32, 32], (nextB r 2).2, by omega, by omega, by simp, by go_num, by simp; omega, HS⟩
                    · have f116 : ((p.toNat : Int) != 116) = true := u8_nb p 116 h116
                      by_cases h100 : p = 100
                      · subst h100
                        have hsk : skipO (prevO s (j + 1)) (s.drop (j + 1 + 1)).head? = false := by rw [head_drop]; simp [prevO, skipO, hjl, hn1, hp, hn]
                        as_aux_lemma =>
                          have HST := toHid (fun wr' (hf : FeedAt wr' w.heap.size (nextB r 2).2) (hkk : KeepB w.heap.size wr wr') => HI.out.step hlt 32 hc [32, 32] (nextB r 2).2 (by rw [odd_N _ _ _ _ hsg (Or.inr hsk) hdg]; rfl) hf hkk)
                          clear HI
                          go_wp2_with (first | (go_at_call 16; refine (HN.out r wr HFE.out).mono ?_; rintro e w3 ⟨rfl, hf3, hb3⟩; rw [HK.out]; refine Hid.out ?_))
                          have HS := toHid (HST.out w3 hf3 hb3)
                          clear hf3 hb3 HST
                          refine toHid ?_
                          go_wp2
                          go_roundg (s.length - (j + 1 + 1))
                          case measure => omega
                          case rel => exact ⟨j + 1 + 1, o ++ [32, 32], (nextB r 2).2, by omega, by omega, by simp, by go_num, by simp; omega, HS⟩
                      · have f100 : ((p.toNat : Int) != 100) = true := u8_nb p 100 h100
                        by_cases h114 : p = 114
                        · subst h114
                          have hsk : skipO (prevO s (j + 1)) (s.drop (j + 1 + 1)).head? = false := by rw [head_drop]; simp [prevO, skipO, hjl, hn1, hp, hn]
                          as_aux_lemma =>
                            have HST := toHid (fun wr' (hf : FeedAt wr' w.heap.size (nextB r 2).2) (hkk : KeepB w.heap.size wr wr') => HI.out.step hlt 32 hc [32, 32] (nextB r 2).2 (by rw [odd_N _ _ _ _ hsg (Or.inr hsk) hdg]; rfl) hf hkk)
                            clear HI
                            go_wp2_with (first | (go_at_call 16; refine (HN.out r wr HFE.out).mono ?_; rintro e w3 ⟨rfl, hf3, hb3⟩; rw [HK.out]; refine Hid.out ?_))
                            have HS := toHid (HST.out w3 hf3 hb3)
                            clear hf3 hb3 HST
                            refine toHid ?_
                            go_wp2
                            go_roundg (s.length - (j + 1 + 1))
                            case measure => omega
                            case rel => exact ⟨j + 1 + 1, o ++ [32, 32], (nextB r 2).2, by omega, by omega, by simp, by go_num, by simp; omega, HS⟩
                        · have f114 : ((p.toNat : Int) != 114) = true := u8_nb p 114 h114
                          have hsk : skipO (prevO s (j + 1)) (s.drop (j + 1 + 1)).head? = true := by rw [head_drop]; simp [prevO, skipO, hjl, hn1, hp, hn, h116, h100, h114]
                          as_aux_lemma =>
                            have HST := toHid (fun wr' (hf : FeedAt wr' w.heap.size (nextB r 2).2) (hkk : KeepB w.heap.size wr wr') => HI.out.step hlt 32 hc [] (nextB r 2).2 (by rw [odd_S _ _ _ _ hsg hk hsk]) hf hkk)
                            clear HI
                            go_wp2_with (first | (go_at_call 16; refine (HN.out r wr HFE.out).mono ?_; rintro e w3 ⟨rfl, hf3, hb3⟩; rw [HK.out]; refine Hid.out ?_))
                            have HS := toHid (HST.out w3 hf3 hb3)
                            clear hf3 hb3 HST
                            refine toHid ?_
                            go_wp2
                            go_roundg (s.length - (j + 1 + 1))
                            case measure => omega
                            case rel => exact ⟨j + 1 + 1, o ++ [], (nextB r 2).2, by omega, by omega, by simp, by go_num, by simp; omega, HS⟩
                · have fn40 : ((n.toNat : Int) == 40) = false := u8_ne n 40 h40
                  have hsg : signO (prevO s (j + 1)) 32 (s.drop (j + 1 + 1)).head? = false := by rw [head_drop]; simp [prevO, signO, hjl, hn1, hp, hn, h41, h44, h40]
                  as_aux_lemma =>
                    have HS := toHid (HI.out.step hlt 32 hc [32, 32] r (by rw [odd_A _ _ _ _ hsg hdg]; rfl) HFE.out (KeepB.refl _ _))
                    clear HI
                    go_wp2_with fail
                    go_roundg (s.length - (j + 1 + 1))
                    case measure => omega
                    case rel => exact ⟨j + 1 + 1, o ++ [32, 32], r, by omega, by omega, by simp, by go_num, by simp; omega, HS⟩
          · have f32 : ((c.toNat : Int) == 32) = false := u8_ne c 32 h32
            have hsg : signO (prevO s (j + 1)) c (s.drop (j + 1 + 1)).head? = false := by rw [head_drop]; simp [prevO, signO, hjl, hn1, h32]
            by_cases h49 : c.toNat < 49
            · have f49 : ¬ (49 : Int) ≤ (c.toNat : Int) := by omega
              have hdg : digO (prevO s (j + 1)) c = false := by simp [digO, show ¬ 49 ≤ c.toNat by omega]
              by_cases h40 : c = 40
              · subst h40
                as_aux_lemma =>
                  have HS := toHid (HI.out.step hlt 40 hc [40, 32] r (by rw [odd_A _ _ _ _ hsg hdg]; rfl) HFE.out (KeepB.refl _ _))
                  clear HI
                  go_wp2_with fail
                  go_roundg (s.length - (j + 1 + 1))
                  case measure => omega
                  case rel => exact ⟨j + 1 + 1, o ++ [40, 32], r, by omega, by omega, by simp, by go_num, by simp; omega, HS⟩
              · have f40 : ((c.toNat : Int) == 40) = false := u8_ne c 40 h40
                have hbh : behO1 c = [] := by simp [behO1, h32, h40]
                as_aux_lemma =>
                  have HS := toHid (HI.out.step hlt c hc [c] r (by rw [odd_A _ _ _ _ hsg hdg, hbh]) HFE.out (KeepB.refl _ _))
                  clear HI
                  go_wp2_with fail
                  go_roundg (s.length - (j + 1 + 1))
                  case measure => omega
                  case rel => exact ⟨j + 1 + 1, o ++ [c], r, by omega, by omega, by simp, by go_num, by simp; omega, HS⟩
            · have g49 : (49 : Int) ≤ (c.toNat : Int) := by omega
              have h32 : c ≠ 32 := by rintro rfl; exact h49 (by decide)
              have h40 : c ≠ 40 := by rintro rfl; exact h49 (by decide)
              have hbh : behO1 c = [] := by simp [behO1, h32, h40]
              have f32' : ((c.toNat : Int) == 32) = false := u8_ne c 32 h32
              have f40' : ((c.toNat : Int) == 40) = false := u8_ne c 40 h40
              by_cases h57 : 57 < c.toNat
              · have f57 : ¬ (c.toNat : Int) ≤ 57 := by omega
                have hdg : digO (prevO s (j + 1)) c = false := by simp [digO, show ¬ c.toNat ≤ 57 by omega]
                as_aux_lemma =>
                  have HS := toHid (HI.out.step hlt c hc [c] r (by rw [odd_A _ _ _ _ hsg hdg, hbh]) HFE.out (KeepB.refl _ _))
                  clear HI
                  go_wp2_with fail
                  go_roundg (s.length - (j + 1 + 1))
                  case measure => omega
                  case rel => exact ⟨j + 1 + 1, o ++ [c], r, by omega, by omega, by simp, by go_num, by simp; omega, HS⟩
              · have g57 : (c.toNat : Int) ≤ 57 := by omega
                by_cases h102 : p = 102
                · subst h102
                  have hdg : digO (prevO s (j + 1)) c = false := by simp [digO, prevO, hjl, hp]
                  as_aux_lemma =>
                    have HS := toHid (HI.out.step hlt c hc [c] r (by rw [odd_A _ _ _ _ hsg hdg, hbh]) HFE.out (KeepB.refl _ _))
                    clear HI
                    go_wp2_with fail
                    go_roundg (s.length - (j + 1 + 1))
                    case measure => omega
                    case rel => exact ⟨j + 1 + 1, o ++ [c], r, by omega, by omega, by simp, by go_num, by simp; omega, HS⟩
                · have f102 : ((p.toNat : Int) != 102) = true := u8_nb p 102 h102
                  have hdg : digO (prevO s (j + 1)) c = true := by simp [digO, prevO, hjl, hp, h102, show 49 ≤ c.toNat by omega, show c.toNat ≤ 57 by omega]
                  rcases hk01 with hk | hk
                  · have HK := toHid hk
                    as_aux_lemma =>
                      have HST := toHid (fun wr' (hf : FeedAt wr' w.heap.size (nextB r 2).2) (hkk : KeepB w.heap.size wr wr') => HI.out.step hlt c hc [c] (nextB r 2).2 (by rw [odd_D0 _ _ _ _ hsg hdg hk, hbh]) hf hkk)
                      clear HI
                      go_wp2_with (first | (go_at_call 16; refine (HN.out r wr HFE.out).mono ?_; rintro e w3 ⟨rfl, hf3, hb3⟩; rw [HK.out]; refine Hid.out ?_))
                      have HS := toHid (HST.out w3 hf3 hb3)
                      clear hf3 hb3 HST
                      refine toHid ?_
                      go_wp2
                      go_roundg (s.length - (j + 1 + 1))
                      case measure => omega
                      case rel => exact ⟨j + 1 + 1, o ++ [c], (nextB r 2).2, by omega, by omega, by simp, by go_num, by simp; omega, HS⟩
                  · have HK := toHid hk
                    as_aux_lemma =>
                      have HST := toHid (fun wr' (hf : FeedAt wr' w.heap.size (nextB r 2).2) (hkk : KeepB w.heap.size wr wr') => HI.out.step hlt c hc [48, 48, c] (nextB r 2).2 (by rw [odd_D1 _ _ _ _ hsg hdg hk, hbh]; rfl) hf hkk)
                      clear HI
                      go_wp2_with (first | (go_at_call 16; refine (HN.out r wr HFE.out).mono ?_; rintro e w3 ⟨rfl, hf3, hb3⟩; rw [HK.out]; refine Hid.out ?_))
                      have HS := toHid (HST.out w3 hf3 hb3)
                      clear hf3 hb3 HST
                      refine toHid ?_
                      go_wp2
                      go_roundg (s.length - (j + 1 + 1))
                      case measure => omega
                      case rel => exact ⟨j + 1 + 1, o ++ [48, 48, c], (nextB r 2).2, by omega, by omega, by simp, by go_num, by simp; omega, HS⟩
        · have hnz : ¬ (j : Int) + 1 + 1 < (s.length : Int) := by omega
          have hsg : signO (prevO s (j + 1)) c (s.drop (j + 1 + 1)).head? = false := by rw [head_drop]; simp [prevO, signO, hjl, List.getElem?_eq_none (show s.length ≤ j + 1 + 1 by omega)]
          by_cases h49 : c.toNat < 49
          · have f49 : ¬ (49 : Int) ≤ (c.toNat : Int) := by omega
            have hdg : digO (prevO s (j + 1)) c = false := by simp [digO, show ¬ 49 ≤ c.toNat by omega]
            by_cases h32 : c = 32
            · subst h32
              as_aux_lemma =>
                have HS := toHid (HI.out.step hlt 32 hc [32, 32] r (by rw [odd_A _ _ _ _ hsg hdg]; rfl) HFE.out (KeepB.refl _ _))
                clear HI
                go_wp2_with fail
                go_roundg (s.length - (j + 1 + 1))
                case measure => omega
                case rel => exact ⟨j + 1 + 1, o ++ [32, 32], r, by omega, by omega, by simp, by go_num, by simp; omega, HS⟩
            · have f32 : ((c.toNat : Int) == 32) = false := u8_ne c 32 h32
              by_cases h40 : c = 40
              · subst h40
                as_aux_lemma =>
                  have HS := toHid (HI.out.step hlt 40 hc [40, 32] r (by rw [odd_A _ _ _ _ hsg hdg]; rfl) HFE.out (KeepB.refl _ _))
                  clear HI
                  go_wp2_with fail
                  go_roundg (s.length - (j + 1 + 1))
                  case measure => omega
                  case rel => exact ⟨j + 1 + 1, o ++ [40, 32], r, by omega, by omega, by simp, by go_num, by simp; omega, HS⟩
              · have f40 : ((c.toNat : Int) == 40) = false := u8_ne c 40 h40
                have hbh : behO1 c = [] := by simp [behO1, h32, h40]
                as_aux_lemma =>
                  have HS := toHid (HI.out.step hlt c hc [c] r (by rw [odd_A _ _ _ _ hsg hdg, hbh]) HFE.out (KeepB.refl _ _))
                  clear HI
                  go_wp2_with fail
                  go_roundg (s.length - (j + 1 + 1))
                  case measure => omega
                  case rel => exact ⟨j + 1 + 1, o ++ [c], r, by omega, by omega, by simp, by go_num, by simp; omega, HS⟩
          · have g49 : (49 : Int) ≤ (c.toNat : Int) := by omega
            have h32 : c ≠ 32 := by rintro rfl; exact h49 (by decide)
            have h40 : c ≠ 40 := by rintro rfl; exact h49 (by decide)
            have hbh : behO1 c = [] := by simp [behO1, h32, h40]
            have f32' : ((c.toNat : Int) == 32) = false := u8_ne c 32 h32
            have f40' : ((c.toNat : Int) == 40) = false := u8_ne c 40 h40
            by_cases h57 : 57 < c.toNat
            · have f57 : ¬ (c.toNat : Int) ≤ 57 := by omega
              have hdg : digO (prevO s (j + 1)) c = false := by simp [digO, show ¬ c.toNat ≤ 57 by omega]
              as_aux_lemma =>
                have HS := toHid (HI.out.step hlt c hc [c] r (by rw [odd_A _ _ _ _ hsg hdg, hbh]) HFE.out (KeepB.refl _ _))
                clear HI
                go_wp2_with fail
                go_roundg (s.length - (j + 1 + 1))
                case measure => omega
                case rel => exact ⟨j + 1 + 1, o ++ [c], r, by omega, by omega, by simp, by go_num, by simp; omega, HS⟩
            · have g57 : (c.toNat : Int) ≤ 57 := by omega
              by_cases h102 : p = 102
              · subst h102
                have hdg : digO (prevO s (j + 1)) c = false := by simp [digO, prevO, hjl, hp]
                as_aux_lemma =>
                  have HS := toHid (HI.out.step hlt c hc [c] r (by rw [odd_A _ _ _ _ hsg hdg, hbh]) HFE.out (KeepB.refl _ _))
                  clear HI
                  go_wp2_with fail
                  go_roundg (s.length - (j + 1 + 1))
                  case measure => omega
                  case rel => exact ⟨j + 1 + 1, o ++ [c], r, by omega, by omega, by simp, by go_num, by simp; omega, HS⟩
              · have f102 : ((p.toNat : Int) != 102) = true := u8_nb p 102 h102
                have hdg : digO (prevO s (j + 1)) c = true := by simp [digO, prevO, hjl, hp, h102, show 49 ≤ c.toNat by omega, show c.toNat ≤ 57 by omega]
                rcases hk01 with hk | hk
                · have HK := toHid hk
                  as_aux_lemma =>
                    have HST := toHid (fun wr' (hf : FeedAt wr' w.heap.size (nextB r 2).2) (hkk : KeepB w.heap.size wr wr') => HI.out.step hlt c hc [c] (nextB r 2).2 (by rw [odd_D0 _ _ _ _ hsg hdg hk, hbh]) hf hkk)
                    clear HI
                    go_wp2_with (first | (go_at_call 16; refine (HN.out r wr HFE.out).mono ?_; rintro e w3 ⟨rfl, hf3, hb3⟩; rw [HK.out]; refine Hid.out ?_))
                    have HS := toHid (HST.out w3 hf3 hb3)
                    clear hf3 hb3 HST
                    refine toHid ?_
                    go_wp2
                    go_roundg (s.length - (j + 1 + 1))
                    case measure => omega
                    case rel => exact ⟨j + 1 + 1, o ++ [c], (nextB r 2).2, by omega, by omega, by simp, by go_num, by simp; omega, HS⟩
                · have HK := toHid hk
                  as_aux_lemma =>
                    have HST := toHid (fun wr' (hf : FeedAt wr' w.heap.size (nextB r 2).2) (hkk : KeepB w.heap.size wr wr') => HI.out.step hlt c hc [48, 48, c] (nextB r 2).2 (by rw [odd_D1 _ _ _ _ hsg hdg hk, hbh]; rfl) hf hkk)
                    clear HI
                    go_wp2_with (first | (go_at_call 16; refine (HN.out r wr HFE.out).mono ?_; rintro e w3 ⟨rfl, hf3, hb3⟩; rw [HK.out]; refine Hid.out ?_))
                    have HS := toHid (HST.out w3 hf3 hb3)
                    clear hf3 hb3 HST
                    refine toHid ?_
                    go_wp2
                    go_roundg (s.length - (j + 1 + 1))
                    case measure => omega
                    case rel => exact ⟨j + 1 + 1, o ++ [48, 48, c], (nextB r 2).2, by omega, by omega, by simp, by go_num, by simp; omega, HS⟩
    · have hltz : ¬ (i : Int) < (s.length : Int) := by omega
      obtain rfl : i = s.length := by omega
      have heq := HI.out.eq
      simp [oddB] at heq
      as_aux_lemma =>
        have ho : (oddB none s r2).1 = o := by rw [heq]
        have HBW := toHid (show Below w.heap.size w wr from HB2.out.trans HI.out.keep.below)
        rw [ho] at HP2
        clear heq ho HI HFE HF2 HB2 hk01 HN
        by_cases h100 : 100 < s.length
        · obtain ⟨rfl, rfl⟩ : a = [] ∧ er = 7 := by have := HPA.out; rw [if_pos h100] at this; exact this
          have h100z : (100 : Int) < (s.length : Int) := by omega
          clear HPA HP2 HBG HDS HRU
          go_wp2_with (first | (go_at_call 17; refine (HP1.out _ HBW.out).mono ?_; rintro e w3 ⟨rfl, hb3⟩; refine Hid.out ?_))
          have HB3 := toHid (HBW.out.trans (hb3.mono HBW.out.size))
          clear hb3 HP1
          refine toHid ?_
          go_wp2
          go_ret
          exact ⟨rfl, HB3.out⟩
        · obtain ⟨rfl, rfl⟩ : a = s ∧ er = 0 := by have := HPA.out; rw [if_neg h100] at this; exact this
          have h100z : ¬ (100 : Int) < (a.length : Int) := by omega
          clear HPA
          go_wp2_with (first | (go_at_call 17; refine (HP1.out _ HBW.out).mono ?_; rintro e w3 ⟨rfl, hb3⟩; refine Hid.out ?_))
          have HB3 := toHid (HBW.out.trans (hb3.mono HBW.out.size))
          clear hb3 HP1 HBW
          refine toHid ?_
          go_wp2_with (first | (go_at_call 18; refine (HBG.out _ HB3.out (by omega)).mono ?_; rintro r' w4 ⟨e, rfl, hea, hb4⟩; refine Hid.out ?_))
          have HB4 := toHid hb4
          have HEA := toHid hea
          clear hb4 hea HBG HB3
          refine toHid ?_
          go_wp2_with (first | (go_at_call 19; refine (HDS.out _ e HEA.out HB4.out (by omega)).mono ?_; rintro r' w5 ⟨rfl, heb, hb5⟩; refine Hid.out ?_))
          have HB5 := toHid hb5
          have HEB := toHid heb
          clear hb5 heb HDS HEA HB4
          refine toHid ?_
          go_wp2_with (first | (go_at_call 20; refine (HRU.out _ e HEB.out HB5.out).mono ?_; rintro r' w6 ⟨⟨an, ln, cn, k, n, rfl⟩, hb6⟩; refine Hid.out ?_))
          have HB6 := toHid hb6
          clear hb6 HRU HEB HB5
          refine toHid ?_
          by_cases h120 : o.length + 1 ≤ 120
          · have h120z : (o.length : Int) + 1 ≤ 120 := by omega
            have HB7 := toHid (HB6.out.alloc HB6.out.size (.cells #[.int .i64 0, .int .i64 0, .string ⟨a.toArray⟩, .slice an ln cn, .int .i64 k, .int .i64 n] 39))
            have HROW := toHid (heap_alloc_new w6 (.cells #[.int .i64 0, .int .i64 0, .string ⟨a.toArray⟩, .slice an ln cn, .int .i64 k, .int .i64 n] 39))
            go_wp2_with (first | (go_at_call 17; refine (HP2.out _ HB7.out h120 (by omega)).mono ?_; rintro e w7 ⟨rfl, hb7⟩; refine Hid.out ?_))
            obtain ⟨⟨k0, k1, k2, k3, k4, k5⟩, ⟨f0, f1, f2, f3, f4, f5⟩, hsz⟩ := row6 ((hb7.block w6.heap.size (by simp)).trans HROW.out)
            have HB8 := toHid (HB7.out.trans (hb7.mono HB7.out.size))
            clear hb7 HP2 HB7 HROW
            refine toHid ?_
            go_wp2
            go_ret
            exact ⟨rfl, HB8.out⟩
          · have h120z : ¬ (o.length : Int) + 1 ≤ 120 := by omega
            go_wp2
            go_ret
            exact ⟨rfl, HB6.out.alloc HB6.out.size _⟩
end Go.Proofs.YtihgojcfpnhelaaGreatDoor
