import Derived.Test.YtihgojcfpnhelaaDoorQ
namespace Go.Proofs.YtihgojcfpnhelaaDoor
open Go.RowKit
attribute [local go_sem] idx_eq app_eq

def pcells (ts : List (By × Nat)) : List Value := ts.flatMap fun t => [.int .i64 (kindB t.1), .int .i64 (t.2 : Int), .string ⟨(nmB t.1).toArray⟩, .int .i64 (nuB t.1 : Int)]

theorem pcells_length (ts : List (By × Nat)) : (pcells ts).length = ts.length * 4 := by
  induction ts with
  | nil => rfl
  | cons t ts ih => simp [pcells] at *; omega

theorem pcells_snoc (ts : List (By × Nat)) (t : By) (p : Nat) : pcells (ts ++ [(t, p)]) = pcells ts ++ [.int .i64 (kindB t), .int .i64 (p : Int), .string ⟨(nmB t).toArray⟩, .int .i64 (nuB t : Int)] := by simp [pcells]

def endC (n : Nat) : List Value := [.int .i64 0, .int .i64 (n : Int), .string ⟨#[]⟩, .int .i64 0]

theorem info46 : (Tryd.prog.info? 49).map (fun i => (i.zero, i.size, i.bytes)) = some (some (.agg #[.int .i64 0, .int .i64 0, .string ⟨#[]⟩, .int .i64 0]), 4, 40) := by kernel_rfl

theorem allD_tw (r : By) : AllD (r.take (r.takeWhile isD).length) := by
  induction r with
  | nil => intro x hx; simp at hx
  | cons c r ih =>
    cases hc : isD c
    · simp [hc]
      intro x hx; simp at hx
    · simp [hc]
      intro x hx
      simp at hx
      rcases hx with rfl | hx
      · exact hc
      · exact ih x hx

theorem row_cons (c : UInt8) (r : By) : (c :: r).take (rowLen (c :: r)) = c :: r.take (rowLen (c :: r) - 1) := by
  have := rowLen_pos c r
  obtain ⟨n, hn⟩ : ∃ n, rowLen (c :: r) = n + 1 := ⟨rowLen (c :: r) - 1, by omega⟩
  rw [hn]
  rfl

theorem row_allD (c : UInt8) (r : By) (hc : isD c = true) : AllD (c :: r.take (rowLen (c :: r) - 1)) := by
  have hL : isL c = false := by
    have := isD_range hc
    simp [isL, letB]
    omega
  rw [rowLen_D hL hc, Nat.add_sub_cancel_left]
  intro x hx
  simp only [List.mem_cons] at hx
  rcases hx with rfl | hx
  · exact hc
  · exact allD_tw r x hx

theorem drop_ext (s : By) (k : Nat) (h : k < s.length) : (ByteArray.mk s.toArray).extract k s.length = ⟨(s[k] :: s.drop (k + 1)).toArray⟩ := by
  rw [ext_eq, ← List.drop_eq_getElem_cons h, List.take_of_length_le (by simp)]

theorem toks_row (f : Nat) (s : By) (k : Nat) (hk : k < s.length) (h : s[k] ≠ 32) (hok : tokOK (s[k] :: (s.drop (k + 1)).take (rowLen (s[k] :: s.drop (k + 1)) - 1)) = true) :
    toks (f + 1) (s.drop k) k = ((s[k] :: (s.drop (k + 1)).take (rowLen (s[k] :: s.drop (k + 1)) - 1), k) :: (toks f (s.drop (k + rowLen (s[k] :: s.drop (k + 1)))) (k + rowLen (s[k] :: s.drop (k + 1)))).1, (toks f (s.drop (k + rowLen (s[k] :: s.drop (k + 1)))) (k + rowLen (s[k] :: s.drop (k + 1)))).2) := by
  rw [← row_cons] at hok ⊢
  have hd : s.drop (k + rowLen (s[k] :: s.drop (k + 1))) = (s[k] :: s.drop (k + 1)).drop (rowLen (s[k] :: s.drop (k + 1))) := by
    conv => rhs; arg 2; rw [← List.drop_eq_getElem_cons hk]
    rw [List.drop_drop]
  rw [hd, List.drop_eq_getElem_cons hk]
  conv => lhs; unfold toks
  rw [if_neg h, if_pos hok]

theorem toks_row_bad (f : Nat) (s : By) (k : Nat) (hk : k < s.length) (h : s[k] ≠ 32) (hok : tokOK (s[k] :: (s.drop (k + 1)).take (rowLen (s[k] :: s.drop (k + 1)) - 1)) = false) :
    toks (f + 1) (s.drop k) k = ([], some k) := by
  rw [← row_cons] at hok
  rw [List.drop_eq_getElem_cons hk]
  conv => lhs; unfold toks
  rw [if_neg h, if_neg (by rw [hok]; simp)]

/-- What Scan answers. -/
def ScanPost (s : By) (w : World) (e : Ending) (w' : World) : Prop :=
  (∀ p, (toksOf s).2 = some p → e = .returned (.tuple #[.slice none 0 0, .int .i64 2, .int .i64 (p : Int)])) ∧
  ((toksOf s).2 = none → ∃ v, e = .returned (.tuple #[v, .int .i64 0, .int .i64 0]) ∧ w'.ownsRow w.heap.size 49 4 v ((toksOf s).1.length + 1) (pcells (toksOf s).1 ++ endC s.length)) ∧
  Below w.heap.size w w'

set_option maxHeartbeats 1000000 in
theorem scan_long (s : By) (w : World) (h : 120 < s.length) : Calls Tryd.prog 7 #[.string ⟨s.toArray⟩] w fun e w' => e = .returned (.tuple #[.slice none 0 0, .int .i64 1, .int .i64 0]) ∧ w = w' := by
  go_enter Tryd.func7, Tryd.ntmps7
  go_wp2
  go_ret3
  exact ⟨rfl, rfl⟩

set_option maxRecDepth 100000 in
set_option maxHeartbeats 4000000 in
theorem scan7 (s : By) (w : World) (hE : Env w) (hl : s.length ≤ 120) :
    Calls Tryd.prog 7 #[.string ⟨s.toArray⟩] w (ScanPost s w) := by
  obtain ⟨i0, hi, hz0, hz1, hz2⟩ := info_parts info46
  have HE := toHid hE
  clear hE
  go_enter Tryd.func7, Tryd.ntmps7
  go_wp2
  go_loopw [5, 6] (fun v i wr => ∃ (k f : Nat) (ts : List (By × Nat)), k ≤ s.length ∧ s.length ≤ k + f ∧ i = .int .i64 (k : Int) ∧ wr.ownsRow w.heap.size 49 4 v ts.length (pcells ts) ∧ Below w.heap.size w wr ∧ ts.length ≤ k ∧
      Hid (toksOf s = (ts ++ (toks f (s.drop k) k).1, (toks f (s.drop k) k).2))) (fun _ i _ => s.length - (intOf i).toNat)
  case atStart => exact ⟨0, s.length, [], by omega, by omega, rfl, World.ownsRow_nil _ _ _ _, Below.refl _ _, by simp, rfl⟩
  case round =>
    obtain ⟨k, f, ts, hk, hf, rfl, hown, hb, hts, HT⟩ := hrel
    have hsz := hb.size
    by_cases hlt : k < s.length
    · obtain ⟨f, rfl⟩ : ∃ g, f = g + 1 := ⟨f - 1, by omega⟩
      by_cases hsp : s[k] = 32
      · have HT2 := toHid (HT.out.trans (by rw [toks_space f s k hlt hsp]))
        have hspb : ((s[k].toNat : Int) == 32) = true := by simp [hsp]
        clear hsp
        go_wp2
        go_roundw
        case rel => exact ⟨k + 1, f, ts, by omega, by omega, by go_num, hown, hb, by omega, HT2⟩
        case measure => simp [intOf]; omega
      · have hspb : ((s[k].toNat : Int) == 32) = false := by
          simp only [beq_eq_false_iff_ne]
          intro h
          apply hsp
          apply UInt8.toNat_inj.1
          simp; omega
        have HX := toHid (drop_ext s k hlt)
        have HRC := toHid (row_cons s[k] (s.drop (k + 1)))
        have HRA := toHid (row_allD s[k] (s.drop (k + 1)))
        have hrl : rowLen (s[k] :: s.drop (k + 1)) ≤ s.length - k := by have := rowLen_le (s[k] :: s.drop (k + 1)); rw [List.length_cons, List.length_drop] at this; omega
        have hrp := rowLen_pos s[k] (s.drop (k + 1))
        have HTR := toHid (toks_row f s k hlt hsp)
        have HTB := toHid (toks_row_bad f s k hlt hsp)
        have HLR := toHid (show (s.drop (k + 1)).length ≤ 1000 by simp; omega)
        clear hsp
        cases hok : tokOK (s[k] :: (s.drop (k + 1)).take (rowLen (s[k] :: s.drop (k + 1)) - 1))
        · have HTP := toHid (show tokP (s[k] :: (s.drop (k + 1)).take (rowLen (s[k] :: s.drop (k + 1)) - 1)) = (0, [], 0, false) by unfold tokP; rw [hok]; rfl)
          have HB := toHid (HTB.out hok)
          clear hok
          generalize s.drop (k + 1) = r at *
          generalize s[k] = c at HX HRC HRA hrl hrp HTP
          go_wp2_with (first | (go_at_call 12; rw [HX.out]; refine (firstRow12 c r _ HLR.out).mono ?_; rw [HRC.out]; rintro e w' ⟨rfl, rfl⟩) | (go_at_call 13; refine (fromRow13 c (r.take (rowLen (c :: r) - 1)) _ (HE.out.next hb) (by have := HLR.out; rw [List.length_take]; omega) HRA.out).mono ?_; rw [HTP.out]; rintro e w1 ⟨rfl, hb1⟩))
          go_ret3
          refine ⟨fun p hp => ?_, fun hn => ?_, (hb.trans (hb1.mono hsz)).alloc (by have := hb1.size; omega) _⟩
          · rw [HT.out, HB.out] at hp
            simp at hp
            subst hp
            rfl
          · rw [HT.out, HB.out] at hn
            simp at hn
        · have HTP := toHid (show tokP (s[k] :: (s.drop (k + 1)).take (rowLen (s[k] :: s.drop (k + 1)) - 1)) = (kindB (s[k] :: (s.drop (k + 1)).take (rowLen (s[k] :: s.drop (k + 1)) - 1)), nmB (s[k] :: (s.drop (k + 1)).take (rowLen (s[k] :: s.drop (k + 1)) - 1)), nuB (s[k] :: (s.drop (k + 1)).take (rowLen (s[k] :: s.drop (k + 1)) - 1)), true) by unfold tokP; rw [hok]; rfl)
          have HB := toHid (HTR.out hok)
          have HRL := toHid (show (s[k] :: (s.drop (k + 1)).take (rowLen (s[k] :: s.drop (k + 1)) - 1)).length = rowLen (s[k] :: s.drop (k + 1)) by rw [List.length_cons, List.length_take, List.length_drop]; omega)
          clear hok HTR HTB
          generalize s.drop (k + 1) = r at *
          generalize s[k] = c at HX HRC HRA hrl hrp HTP HB HRL
          generalize hn : rowLen (c :: r) = n at *
          have HN := toHid hn
          clear hn
          go_wp2_with (first | (go_at_call 12; rw [HX.out]; refine (firstRow12 c r _ HLR.out).mono ?_; rw [HN.out, HRC.out]; rintro e w' ⟨rfl, rfl⟩; refine Hid.out ?_))
          refine toHid ?_
          generalize hrow : c :: r.take (n - 1) = row at *
          have HROW := toHid hrow
          clear hrow
          go_wp2_with (first | (go_at_call 13; rw [← HROW.out]; refine (fromRow13 c (r.take (n - 1)) _ (HE.out.next hb) (by have := HLR.out; rw [List.length_take]; omega) (by rw [HROW.out]; exact HRA.out)).mono ?_; rw [HROW.out, HTP.out]; rintro e w1 ⟨rfl, hb1⟩; refine Hid.out ?_))
          refine toHid ?_
          have hs1 := hb1.size
          have hrl2 := HRL.out
          have HRL2 := toHid hrl2
          have hrl3 : (row.length : Int) ≤ s.length := by omega
          clear hrl2
          go_wp2_with (first | (at_builtin; refine wpList_append_own _ rfl (.tmp 37) (.tmp 39) 30 rfl w.heap.size 49 i0 (.agg #[.int .i64 0, .int .i64 0, .string ⟨#[]⟩, .int .i64 0]) 4 40 Tryd.underlying30 hi hz0 hz1 hz2 rfl (by decide) u5 ts.length (pcells ts) rfl (((own_below hown hb1).alloc _).alloc _) ⟨w1.heap.size + 1, 0, none⟩ 1 1 [.int .i64 (kindB row), .int .i64 (k : Int), .string ⟨(nmB row).toArray⟩, .int .i64 (nuB row : Int)] rfl rfl ?c1 (fun u hu => by simp at hu; rcases hu with rfl | rfl | rfl | rfl <;> rfl) (by unfold maxLen; omega) (by omega) (by simp; omega) ?_; rotate_right; intro v' w2 hown' hgrow _; refine Hid.out ?_))
          case c1 =>
            intro j u hj
            have := cells_new (w1.alloc (.cells #[.int .i64 (kindB row), .int .i64 (k : Int), .string ⟨(nmB row).toArray⟩, .int .i64 (nuB row : Int)] 49)) [.int .i64 (kindB row), .int .i64 (k : Int), .string ⟨(nmB row).toArray⟩, .int .i64 (nuB row : Int)] 49 j u hj
            simpa using this
          have HO := toHid hown'
          have HG := toHid hgrow
          clear hown' hgrow
          refine toHid ?_
          go_wp2
          go_roundw
          case rel =>
            refine ⟨k + n, f, ts ++ [(row, k)], by omega, by omega, by rw [HRL2.out]; go_num, ?_, ?_, by simp; omega, ?_⟩
            · rw [pcells_snoc, List.length_append]
              exact HO.out
            · refine (((hb.trans (hb1.mono hsz)).alloc (by omega) _).alloc (by simp; omega) _).grown HG.out (by simp; omega) (fun q hq => ?_)
              exact (World.ownsRow.lt hown q hq).1
            · refine HT.out.trans ?_
              rw [HB.out]
              simp
          case measure => rw [HRL2.out]; simp [intOf]; omega
    · go_wp2_with (first | (at_builtin; refine wpList_append_own _ rfl (.tmp 45) (.tmp 49) 30 rfl w.heap.size 49 i0 (.agg #[.int .i64 0, .int .i64 0, .string ⟨#[]⟩, .int .i64 0]) 4 40 Tryd.underlying30 hi hz0 hz1 hz2 rfl (by decide) u5 ts.length (pcells ts) rfl (hown.alloc _) ⟨wr.heap.size, 0, none⟩ 1 1 (endC s.length) rfl rfl (fun j u hj => cells_new wr (endC s.length) 49 j u hj) (fun u hu => by simp [endC] at hu; rcases hu with rfl | rfl | rfl | rfl <;> rfl) (by unfold maxLen; omega) (by omega) (by simp; omega) ?_; intro v' w2 hown' hgrow _))
      go_ret3
      have hnil : toks f (s.drop k) k = ([], none) := by
        rw [List.drop_of_length_le (by omega)]
        cases f <;> rfl
      have HF := HT.out
      rw [hnil] at HF
      simp at HF
      refine ⟨fun p hp => ?_, fun _ => ?_, (hb.alloc hsz _).grown hgrow (by simp; omega) (fun q hq => (World.ownsRow.lt hown q hq).1)⟩
      · rw [HF] at hp; simp at hp
      · rw [HF]; exact ⟨_, rfl, hown'⟩
end Go.Proofs.YtihgojcfpnhelaaDoor
