import Derived.Test.YtihgojcfpnhelaaDoorH
namespace Go.Proofs.YtihgojcfpnhelaaDoor
open Go.RowKit
attribute [local go_sem] idx_eq app_eq

def rcells (ts : List (By × Nat)) : List Value := ts.flatMap fun t => [.string ⟨t.1.toArray⟩, .int .i64 (t.2 : Int)]

theorem rcells_length (ts : List (By × Nat)) : (rcells ts).length = ts.length * 2 := by
  induction ts with
  | nil => rfl
  | cons t ts ih => simp [rcells] at *; omega

theorem rcells_snoc (ts : List (By × Nat)) (t : By) (p : Nat) : rcells (ts ++ [(t, p)]) = rcells ts ++ [.string ⟨t.toArray⟩, .int .i64 (p : Int)] := by simp [rcells]

theorem info64 : (Tryd.prog.info? 61).map (fun i => (i.zero, i.size, i.bytes)) = some (some (.agg #[.string ⟨#[]⟩, .int .i64 0]), 2, 24) := by kernel_rfl

theorem toks_space (f : Nat) (s : By) (k : Nat) (hk : k < s.length) (h : s[k] = 32) : toks (f + 1) (s.drop k) k = toks f (s.drop (k + 1)) (k + 1) := by
  rw [List.drop_eq_getElem_cons hk, h]
  rfl

theorem toks_bad (f : Nat) (s : By) (k : Nat) (hk : k < s.length) (h : s[k] ≠ 32) (hr : reachB s k = -1) : toks (f + 1) (s.drop k) k = ([], some k) := by
  have hb : tokOK ((s.drop k).take (rowLen (s.drop k))) = false := by
    unfold reachB at hr
    split at hr
    · omega
    · simp_all
  rw [List.drop_eq_getElem_cons hk] at hb ⊢
  unfold toks
  rw [if_neg h, if_neg (by rw [hb]; simp)]

theorem rowLen_pos (c : UInt8) (r : By) : 1 ≤ rowLen (c :: r) := by
  simp only [rowLen]
  split
  · omega
  · split <;> omega

theorem rowLen_le (l : By) : rowLen l ≤ l.length := by
  cases l with
  | nil => simp [rowLen]
  | cons c r =>
    have h1 := (List.takeWhile_prefix (l := r) isLD).length_le
    have h2 := (List.takeWhile_prefix (l := r) isD).length_le
    unfold rowLen
    simp only [List.length_cons]
    split
    · omega
    · split <;> omega

theorem toks_tok (f : Nat) (s : By) (k : Nat) (hk : k < s.length) (h : s[k] ≠ 32) (hr : reachB s k ≠ -1) :
    ∃ n, 1 ≤ n ∧ k + n ≤ s.length ∧ reachB s k = ((k + n : Nat) : Int) ∧
      toks (f + 1) (s.drop k) k = (((s.drop k).take n, k) :: (toks f (s.drop (k + n)) (k + n)).1, (toks f (s.drop (k + n)) (k + n)).2) := by
  have hb : tokOK ((s.drop k).take (rowLen (s.drop k))) = true := by
    unfold reachB at hr
    split at hr
    · assumption
    · simp at hr
  have hle := rowLen_le (s.drop k)
  have hpos : 1 ≤ rowLen (s.drop k) := by rw [List.drop_eq_getElem_cons hk]; exact rowLen_pos _ _
  simp at hle
  refine ⟨rowLen (s.drop k), hpos, by omega, by unfold reachB; rw [if_pos hb], ?_⟩
  have hd : s.drop (k + rowLen (s.drop k)) = (s.drop k).drop (rowLen (s.drop k)) := by simp
  rw [hd]
  have hc := List.drop_eq_getElem_cons hk
  generalize s.drop k = u at *
  subst hc
  conv => lhs; unfold toks
  rw [if_neg h, if_pos hb]

theorem below_grown {w w' : World} (h : Below w.heap.size w w') : w.grownBy w' none := ⟨h.os, h.tape, h.output, h.size, fun k hk _ => h.block k hk⟩

theorem own_below {w w' : World} {B : Nat} {e : TypeId} {z : Nat} {v : Value} {n : Nat} {xs : List Value} (h : w.ownsRow B e z v n xs) (hb : Below w.heap.size w w') : w'.ownsRow B e z v n xs :=
  h.kept (below_grown hb) (by cases hv : v.ownBlock <;> simp)

theorem cells_new (w : World) (cs : List Value) (T : TypeId) (j : Nat) (u : Value) (h : cs[j]? = some u) : (w.alloc (.cells cs.toArray T)).cell? ((⟨w.heap.size, 0, none⟩ : Addr).add j) = some u := by
  rw [show (⟨w.heap.size, 0, none⟩ : Addr).add j = ⟨w.heap.size, j, none⟩ by simp [Addr.add]; intro h; exact h.symm, World.cell?_alloc_new]
  simpa using h

/-- What 'Tokens' answers. -/
def TokPost (s : By) (w : World) (e : Ending) (w' : World) : Prop :=
  (∀ p, (toksOf s).2 = some p → e = .returned (.tuple #[.slice none 0 0, .int .i64 (p : Int)])) ∧
  ((toksOf s).2 = none → ∃ v, e = .returned (.tuple #[v, .int .i64 (-1)]) ∧ w'.ownsRow w.heap.size 61 2 v (toksOf s).1.length (rcells (toksOf s).1)) ∧
  Below w.heap.size w w'

set_option maxRecDepth 100000 in
set_option maxHeartbeats 2000000 in
theorem tokens17 (s : By) (w : World) (hl : s.length ≤ 1000) :
    Calls Tryd.prog 17 #[.string ⟨s.toArray⟩] w (TokPost s w) := by
  obtain ⟨i0, hi, hz0, hz1, hz2⟩ := info_parts info64
  go_enter Tryd.func17, Tryd.ntmps17
  go_wp2
  go_loopw [4, 5] (fun v i wr => ∃ (k f : Nat) (ts : List (By × Nat)), k ≤ s.length ∧ s.length ≤ k + f ∧ i = .int .i64 (k : Int) ∧ wr.ownsRow w.heap.size 61 2 v ts.length (rcells ts) ∧ Below w.heap.size w wr ∧ ts.length ≤ k ∧
      Hid (toksOf s = (ts ++ (toks f (s.drop k) k).1, (toks f (s.drop k) k).2))) (fun _ i _ => s.length - (intOf i).toNat)
  case atStart => exact ⟨0, s.length, [], by omega, by omega, rfl, World.ownsRow_nil _ _ _ _, Below.refl _ _, by simp, rfl⟩
  case round =>
    obtain ⟨k, f, ts, hk, hf, rfl, hown, hb, hts, HT⟩ := hrel
    have hsz := hb.size
    by_cases hlt : k < s.length
    · obtain ⟨f, rfl⟩ : ∃ g, f = g + 1 := ⟨f - 1, by omega⟩
      by_cases hsp : s[k] = 32
      · have HT2 := toHid (HT.out.trans (by rw [toks_space f s k hlt hsp]))
        have hspb : ((s[k].toNat : Int) == 32) = true := by simp [hsp]
        clear hsp
        go_wp2
        go_roundw
        case rel => exact ⟨k + 1, f, ts, by omega, by omega, by go_num, hown, hb, by omega, HT2⟩
        case measure => simp [intOf]; omega
      · have hspb : ((s[k].toNat : Int) == 32) = false := by
          simp only [beq_eq_false_iff_ne]
          intro h
          apply hsp
          apply UInt8.toNat_inj.1
          simp; omega
        by_cases hr : reachB s k = -1
        · have HB := toHid (toks_bad f s k hlt hsp hr)
          have HR := toHid hr
          clear hr hsp
          go_wp2_with (first | (go_at_call 33; refine (reach32 s k _ hlt hl).mono ?_; rintro e w1 ⟨rfl, hb1⟩; rw [HR.out]))
          go_ret2
          refine ⟨fun p hp => ?_, fun hn => ?_, hb.trans (hb1.mono hsz)⟩
          · rw [HT.out, HB.out] at hp
            simp at hp
            subst hp
            rfl
          · rw [HT.out, HB.out] at hn
            simp at hn
        · obtain ⟨n, hn1, hn2, hrn, htk⟩ := toks_tok f s k hlt hsp hr
          have HTK := toHid htk
          have HR := toHid hrn
          clear hr hsp htk hrn
          go_wp2_with (first | (go_at_call 33; refine (reach32 s k _ hlt hl).mono ?_; rintro e w1 ⟨rfl, hb1⟩; rw [HR.out]; refine Hid.out ?_))
          refine toHid ?_
          have hs1 := hb1.size
          go_wp2_with (first | (at_builtin; refine wpList_append_own _ rfl (.tmp 23) (.tmp 30) 42 rfl w.heap.size 61 i0 (.agg #[.string ⟨#[]⟩, .int .i64 0]) 2 24 Tryd.underlying42 hi hz0 hz1 hz2 rfl (by decide) u4 ts.length (rcells ts) rfl ?c0 ⟨w1.heap.size, 0, none⟩ 1 1 [.string ((ByteArray.mk s.toArray).extract k (k + n)), .int .i64 (k : Int)] rfl rfl ?c1 ?c2 ?c3 ?c4 ?c5 ?_))
          case c0 => exact (own_below hown hb1).alloc _
          case c1 => exact fun j u hj => cells_new w1 _ 61 j u hj
          case c2 => intro u hu; simp at hu; rcases hu with rfl | rfl <;> rfl
          case c3 => unfold maxLen; omega
          case c4 => omega
          case c5 => simp; omega
          intro v' w2 hown' hgrow _
          have HO := toHid hown'
          have HG := toHid hgrow
          clear hown' hgrow
          go_wp2
          go_roundw
          case rel =>
            refine ⟨k + n, f, ts ++ [((s.drop k).take n, k)], by omega, by omega, by go_num, ?_, ?_, by simp; omega, ?_⟩
            · have h := HO.out
              rw [ext_eq, show k + n - k = n by omega] at h
              rw [rcells_snoc, List.length_append]
              exact h
            · refine ((hb.trans (hb1.mono hsz)).alloc (by omega) _).grown HG.out (by simp; omega) (fun q hq => ?_)
              exact (World.ownsRow.lt hown q hq).1
            · refine HT.out.trans ?_
              rw [HTK.out]
              simp
          case measure => simp [intOf]; omega
    · go_wp2
      go_ret2
      have hnil : toks f (s.drop k) k = ([], none) := by
        rw [List.drop_of_length_le (by omega)]
        cases f <;> rfl
      have HF := HT.out
      rw [hnil] at HF
      simp at HF
      refine ⟨fun p hp => ?_, fun _ => ?_, hb⟩
      · rw [HF] at hp; simp at hp
      · rw [HF]; exact ⟨_, rfl, hown⟩
end Go.Proofs.YtihgojcfpnhelaaDoor
