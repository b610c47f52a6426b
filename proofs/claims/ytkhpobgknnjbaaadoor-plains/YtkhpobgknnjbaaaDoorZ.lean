import Derived.Test.YtkhpobgknnjbaaaDoorY
import Derived.Test.YtkhpobgknnjbaaaDoorM
namespace Go.Proofs.YtkhpobgknnjbaaaDoor
open Go.RowKit

section
variable {len : Nat} {ts : List (By × Nat)} {b bl cp : Nat}

/-- How the whole is read. -/
def WhPost (len : Nat) (ts : List (By × Nat)) (b bl cp : Nat) (w : World) (r : Ending) (w' : World) : Prop :=
  (r = .returned (.bool true) ∧ ∃ tk' n0, Rdr w' b bl cp (ptoks len ts) ts.length tk' 0 0 ∧ spellAll tk' = toldTo ts ts.length ∧ Below b w w' ∧ n0 ≤ 1000000 ∧ runB len n0 [symB 82 0] ts = some (0, 0)) ∨
  (r = .returned (.bool false) ∧ ∃ i' tk' d' er n0, Rdr w' b bl cp (ptoks len ts) i' tk' d' er ∧ er ≠ 0 ∧ Below b w w' ∧ n0 ≤ 1000000 ∧ runB len n0 [symB 82 0] ts = some (er, pAt len ts i'))

set_option maxRecDepth 100000 in
set_option maxHeartbeats 2000000 in
theorem whole14 (hok : OkT ts) (w : World) (hS : St len ts w b bl cp 0 [] 0 0) (hN : ts.length ≤ 1000) :
    Calls Tryd.prog 14 #[.pointer (some ⟨b, 0, none⟩)] w (WhPost len ts b bl cp w) := by
  have HL := toHid (level29 (len := len) (b := b) (bl := bl) (cp := cp) hok (10 * ts.length + 7) 1 0 0 [] 0 w (by omega) (by omega) (by omega) (by omega) hS rfl)
  have HOK := toHid hok
  clear hok hS
  go_enter Tryd.func14, Tryd.ntmps14
  go_wp2_with (first | (go_at_call 29; refine HL.out.mono ?_; rintro r w1 (⟨rfl, i', tk', m, hS1, hi', hbe, hb1, hm, hgo⟩ | ⟨rfl, i', tk', d', er, m, hr1, her, hb1, hm, hno⟩) <;> refine Hid.out ?_))
  · have hlt := hS1.rd.lt
    have hle := hS1.le
    obtain ⟨k, hcl, hkk, hk20, hk0⟩ := HOK.out.cls hlt
    by_cases hend : i' < ts.length
    · have hkn : ((ptoks len ts)[i']).1 ≠ 0 := by
        rw [hkk]
        intro h
        have : k = 0 := by omega
        exact hk0.1 this hend
      have HI := toHid (is_no w1 b bl cp _ i' tk' _ 0 0 hS1.rd hkn)
      have HB := toHid hb1
      have HR := toHid (show runB len (m + 1) [symB 82 0] ts = some (3, pAt len ts i') by
        have := hgo [] 1
        rw [List.append_nil, List.drop_zero] at this
        refine (show runB len (m + 1) [symB (lv 1) 0] ts = _ from this).trans ?_
        rcases head_at len ts i' with ⟨h, _, _⟩ | ⟨r, h⟩
        · have := congrArg List.length h
          simp at this
          omega
        · rw [h]; rfl)
      clear hS1 hb1 hgo hcl hkk hk0 hkn
      refine toHid ?_
      go_wp2_with (first | (go_at_call 30; refine HI.out.mono ?_; rintro r w2 ⟨rfl, hr2, hb2⟩))
      go_ret
      exact Or.inr ⟨rfl, i', tk', _, 3, m + 1, hr2, by decide, HB.out.trans hb2, by omega, HR.out⟩
    · obtain rfl : i' = ts.length := by omega
      have hk00 : k = 0 := hk0.2 hend
      have HI := toHid (is_yes w1 b bl cp _ ts.length tk' _ 0 0 hS1.rd (by rw [hkk, hk00]; rfl))
      have HB := toHid hb1
      have HS1 := toHid hS1
      have HR := toHid (show runB len (m + 1) [symB 82 0] ts = some (0, 0) by
        have := hgo [] 1
        rw [List.append_nil, List.drop_zero, List.drop_length] at this
        exact this)
      clear hS1 hb1 hgo hcl hkk hk0
      refine toHid ?_
      go_wp2_with (first | (go_at_call 30; refine HI.out.mono ?_; rintro r w2 ⟨rfl, rfl⟩))
      go_ret
      exact Or.inl ⟨rfl, tk', m + 1, HS1.out.rd, HS1.out.told, HB.out, by omega, HR.out⟩
  · have H1 := toHid hr1
    have HB := toHid hb1
    have HE := toHid her
    have HR := toHid (show runB len m [symB 82 0] ts = some (er, pAt len ts i') by
      have := hno [] 0
      rw [List.append_nil, List.drop_zero] at this
      exact this)
    clear hr1 hb1 her hno
    refine toHid ?_
    go_wp2
    go_ret
    exact Or.inr ⟨rfl, i', tk', d', er, m, H1.out, HE.out, HB.out, by omega, HR.out⟩
end

theorem pt_cells (len : Nat) (ts : List (By × Nat)) : pcells ts ++ endC len = ptc (ptoks len ts) := by
  unfold ptoks ptc pcells endC
  rw [List.flatMap_append, List.flatMap_map]
  simp

/-- What rules.Read answers. -/
def RdPost (len : Nat) (ts : List (By × Nat)) (w : World) (e : Ending) (w' : World) : Prop :=
  Below w.heap.size w w' ∧
  ((∃ tv tk n0 B, e = .returned (.tuple #[.agg #[tv], .int .i64 0, .int .i64 0]) ∧ w'.ownsRow B 46 3 tv tk.length (ptc tk) ∧ (∀ t, t ∈ tk → 0 ≤ t.1 ∧ t.1 < 20) ∧ tk.length ≤ 1000 ∧ spellAll tk = toldTo ts ts.length ∧ ¬ 100 < (toldTo ts ts.length).length ∧ n0 ≤ 1000000 ∧ runB len n0 [symB 82 0] ts = some (0, 0)) ∨
   (∃ n0, e = .returned (.tuple #[.agg #[.slice none 0 0], .int .i64 7, .int .i64 0]) ∧ 100 < (toldTo ts ts.length).length ∧ n0 ≤ 1000000 ∧ runB len n0 [symB 82 0] ts = some (0, 0)) ∨
   (∃ er p n0, e = .returned (.tuple #[.agg #[.slice none 0 0], .int .i64 er, .int .i64 ((p : Nat) : Int)]) ∧ er ≠ 0 ∧ n0 ≤ 1000000 ∧ runB len n0 [symB 82 0] ts = some (er, p)))

set_option maxRecDepth 100000 in
set_option maxHeartbeats 4000000 in
theorem read8 (s : By) (ts : List (By × Nat)) (v : Value) (B0 : Nat) (w : World) (hE : Env w) (hB0 : 9 ≤ B0) (hok : OkT ts) (hN : ts.length ≤ 120) (hlen : ∀ t p, (t, p) ∈ ts → t.length ≤ 19) (hown : w.ownsRow B0 46 3 v (ts.length + 1) (pcells ts ++ endC s.length)) :
    Calls Tryd.prog 8 #[v] w (RdPost s.length ts w) := by
  rw [pt_cells] at hown
  have hpl : (ptoks s.length ts).length = ts.length + 1 := ptoks_length
  rw [← hpl] at hown
  rcases hown.2 with ⟨_, h0⟩ | ⟨bl, cp, cur, rfl, hbl, hgg, hcap, hmax, _⟩
  · omega
  · have hblw : bl < w.heap.size := (Array.getElem?_eq_some_iff.1 hgg).1
    have HSZ := toHid (toldTo_len ts hlen ts.length)
    have HSt := toHid (show St s.length ts ((w.alloc (.cells #[.slice none 0 0] 34)).alloc (.cells #[.slice (some ⟨bl, 0, none⟩) (ptoks s.length ts).length cp, .slice none 0 0, .int .i64 0, .int .i64 0] 50)) (w.heap.size + 1) bl cp 0 [] 0 0 by
      have hbel : Below w.heap.size w ((w.alloc (.cells #[.slice none 0 0] 34)).alloc (.cells #[.slice (some ⟨bl, 0, none⟩) (ptoks s.length ts).length cp, .slice none 0 0, .int .i64 0, .int .i64 0] 50)) := ((Below.refl _ _).alloc (Nat.le_refl _) _).alloc (by simp) _
      refine ⟨⟨⟨.slice none 0 0, ?_, World.ownsRow_nil _ _ _ _⟩, by omega, by omega, hcap, by omega, rfl, (fun t ht => by cases ht), ?_, fun j hj => ?_⟩, rfl, hE.next hbel, by omega⟩
      · have := heap_alloc_new (w.alloc (.cells #[.slice none 0 0] 34)) (.cells #[.slice (some ⟨bl, 0, none⟩) (ptoks s.length ts).length cp, .slice none 0 0, .int .i64 0, .int .i64 0] 50)
        simpa using this
      · intro t ht
        obtain ⟨j, hj, rfl⟩ := List.getElem_of_mem ht
        obtain ⟨k, _, hk, hk20, _⟩ := hok.cls hj
        rw [hk]
        omega
      · rw [hbel.cell hblw, hbel.cell hblw, hbel.cell hblw]
        refine ⟨?_, ?_, ?_⟩
        · rw [hown.cellAt (j * 3) (by omega)]; exact (ptc_get _ j hj).1
        · rw [hown.cellAt (j * 3 + 1) (by omega)]; exact (ptc_get _ j hj).2.1
        · rw [hown.cellAt (j * 3 + 2) (by omega)]; exact (ptc_get _ j hj).2.2)
    have HW := toHid (whole14 hok _ HSt.out (by omega))
    have HE := toHid hE
    have HPL := toHid hpl
    clear hown hE hok hgg hpl
    go_enter Tryd.func8, Tryd.ntmps8
    go_wp2_with (first | (go_at_call 14; refine HW.out.mono ?_; rintro r w1 (⟨rfl, tk', n0, hr1, hsp, hb1, hn0, hrun⟩ | ⟨rfl, i', tk', d', er, n0, hr1, her, hb1, hn0, hrun⟩) <;> refine Hid.out ?_))
    · obtain ⟨tv, hblk, hown1⟩ := hr1.own
      obtain ⟨ao, cap, rfl, _⟩ := pslice hown1
      have c1 : w1.cell? ⟨w.heap.size + 1, 1, none⟩ = some (.slice ao tk'.length cap) := by rw [cell_of_row w1 _ 1 _ _ _ hblk]; rfl
      have hb0 : Below (w.heap.size + 1) (w.alloc (.cells #[.slice none 0 0] 34)) w1 := ⟨hb1.os, hb1.tape, hb1.output, Nat.le_trans (by simp) hb1.size, fun q hq => (hb1.block q hq).trans (Below.heap_alloc _ _ _ (by simpa using hq))⟩
      have c2 : w1.cell? ⟨w.heap.size, 0, none⟩ = some (.slice none 0 0) := (hb0.cell (p := ⟨w.heap.size, 0, none⟩) (by simp)).trans (by simp)
      have f2 : w1.frozen? ⟨w.heap.size, 0, none⟩ = false := (hb0.frozen (p := ⟨w.heap.size, 0, none⟩) (by simp)).trans (by simp only [World.frozen?]; rw [heap_alloc_new]; rfl)
      have HB := toHid (show Below w.heap.size w w1 from ((Below.refl _ _).alloc (Nat.le_refl _) _).trans (hb0.mono (by omega)))
      have hs1 : w.heap.size + 1 < w1.heap.size := hr1.size
      have hcnt := hr1.cnt
      have hkin := toHid hr1.kin
      have HO := toHid hown1
      have HSP := toHid hsp
      have HRUN := toHid hrun
      have HE1 := toHid (HE.out.next HB.out)
      have HLN := toHid (show (spellAll tk').length ≤ 1000000 by rw [hsp]; have := HSZ.out; omega)
      have HTL := toHid (show tk'.length ≤ 1000 by omega)
      clear hblk hown1 hr1 hsp hrun hb1 hb0 hcnt
      refine toHid ?_
      go_wp2_with (first | (go_at_call 9; refine (rulePlain9 tk' _ _ _ (HE1.out.next ((Below.refl _ _).alloc (Nat.le_refl _) _)) (HO.out.alloc _) HTL.out hkin.out HLN.out).mono ?_; rw [HSP.out]; rintro e w2 ⟨rfl, hb2⟩; refine Hid.out ?_))
      have hb2' : Below w1.heap.size w1 w2 := ((Below.refl _ _).alloc (Nat.le_refl _) _).trans (hb2.mono (by simp))
      have c3 : w2.cell? ⟨w.heap.size, 0, none⟩ = some (.slice none 0 0) := (hb2'.cell (p := ⟨w.heap.size, 0, none⟩) (by show w.heap.size < w1.heap.size; omega)).trans c2
      have f3 : w2.frozen? ⟨w.heap.size, 0, none⟩ = false := (hb2'.frozen (p := ⟨w.heap.size, 0, none⟩) (by show w.heap.size < w1.heap.size; omega)).trans f2
      have c4 : w2.cell? ⟨w1.heap.size, 0, none⟩ = some (.slice ao tk'.length cap) := (hb2.cell (p := ⟨w1.heap.size, 0, none⟩) (by simp)).trans (by simp)
      have HB2 := toHid (HB.out.trans (hb2'.mono (by omega)))
      have HO2 := toHid (own_below HO.out hb2')
      have hs2 : w.heap.size + 1 < w2.heap.size := by have := hb2'.size; omega
      have HT20 := HSZ.out
      clear hb2 hb2' c1 c2 f2
      refine toHid ?_
      by_cases hbig : 100 < (toldTo ts ts.length).length <;> have HBIG := toHid hbig
      · go_wp2
        refine bodyPost_ret (v := .tuple #[.agg #[.slice none 0 0], .int .i64 7, .int .i64 0]) (by simp [results, Tryd.results8, go_sem, c3]) rfl ?_
        exact ⟨HB2.out.setCell (Nat.le_refl _) _, Or.inr (Or.inl ⟨n0, rfl, HBIG.out, hn0, HRUN.out⟩)⟩
      · go_wp2
        refine bodyPost_ret (v := .tuple #[.agg #[.slice ao tk'.length cap], .int .i64 0, .int .i64 0]) (by simp [results, Tryd.results8, go_sem, c3]) rfl ?_
        exact ⟨HB2.out.setCell (Nat.le_refl _) _, Or.inl ⟨_, tk', n0, _, rfl, ownsRow_setCell_below HO2.out (by show w.heap.size < w.heap.size + 1 + 1; omega) _, hkin.out, HTL.out, HSP.out, by have := HBIG.out; omega, hn0, HRUN.out⟩⟩
    · obtain ⟨c0, _, c3, _⟩ := hr1.cell
      have l1 := (hr1.left i' hr1.lt).2.1
      rw [ptoks_at hr1.lt] at l1
      have hb0 : Below (w.heap.size + 1) (w.alloc (.cells #[.slice none 0 0] 34)) w1 := ⟨hb1.os, hb1.tape, hb1.output, Nat.le_trans (by simp) hb1.size, fun q hq => (hb1.block q hq).trans (Below.heap_alloc _ _ _ (by simpa using hq))⟩
      have c2 : w1.cell? ⟨w.heap.size, 0, none⟩ = some (.slice none 0 0) := (hb0.cell (p := ⟨w.heap.size, 0, none⟩) (by simp)).trans (by simp)
      have f2 : w1.frozen? ⟨w.heap.size, 0, none⟩ = false := (hb0.frozen (p := ⟨w.heap.size, 0, none⟩) (by simp)).trans (by simp only [World.frozen?]; rw [heap_alloc_new]; rfl)
      have HB := toHid (show Below w.heap.size w w1 from ((Below.refl _ _).alloc (Nat.le_refl _) _).trans (hb0.mono (by omega)))
      have hs1 : w.heap.size + 1 < w1.heap.size := hr1.size
      have hlt := hr1.lt
      obtain ⟨n, hn⟩ : ∃ n, (ptoks s.length ts).length - i' = n + 1 := ⟨(ptoks s.length ts).length - i' - 1, by omega⟩
      rw [hn] at c0
      have hn1 : (0 : Int) < (n : Int) + 1 := by omega
      have hne1 : bl ≠ w.heap.size := by omega
      have HER := toHid her
      have HRUN := toHid hrun
      generalize pAt s.length ts i' = p at *
      clear hr1 hb1 hb0 her hrun hn hlt
      refine toHid ?_
      go_wp2
      go_region
      all_goals go_wp2
      all_goals refine bodyPost_ret (v := .tuple #[.agg #[.slice none 0 0], .int .i64 er, .int .i64 (p : Int)]) (by simp [results, Tryd.results8, go_sem, c2]) rfl ?_
      all_goals exact ⟨(HB.out.setCell (p := ⟨w.heap.size, 0, none⟩) (Nat.le_refl _) _).drew, Or.inr (Or.inr ⟨er, p, n0, rfl, HER.out, hn0, HRUN.out⟩)⟩
end Go.Proofs.YtkhpobgknnjbaaaDoor
