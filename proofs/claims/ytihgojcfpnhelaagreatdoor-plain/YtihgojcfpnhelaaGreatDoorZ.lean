import Derived.Test.YtihgojcfpnhelaaGreatDoorYb
set_option linter.unusedVariables false
set_option linter.unusedSimpArgs false
namespace Go.Proofs.YtihgojcfpnhelaaGreatDoor
open Go.RowKit

/-- What 'whole' answers. -/
def WhPost (len : Nat) (ts : List (By × Nat)) (b bl cp : Nat) (w : World) (r : Ending) (w' : World) : Prop :=
  (∃ (p : Pt) (a : Option Addr) (l c n0 : Nat), r = .returned (.tuple #[.agg #[.int .i64 (p.k : Int), .string ⟨p.nm.toArray⟩, .int .i64 (p.n : Int), .slice a l c], .bool true]) ∧ PIs w' (fun q => w.heap.size ≤ q ∧ q < w'.heap.size) p a l c ∧ Der ts 1 0 ts.length p ∧ Kp b w w' ∧ n0 ≤ 1000000 ∧ runB len n0 [symB 82 0] ts = some (0, 0)) ∨
  (∃ (i' n0 : Nat) (d' er k n : Int) (s : By) (a : Option Addr) (l c : Nat), r = .returned (.tuple #[.agg #[.int .i64 k, .string ⟨s.toArray⟩, .int .i64 n, .slice a l c], .bool false]) ∧ Rdr w' b bl cp (ptoks len ts) i' d' er ∧ er ≠ 0 ∧ Kp b w w' ∧ n0 ≤ 1000000 ∧ runB len n0 [symB 82 0] ts = some (er, pAt len ts i'))

section
variable {len : Nat} {ts : List (By × Nat)} {b bl cp : Nat}

set_option maxRecDepth 100000 in
set_option maxHeartbeats 8000000 in
theorem whole14 (hok : OkT ts) (w : World) (hS : St len ts w b bl cp 0 0 0) (hN : ts.length ≤ 1000) :
    Calls Tryz.prog 61 #[.pointer (some ⟨b, 0, none⟩)] w (WhPost len ts b bl cp w) := by
  have hs := hS.rd.size
  have HL := toHid (fun w1 (g : St len ts w1 b bl cp 0 0 0) => level29 (len := len) (b := b) (bl := bl) (cp := cp) hok (10 * ts.length + 7) 1 0 0 0 w1 (by omega) (by omega) (by omega) (by omega) g)
  have HOK := toHid hok
  have HS := toHid hS
  clear hok hS
  go_enter Tryz.func61, Tryz.ntmps61
  go_wp2_with (first | (go_at_call 93; refine (HL.out _ (HS.out.next ((Below.refl _ _).alloc (Nat.le_refl _) _))).mono ?_; rintro r w1 (⟨i', m, p, a, l, c, rfl, hp, hD, hS1, hi', hk1, hm, hgo⟩ | ⟨i', m, d', er, kk, nn, s, a, l, c, rfl, hr1, her, hk1, hm, hno⟩) <;> refine Hid.out ?_))
  · have hR1 := hk1.blk (q := w.heap.size) (heap_alloc_new w _) (by omega)
    obtain ⟨⟨k0, k1, k2, k3⟩, ⟨f0, f1, f2, f3⟩, hsz⟩ := row4 hR1
    have hlt := hS1.rd.lt
    have hle := hS1.le
    have hbs := hS1.rd.size
    have HI := toHid (fun w2 (g : Rdr w2 b bl cp (ptoks len ts) i' ((0 : Nat) : Int) 0) hk => is_yes w2 b bl cp _ i' _ 0 0 g hk)
    have HN := toHid (fun w2 (g : Rdr w2 b bl cp (ptoks len ts) i' ((0 : Nat) : Int) 0) hk => is_no w2 b bl cp _ i' _ 0 0 g hk)
    have HR1 := toHid hR1
    have A1 := toHid hp
    have A2 := toHid hD
    have A3 := toHid hS1
    have A4 := toHid ((Kp.of ((Below.refl _ _).alloc (Nat.le_refl _) _) hs).trans hk1)
    have A5 := toHid hgo
    clear hp hD hS1 hk1 hgo hR1
    refine toHid ?_
    have HA3 := toHid (A3.out.next ((Below.refl _ _).alloc (Nat.le_refl _) (.cells #[.int .i64 (p.k : Int), .string ⟨p.nm.toArray⟩, .int .i64 (p.n : Int), .slice a l c] 87)))
    obtain ⟨kk, hcl, hkk, hk20, hk0⟩ := HOK.out.cls hlt
    by_cases hend : i' < ts.length
    · have hkn : ((ptoks len ts)[i']).1 ≠ 0 := by
        rw [hkk]
        intro h
        have : kk = 0 := by omega
        exact hk0.1 this hend
      have HKN := toHid hkn
      have HR := toHid (show runB len (m + 1) [symB 82 0] ts = some (3, pAt len ts i') by
        have := A5.out [] 1
        rw [List.append_nil, List.drop_zero] at this
        refine (show runB len (m + 1) [symB (lv 1) 0] ts = _ from this).trans ?_
        rcases head_at len ts i' with ⟨h, _, _⟩ | ⟨r, h⟩
        · have := congrArg List.length h
          simp at this
          omega
        · rw [h]; rfl)
      clear hcl hkk hk0 hkn
      go_wp2_with fail
      go_region_with (first | (go_at_call 94; refine (HN.out _ HA3.out.rd.drew HKN.out).mono ?_; rintro r w2 ⟨rfl, hr2, hb2⟩; obtain ⟨⟨y0, y1, y2, y3⟩, ⟨z0, z1, z2, z3⟩, hsy⟩ := row4 (hb2.blk (q := w.heap.size) ((Below.heap_alloc _ _ _ hsz).trans HR1.out) (by omega)); obtain ⟨⟨x0, x1, x2, x3⟩, _, hsx⟩ := row4 (hb2.blk (q := w1.heap.size) (heap_alloc_new w1 _) (by omega)); have B1 := toHid hr2; have B2 := toHid hb2; clear hr2 hb2))
      all_goals go_wp2
      all_goals refine bodyPost_ret (v := .tuple #[.agg #[.int .i64 (p.k : Int), .string ⟨p.nm.toArray⟩, .int .i64 (p.n : Int), .slice a l c], .bool false]) (by simp [results, Tryz.results61, go_sem, y0, y1, y2, y3]) rfl ?_
      all_goals exact Or.inr ⟨i', m + 1, _, 3, _, _, p.nm, a, l, c, rfl, B1.out.store4 w.heap.size _ _ _ _ hs, by decide, ((A4.out.next ((Below.refl _ _).alloc (Nat.le_refl _) _) hbs).drew.trans B2.out).there4 w.heap.size _ _ _ _ (Nat.le_refl _) hs, by omega, HR.out⟩
    · obtain rfl : i' = ts.length := by omega
      have hk00 : kk = 0 := hk0.2 hend
      have HKN := toHid (show ((ptoks len ts)[ts.length]).1 = 0 by rw [hkk, hk00]; rfl)
      have HR := toHid (show runB len (m + 1) [symB 82 0] ts = some (0, 0) by
        have := A5.out [] 1
        rw [List.append_nil, List.drop_zero, List.drop_length] at this
        exact this)
      clear hcl hkk hk0
      have HFIN := toHid (show WhPost len ts b bl cp w (.returned (.tuple #[.agg #[.int .i64 (p.k : Int), .string ⟨p.nm.toArray⟩, .int .i64 (p.n : Int), .slice a l c], .bool true])) (((((w1.setCell ⟨w.heap.size, 0, none⟩ (.int .i64 (p.k : Int))).setCell ⟨w.heap.size, 1, none⟩ (.string ⟨p.nm.toArray⟩)).setCell ⟨w.heap.size, 2, none⟩ (.int .i64 (p.n : Int))).setCell ⟨w.heap.size, 3, none⟩ (.slice a l c)).alloc (.cells #[.int .i64 (p.k : Int), .string ⟨p.nm.toArray⟩, .int .i64 (p.n : Int), .slice a l c] 87)).drew from by
        have hkA := A4.out.there4 w.heap.size (.int .i64 (p.k : Int)) (.string ⟨p.nm.toArray⟩) (.int .i64 (p.n : Int)) (.slice a l c) (Nat.le_refl _) hs
        refine Or.inl ⟨p, a, l, c, m + 1, rfl, (A1.out.next fun q hq => ?_).wide fun q hq => ?_, A2.out, (hkA.next ((Below.refl _ _).alloc (Nat.le_refl _) _) (by rw [size4]; exact hbs)).drew, by omega, HR.out⟩
        · have hq1 := hq.1
          simp at hq1
          exact (Below.heap_alloc _ _ _ (by rw [size4]; exact hq.2)).trans (heap4 _ _ _ _ _ _ (by omega))
        · have hq1 := hq.1
          have hq2 := hq.2
          simp at hq1
          refine ⟨by omega, ?_⟩
          show q < (World.alloc _ _).heap.size
          simp
          omega)
      go_wp2_with fail
      go_region_with (first | (go_at_call 94; refine (HI.out _ HA3.out.rd.drew HKN.out).mono ?_; rintro r w2 ⟨rfl, rfl⟩))
      all_goals go_wp2
      all_goals refine bodyPost_ret (v := .tuple #[.agg #[.int .i64 (p.k : Int), .string ⟨p.nm.toArray⟩, .int .i64 (p.n : Int), .slice a l c], .bool true]) (by simp [results, Tryz.results61, go_sem, k0, k1, k2, k3, hsz]) rfl ?_
      all_goals exact HFIN.out
  · have hR1 := hk1.blk (q := w.heap.size) (heap_alloc_new w _) (by omega)
    obtain ⟨⟨k0, k1, k2, k3⟩, ⟨f0, f1, f2, f3⟩, hsz⟩ := row4 hR1
    have hbs := hr1.size
    have A1 := toHid hr1
    have A4 := toHid ((Kp.of ((Below.refl _ _).alloc (Nat.le_refl _) _) hs).trans hk1)
    have A6 := toHid her
    have HR := toHid (show runB len m [symB 82 0] ts = some (er, pAt len ts i') by
      have := hno [] 0
      rw [List.append_nil, List.drop_zero] at this
      exact this)
    clear hr1 hk1 hno her hR1
    have HFIN := toHid (show WhPost len ts b bl cp w (.returned (.tuple #[.agg #[.int .i64 kk, .string ⟨s.toArray⟩, .int .i64 nn, .slice a l c], .bool false])) (((((w1.setCell ⟨w.heap.size, 0, none⟩ (.int .i64 kk)).setCell ⟨w.heap.size, 1, none⟩ (.string ⟨s.toArray⟩)).setCell ⟨w.heap.size, 2, none⟩ (.int .i64 nn)).setCell ⟨w.heap.size, 3, none⟩ (.slice a l c)).alloc (.cells #[.int .i64 kk, .string ⟨s.toArray⟩, .int .i64 nn, .slice a l c] 87)).drew from by
      have hkA := A4.out.there4 w.heap.size (.int .i64 kk) (.string ⟨s.toArray⟩) (.int .i64 nn) (.slice a l c) (Nat.le_refl _) hs
      exact Or.inr ⟨i', m, d', er, kk, nn, s, a, l, c, rfl, ((A1.out.store4 w.heap.size _ _ _ _ hs).next ((Below.refl _ _).alloc (Nat.le_refl _) _)).drew, A6.out, (hkA.next ((Below.refl _ _).alloc (Nat.le_refl _) _) (by rw [size4]; exact hbs)).drew, by omega, HR.out⟩)
    refine toHid ?_
    go_wp2_with fail
    go_region
    all_goals go_wp2
    all_goals refine bodyPost_ret (v := .tuple #[.agg #[.int .i64 kk, .string ⟨s.toArray⟩, .int .i64 nn, .slice a l c], .bool false]) (by simp [results, Tryz.results61, go_sem, k0, k1, k2, k3, hsz]) rfl ?_
    all_goals exact HFIN.out
end

theorem ptc_get (tk : List PT) (j : Nat) (h : j < tk.length) : (ptc tk)[j * 4]? = some (.int .i64 tk[j].1) ∧ (ptc tk)[j * 4 + 1]? = some (.int .i64 (tk[j].2.1 : Int)) ∧ (ptc tk)[j * 4 + 2]? = some (.string ⟨tk[j].2.2.1.toArray⟩) ∧ (ptc tk)[j * 4 + 3]? = some (.int .i64 (tk[j].2.2.2 : Int)) := by
  induction tk generalizing j with
  | nil => simp at h
  | cons t tk ih =>
    have hc : ptc (t :: tk) = .int .i64 t.1 :: .int .i64 (t.2.1 : Int) :: .string ⟨t.2.2.1.toArray⟩ :: .int .i64 (t.2.2.2 : Int) :: ptc tk := by simp [ptc]
    rw [hc]
    cases j with
    | zero => simp
    | succ j =>
      have := ih j (by simpa using h)
      rw [show (j + 1) * 4 = j * 4 + 1 + 1 + 1 + 1 by omega]
      simpa using this

theorem pt_cells (len : Nat) (ts : List (By × Nat)) : pcells ts ++ endC len = ptc (ptoks len ts) := by
  unfold ptoks ptc pcells endC
  rw [List.flatMap_append, List.flatMap_map]
  simp
end Go.Proofs.YtihgojcfpnhelaaGreatDoor
