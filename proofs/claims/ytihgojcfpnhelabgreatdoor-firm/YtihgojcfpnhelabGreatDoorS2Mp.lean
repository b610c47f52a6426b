import Derived.Test.YtihgojcfpnhelabGreatDoorS2Z
set_option maxRecDepth 100000
set_option maxHeartbeats 4000000
set_option linter.unusedVariables false
set_option linter.unusedSimpArgs false
namespace Go.Proofs.YtihgojcfpnhelabGreatDoor
open Go.RowKit
section
def WhPostI (len : Nat) (ts : List (By × Nat)) (b bl cp i0 : Nat) (w : World) (r : Ending) (w' : World) : Prop :=
 (∃ (p : Pt) (a : Option Addr) (l c n0 : Nat), r = .returned (.tuple #[.agg #[.int .i64 (p.k : Int), .string ⟨p.nm.toArray⟩, .int .i64 (p.n : Int), .slice a l c], .bool true]) ∧ PIs w' (fun q => w.heap.size ≤ q ∧ q < w'.heap.size) p a l c ∧ Der ts 1 i0 ts.length p ∧ Kp b w w' ∧ n0 ≤ 1000000 ∧ runB len n0 [symB 82 0] (ts.drop i0) = some (0, 0)) ∨
 (∃ (i' n0 : Nat) (d' er k n : Int) (s : By) (a : Option Addr) (l c : Nat), r = .returned (.tuple #[.agg #[.int .i64 k, .string ⟨s.toArray⟩, .int .i64 n, .slice a l c], .bool false]) ∧ Rdr w' b bl cp (ptoks len ts) i' d' er ∧ er ≠ 0 ∧ Kp b w w' ∧ n0 ≤ 1000000 ∧ runB len n0 [symB 82 0] (ts.drop i0) = some (er, pAt len ts i'))
section
variable {len : Nat} {ts : List (By × Nat)} {b bl cp i0 : Nat}
theorem wholeI (hok : OkT ts) (w : World) (hS : St len ts w b bl cp i0 0 0) (hN : ts.length ≤ 1000) :
  Calls Tryz.prog 71 #[.pointer (some ⟨b, 0, none⟩)] w (WhPostI len ts b bl cp i0 w) := by
 have hs := hS.rd.size
 have HL := tZ (fun w1 (g : St len ts w1 b bl cp i0 0 0) => level29 (len := len) (b := b) (bl := bl) (cp := cp) hok (10 * ts.length + 7) 1 i0 0 0 w1 (by omega) (by omega) (by omega) (by omega) g)
 have HOK := tZ hok
 have HS := tZ hS
 clear hok hS
 go_enter Tryz.func71, Tryz.ntmps71
 go_wp2_with (first | (go_at_call 91; refine (HL.out _ (HS.out.next (bZ _))).mono ?_; rintro r w1 (⟨i', m, p, a, l, c, rfl, hp, hD, hS1, hi', hk1, hm, hgo⟩ | ⟨i', m, d', er, kk, nn, s, a, l, c, rfl, hr1, her, hk1, hm, hno⟩) <;> refine Hid.out ?_))
 ·have hR1 := hk1.blk (q := w.heap.size) (heap_alloc_new w _) (by omega)
  obtain ⟨⟨k0, k1, k2, k3⟩, ⟨f0, f1, f2, f3⟩, hsz⟩ := row4 hR1
  have hlt := hS1.rd.lt
  have hle := hS1.le
  have hbs := hS1.rd.size
  have HI := tZ (fun w2 (g : Rdr w2 b bl cp (ptoks len ts) i' ((0 : Nat) : Int) 0) hk => is_yes w2 b bl cp _ i' _ 0 0 g hk)
  have HN := tZ (fun w2 (g : Rdr w2 b bl cp (ptoks len ts) i' ((0 : Nat) : Int) 0) hk => is_no w2 b bl cp _ i' _ 0 0 g hk)
  have HR1 := tZ hR1
  have A1 := tZ hp
  have A2 := tZ hD
  have A3 := tZ hS1
  have A4 := tZ ((Kp.of (bZ _) hs).trans hk1)
  have A5 := tZ hgo
  clear hp hD hS1 hk1 hgo hR1
  refine tZ ?_
  have HA3 := tZ (A3.out.next (bZ (.cells #[.int .i64 (p.k : Int), .string ⟨p.nm.toArray⟩, .int .i64 (p.n : Int), .slice a l c] 49)))
  obtain ⟨kk, hcl, hkk, hk20, hk0⟩ := HOK.out.cls hlt
  by_cases hend : i' < ts.length
  ·have hkn : ((ptoks len ts)[i']).1 ≠ 0 := by
    rw [hkk]
    intro h
    have : kk = 0 := by omega
    exact hk0.1 this hend
   have HKN := tZ hkn
   have HR := tZ (show runB len (m + 1) [symB 82 0] (ts.drop i0) = some (3, pAt len ts i') by
    have := A5.out [] 1
    rw [List.append_nil] at this
    refine (show runB len (m + 1) [symB (lv 1) 0] (ts.drop i0) = _ from this).trans ?_
    rcases head_at len ts i' with ⟨h, _, _⟩ | ⟨r, h⟩
    ·have := congrArg List.length h
     simp at this
     omega
    ·rw [h]; rfl)
   clear hcl hkk hk0 hkn
   go_wp2_with fail
   go_region_with (first | (go_at_call 92; refine (HN.out _ HA3.out.rd.drew HKN.out).mono ?_; rintro r w2 ⟨rfl, hr2, hb2⟩; obtain ⟨⟨y0, y1, y2, y3⟩, ⟨z0, z1, z2, z3⟩, hsy⟩ := row4 (hb2.blk (q := w.heap.size) ((Below.heap_alloc _ _ _ hsz).trans HR1.out) (by omega)); obtain ⟨⟨x0, x1, x2, x3⟩, _, hsx⟩ := row4 (hb2.blk (q := w1.heap.size) (heap_alloc_new w1 _) (by omega)); have B1 := tZ hr2; have B2 := tZ hb2; clear hr2 hb2))
   all_goals go_wp2
   all_goals refine bodyPost_ret (v := .tuple #[.agg #[.int .i64 (p.k : Int), .string ⟨p.nm.toArray⟩, .int .i64 (p.n : Int), .slice a l c], .bool false]) (by simp [results, Tryz.results71, go_sem, y0, y1, y2, y3]) rfl ?_
   all_goals exact Or.inr ⟨i', m + 1, _, 3, _, _, p.nm, a, l, c, rfl, B1.out.store4 w.heap.size _ _ _ _ hs, by decide, ((A4.out.next (bZ _) hbs).drew.trans B2.out).there4 w.heap.size _ _ _ _ (Nat.le_refl _) hs, by omega, HR.out⟩
  ·obtain rfl : i' = ts.length := by omega
   have hk00 : kk = 0 := hk0.2 hend
   have HKN := tZ (show ((ptoks len ts)[ts.length]).1 = 0 by rw [hkk, hk00]; rfl)
   have HR := tZ (show runB len (m + 1) [symB 82 0] (ts.drop i0) = some (0, 0) by
    have := A5.out [] 1
    rw [List.append_nil, List.drop_length] at this
    exact this)
   clear hcl hkk hk0
   have HFIN := tZ (show WhPostI len ts b bl cp i0 w (.returned (.tuple #[.agg #[.int .i64 (p.k : Int), .string ⟨p.nm.toArray⟩, .int .i64 (p.n : Int), .slice a l c], .bool true])) (((((w1.setCell ⟨w.heap.size, 0, none⟩ (.int .i64 (p.k : Int))).setCell ⟨w.heap.size, 1, none⟩ (.string ⟨p.nm.toArray⟩)).setCell ⟨w.heap.size, 2, none⟩ (.int .i64 (p.n : Int))).setCell ⟨w.heap.size, 3, none⟩ (.slice a l c)).alloc (.cells #[.int .i64 (p.k : Int), .string ⟨p.nm.toArray⟩, .int .i64 (p.n : Int), .slice a l c] 49)).drew from by
    have hkA := A4.out.there4 w.heap.size (.int .i64 (p.k : Int)) (.string ⟨p.nm.toArray⟩) (.int .i64 (p.n : Int)) (.slice a l c) (Nat.le_refl _) hs
    refine Or.inl ⟨p, a, l, c, m + 1, rfl, (A1.out.next fun q hq => ?_).wide fun q hq => ?_, A2.out, (hkA.next (bZ _) (by rw [size4]; exact hbs)).drew, by omega, HR.out⟩
    ·have hq1 := hq.1
     simp at hq1
     exact (Below.heap_alloc _ _ _ (by rw [size4]; exact hq.2)).trans (heap4 _ _ _ _ _ _ (by omega))
    ·have hq1 := hq.1
     have hq2 := hq.2
     simp at hq1
     refine ⟨by omega, ?_⟩
     show q < (World.alloc _ _).heap.size
     simp
     omega)
   go_wp2_with fail
   go_region_with (first | (go_at_call 92; refine (HI.out _ HA3.out.rd.drew HKN.out).mono ?_; rintro r w2 ⟨rfl, rfl⟩))
   all_goals go_wp2
   all_goals refine bodyPost_ret (v := .tuple #[.agg #[.int .i64 (p.k : Int), .string ⟨p.nm.toArray⟩, .int .i64 (p.n : Int), .slice a l c], .bool true]) (by simp [results, Tryz.results71, go_sem, k0, k1, k2, k3, hsz]) rfl ?_
   all_goals exact HFIN.out
 ·have hR1 := hk1.blk (q := w.heap.size) (heap_alloc_new w _) (by omega)
  obtain ⟨⟨k0, k1, k2, k3⟩, ⟨f0, f1, f2, f3⟩, hsz⟩ := row4 hR1
  have hbs := hr1.size
  have A1 := tZ hr1
  have A4 := tZ ((Kp.of (bZ _) hs).trans hk1)
  have A6 := tZ her
  have HR := tZ (show runB len m [symB 82 0] (ts.drop i0) = some (er, pAt len ts i') by
   have := hno [] 0
   rw [List.append_nil] at this
   exact this)
  clear hr1 hk1 hno her hR1
  have HFIN := tZ (show WhPostI len ts b bl cp i0 w (.returned (.tuple #[.agg #[.int .i64 kk, .string ⟨s.toArray⟩, .int .i64 nn, .slice a l c], .bool false])) (((((w1.setCell ⟨w.heap.size, 0, none⟩ (.int .i64 kk)).setCell ⟨w.heap.size, 1, none⟩ (.string ⟨s.toArray⟩)).setCell ⟨w.heap.size, 2, none⟩ (.int .i64 nn)).setCell ⟨w.heap.size, 3, none⟩ (.slice a l c)).alloc (.cells #[.int .i64 kk, .string ⟨s.toArray⟩, .int .i64 nn, .slice a l c] 49)).drew from by
   have hkA := A4.out.there4 w.heap.size (.int .i64 kk) (.string ⟨s.toArray⟩) (.int .i64 nn) (.slice a l c) (Nat.le_refl _) hs
   exact Or.inr ⟨i', m, d', er, kk, nn, s, a, l, c, rfl, ((A1.out.store4 w.heap.size _ _ _ _ hs).next (bZ _)).drew, A6.out, (hkA.next (bZ _) (by rw [size4]; exact hbs)).drew, by omega, HR.out⟩)
  refine tZ ?_
  go_wp2_with fail
  go_region
  all_goals go_wp2
  all_goals refine bodyPost_ret (v := .tuple #[.agg #[.int .i64 kk, .string ⟨s.toArray⟩, .int .i64 nn, .slice a l c], .bool false]) (by simp [results, Tryz.results71, go_sem, k0, k1, k2, k3, hsz]) rfl ?_
  all_goals exact HFIN.out
end
theorem tAt_drop (ts : List (By × Nat)) (i0 i : Nat) : tAt (ts.drop i0) i = tAt ts (i0 + i) := by
 simp [tAt, List.getElem?_drop]
theorem Der.drop {ts : List (By × Nat)} {n i j : Nat} {p : Pt} (h : Der ts n i j p) : ∀ i0 i', i = i0 + i' → Der (ts.drop i0) n i' (j - i0) p := by
 induction h with
 | atom i k hi hc hk =>
  rintro i0 i' rfl
  have := Der.atom (ts := ts.drop i0) i' k (by simp; omega) (by rw [tAt_drop]; exact hc) hk
  rw [tAt_drop] at this
  rw [show i0 + i' + 1 - i0 = i' + 1 by omega]
  exact this
 | nots i j a ht _ ih =>
  rintro i0 i' rfl
  exact Der.nots i' _ a (by rw [tAt_drop]; exact ht) (ih i0 (i' + 1) (by omega))
 | neg i j a ht _ ih =>
  rintro i0 i' rfl
  exact Der.neg i' _ a (by rw [tAt_drop]; exact ht) (ih i0 (i' + 1) (by omega))
 | br i j a ht hd hj ih =>
  rintro i0 i' rfl
  have hlt := hd.lt
  rw [show j + 1 - i0 = j - i0 + 1 by omega]
  exact Der.br i' _ a (by rw [tAt_drop]; exact ht) (ih i0 (i' + 1) (by omega)) (by rw [tAt_drop, show i0 + (j - i0) = j by omega]; exact hj)
 | ifs i j1 j2 j3 a b c ht ho h1 hc1 h2 hc2 h3 hc3 ih1 ih2 ih3 =>
  rintro i0 i' rfl
  have l1 := h1.lt
  have l2 := h2.lt
  have l3 := h3.lt
  rw [show j3 + 1 - i0 = j3 - i0 + 1 by omega]
  exact Der.ifs i' (j1 - i0) (j2 - i0) (j3 - i0) a b c (by rw [tAt_drop]; exact ht) (by rw [tAt_drop]; exact ho) (ih1 i0 (i' + 1 + 1) (by omega)) (by rw [tAt_drop, show i0 + (j1 - i0) = j1 by omega]; exact hc1) (ih2 i0 (j1 - i0 + 1) (by omega)) (by rw [tAt_drop, show i0 + (j2 - i0) = j2 by omega]; exact hc2) (ih3 i0 (j2 - i0 + 1) (by omega)) (by rw [tAt_drop, show i0 + (j3 - i0) = j3 by omega]; exact hc3)
 | up n i j a h1 h2 _ ih =>
  rintro i0 i' rfl
  exact Der.up n i' _ a h1 h2 (ih i0 i' rfl)
 | more n i j j' k a b h1 h2 ha hs hc hb iha ihb =>
  rintro i0 i' rfl
  have l1 := ha.lt
  exact Der.more n i' (j - i0) _ k a b h1 h2 (iha i0 i' rfl) (by rw [tAt_drop, show i0 + (j - i0) = j by omega]; exact hs) (by rw [tAt_drop, show i0 + (j - i0) = j by omega]; exact hc) (ihb i0 (j - i0 + 1) (by omega))
theorem OkT.drop {ts : List (By × Nat)} (h : OkT ts) (i0 : Nat) : OkT (ts.drop i0) := fun t p hm => h t p (List.mem_of_mem_drop hm)
end
section
def RdPost (len : Nat) (ts : List (By × Nat)) (w : World) (e : Ending) (w' : World) : Prop :=
 Below w.heap.size w w' ∧
 ((∃ (p : Pt) (a : Option Addr) (l c n0 : Nat), e = .returned (.tuple #[.agg #[.int .i64 (p.k : Int), .string ⟨p.nm.toArray⟩, .int .i64 (p.n : Int), .slice a l c], .int .i64 0, .int .i64 0]) ∧ PIs w' (fun q => w.heap.size ≤ q ∧ q < w'.heap.size) p a l c ∧ Der ts 1 0 ts.length p ∧ txt p = toldTo ts ts.length ∧ ¬ 100 < (toldTo ts ts.length).length ∧ n0 ≤ 1000000 ∧ runB len n0 [symB 82 0] ts = some (0, 0)) ∨
  (∃ n0, e = .returned (.tuple #[.agg #[.int .i64 0, .string ⟨#[]⟩, .int .i64 0, .slice none 0 0], .int .i64 7, .int .i64 0]) ∧ 100 < (toldTo ts ts.length).length ∧ n0 ≤ 1000000 ∧ runB len n0 [symB 82 0] ts = some (0, 0)) ∨
  (∃ er p n0, e = .returned (.tuple #[.agg #[.int .i64 0, .string ⟨#[]⟩, .int .i64 0, .slice none 0 0], .int .i64 er, .int .i64 ((p : Nat) : Int)]) ∧ er ≠ 0 ∧ n0 ≤ 1000000 ∧ runB len n0 [symB 82 0] ts = some (er, p)))
theorem below4 {w w' : World} (h : Below w.heap.size w w') (g : Nat) (hg : w.heap.size ≤ g) (v0 v1 v2 v3 : Value) : Below w.heap.size w ((((w'.setCell ⟨g, 0, none⟩ v0).setCell ⟨g, 1, none⟩ v1).setCell ⟨g, 2, none⟩ v2).setCell ⟨g, 3, none⟩ v3) :=
 (((h.setCell (p := ⟨g, 0, none⟩) hg _).setCell (p := ⟨g, 1, none⟩) hg _).setCell (p := ⟨g, 2, none⟩) hg _).setCell (p := ⟨g, 3, none⟩) hg _
end
section
theorem readI (s : By) (ts : List (By × Nat)) (bl cp i0 : Nat) (B0 : Nat) (w : World) (hE : Env w) (hB0 : 11 ≤ B0) (hok : OkT ts) (hN : ts.length ≤ 120) (hi0 : i0 ≤ ts.length) (hlen : ∀ t p, (t, p) ∈ ts → t.length ≤ 19) (hown : w.ownsRow B0 78 4 (.slice (some ⟨bl, 0, none⟩) (ts.length + 1) cp) (ts.length + 1) (pcells ts ++ endC s.length)) :
  Calls Tryz.prog 53 #[.slice (some ⟨bl, i0 * 4, none⟩) ((ptoks s.length ts).length - i0) (cp - i0)] w (RdPost s.length (ts.drop i0) w) := by
 rw [pt_cells] at hown
 have hpl : (ptoks s.length ts).length = ts.length + 1 := ptoks_length
 rw [← hpl] at hown
 rcases hown.2 with ⟨_, h0⟩ | ⟨bl', cp', cur, heq, hbl, hgg, hcap, hmax, _⟩
 ·omega
 ·obtain ⟨rfl, rfl⟩ : bl = bl' ∧ cp = cp' := by simpa using heq
  have hblw : bl < w.heap.size := (Array.getElem?_eq_some_iff.1 hgg).1
  have HSZ := tZ (toldTo_len (ts.drop i0) (fun t p hm => hlen t p (List.mem_of_mem_drop hm)) (ts.drop i0).length)
  have HSt := tZ (show St s.length ts ((w.alloc (.cells #[.int .i64 0, .string ⟨#[]⟩, .int .i64 0, .slice none 0 0] 51)).alloc (.cells #[.slice (some ⟨bl, i0 * 4, none⟩) ((ptoks s.length ts).length - i0) (cp - i0), .int .i64 0, .int .i64 0] 141)) (w.heap.size + 1) bl cp i0 0 0 by
   have hbel := below2 w (.cells #[.int .i64 0, .string ⟨#[]⟩, .int .i64 0, .slice none 0 0] 51) (.cells #[.slice (some ⟨bl, i0 * 4, none⟩) ((ptoks s.length ts).length - i0) (cp - i0), .int .i64 0, .int .i64 0] 141)
   refine ⟨⟨?_, by omega, by omega, hcap, by omega, ?_, fun j hj => ?_⟩, hE.next hbel, by omega⟩
   ·exact alloc2_new w _ _ _
   ·intro t ht
    obtain ⟨j, hj, rfl⟩ := List.getElem_of_mem ht
    obtain ⟨k, _, hk, hk20, _⟩ := hok.cls hj
    rw [hk]
    omega
   ·rw [hbel.cell hblw, hbel.cell hblw, hbel.cell hblw, hbel.cell hblw]
    refine ⟨?_, ?_, ?_, ?_⟩
    ·rw [hown.cellAt (j * 4) (by omega)]; exact (ptc_get _ j hj).1
    ·rw [hown.cellAt (j * 4 + 1) (by omega)]; exact (ptc_get _ j hj).2.1
    ·rw [hown.cellAt (j * 4 + 2) (by omega)]; exact (ptc_get _ j hj).2.2.1
    ·rw [hown.cellAt (j * 4 + 3) (by omega)]; exact (ptc_get _ j hj).2.2.2)
  have HW := tZ (wholeI hok _ HSt.out (by omega))
  have HE := tZ hE
  have HDL := tZ (show (ts.drop i0).length ≤ ts.length by rw [List.length_drop]; omega)
  have HOK := tZ hok
  clear hown hE hok hgg hpl
  go_enter Tryz.func53, Tryz.ntmps53
  go_wp2_with (first | (go_at_call 71; refine HW.out.mono ?_; rintro r w1 (⟨p, a, l, c, n0, rfl, hp, hD, hk1, hn0, hrun⟩ | ⟨i', n0, d', er, kk, nn, sx, a, l, c, rfl, hr1, her, hk1, hn0, hrun⟩) <;> refine Hid.out ?_))
  ·have hR1 := hk1.blk (alloc2_old w _ _ _) (by omega)
   have hsz1 := (Array.getElem?_eq_some_iff.1 hR1).1
   have hb1 : Below w.heap.size w w1 := (below2 w _ _).trans (hk1.bel.mono (by omega))
   have HG := tZ (hD.good HOK.out)
   have hD : Der (ts.drop i0) 1 0 (ts.drop i0).length p := by
    have := hD.drop i0 0 rfl
    rw [List.length_drop]
    exact this
   have htold : txt p = toldTo (ts.drop i0) (ts.drop i0).length := by
    have := (hD.told (HOK.out.drop i0) rfl).2.2
    rw [this]
    rfl
   have hlt : (txt p).length ≤ 1000000 := by rw [htold]; have := HSZ.out; have := HDL.out; omega
   have hb2 : Below w1.heap.size w1 (w1.alloc (.cells #[.int .i64 (p.k : Int), .string ⟨p.nm.toArray⟩, .int .i64 (p.n : Int), .slice a l c] 49)) := (Below.refl _ _).alloc (Nat.le_refl _) _
   have HBd := tZ (bounded15 p a l c _ (hp.next fun q hq => hb2.block q hq.2) (fun q hq => Nat.lt_of_lt_of_le hq.2 hb2.size) ((HE.out.next hb1).next hb2) HG.out hlt)
   have HR1 := tZ hR1
   have HB1 := tZ hb1
   have HP := tZ hp
   have HD := tZ hD
   have HTOLD := tZ htold
   have HRUN := tZ hrun
   clear hR1 hb1 hp hD htold hrun hk1 hb2 hlt
   refine tZ ?_
   go_wp2_with (first | (go_at_call 72; refine HBd.out.mono ?_; rintro e w2 ⟨hb2, (⟨hbig, rfl⟩ | ⟨hbig, rfl⟩)⟩ <;> refine Hid.out ?_))
   ·have hR2 := (hb2.block w.heap.size (by simp; omega)).trans ((Below.heap_alloc _ _ _ hsz1).trans HR1.out)
    obtain ⟨⟨k0, k1, k2, k3⟩, ⟨f0, f1, f2, f3⟩, hsz2⟩ := row4 hR2
    have HB2 := tZ (show Below w.heap.size w w2 from (HB1.out.alloc (by omega) _).trans (hb2.mono (by simp; omega)))
    have HB3 := tZ hb2
    have HBIG := tZ hbig
    clear hb2 hR2 hbig
    refine tZ ?_
    go_wp2
    refine bodyPost_ret (v := .tuple #[.agg #[.int .i64 0, .string ⟨#[]⟩, .int .i64 0, .slice none 0 0], .int .i64 7, .int .i64 0]) (by simp [results, Tryz.results53, go_sem, k0, k1, k2, k3, hsz2]) rfl ?_
    exact ⟨(below4 HB2.out w.heap.size (Nat.le_refl _) _ _ _ _).alloc (by rw [size4]; omega) _, Or.inr (Or.inl ⟨n0, rfl, by rw [← HTOLD.out]; exact HBIG.out, hn0, HRUN.out⟩)⟩
   ·have hR2 := (hb2.block w.heap.size (by simp; omega)).trans ((Below.heap_alloc _ _ _ hsz1).trans HR1.out)
    obtain ⟨⟨k0, k1, k2, k3⟩, ⟨f0, f1, f2, f3⟩, hsz2⟩ := row4 hR2
    have HB2 := tZ (show Below w.heap.size w w2 from (HB1.out.alloc (by omega) _).trans (hb2.mono (by simp; omega)))
    have HB3 := tZ hb2
    have HBIG := tZ hbig
    clear hb2 hR2 hbig
    refine tZ ?_
    go_wp2
    refine bodyPost_ret (v := .tuple #[.agg #[.int .i64 (p.k : Int), .string ⟨p.nm.toArray⟩, .int .i64 (p.n : Int), .slice a l c], .int .i64 0, .int .i64 0]) (by simp [results, Tryz.results53, go_sem, k0, k1, k2, k3, hsz2]) rfl ?_
    have hs12 := HB3.out.size
    simp at hs12
    refine ⟨(below4 HB2.out w.heap.size (Nat.le_refl _) _ _ _ _).alloc (by rw [size4]; omega) _, Or.inl ⟨p, a, l, c, n0, rfl, (HP.out.next fun q hq => ?_).wide fun q hq => ?_, HD.out, HTOLD.out, by rw [← HTOLD.out]; exact HBIG.out, hn0, HRUN.out⟩⟩
    ·have hq1 := hq.1
     simp at hq1
     rw [Below.heap_alloc _ _ _ (by rw [size4]; omega), heap4 _ _ _ _ _ _ (by omega), HB3.out.block q (by simp; omega), Below.heap_alloc _ _ _ hq.2]
    ·have hq1 := hq.1
     have hq2 := hq.2
     simp at hq1 ⊢
     omega
  ·have hR1 := hk1.blk (alloc2_old w _ _ _) (by omega)
   obtain ⟨⟨k0, k1, k2, k3⟩, ⟨f0, f1, f2, f3⟩, hsz1⟩ := row4 hR1
   have hb1 : Below w.heap.size w w1 := (below2 w _ _).trans (hk1.bel.mono (by omega))
   obtain ⟨c0, _, c3, _⟩ := hr1.cell
   have l1 := (hr1.left i' hr1.lt).2.1
   rw [ptoks_at hr1.lt] at l1
   have hlt := hr1.lt
   have hbs := hr1.size
   obtain ⟨n, hn⟩ : ∃ n, (ptoks s.length ts).length - i' = n + 1 := ⟨(ptoks s.length ts).length - i' - 1, by omega⟩
   rw [hn] at c0
   have hn1 : (0 : Int) < (n : Int) + 1 := by omega
   have hne1 : bl ≠ w.heap.size := by omega
   have hblw1 : bl < w1.heap.size := by omega
   have hne2 : w.heap.size + 1 ≠ w.heap.size := by omega
   have HER := tZ her
   have HRUN := tZ hrun
   have HB := tZ hb1
   generalize pAt s.length ts i' = p at *
   clear hr1 hb1 hk1 her hrun hn hlt hR1
   refine tZ ?_
   have HFIN := tZ (show RdPost s.length (ts.drop i0) w (.returned (.tuple #[.agg #[.int .i64 0, .string ⟨#[]⟩, .int .i64 0, .slice none 0 0], .int .i64 er, .int .i64 (p : Int)])) (((((w1.setCell ⟨w.heap.size, 0, none⟩ (.int .i64 0)).setCell ⟨w.heap.size, 1, none⟩ (.string ⟨#[]⟩)).setCell ⟨w.heap.size, 2, none⟩ (.int .i64 0)).setCell ⟨w.heap.size, 3, none⟩ (.slice none 0 0)).alloc (.cells #[.int .i64 kk, .string ⟨sx.toArray⟩, .int .i64 nn, .slice a l c] 49)).drew from
    ⟨((below4 HB.out w.heap.size (Nat.le_refl _) _ _ _ _).alloc (by rw [size4]; omega) _).drew, Or.inr (Or.inr ⟨er, p, n0, rfl, HER.out, hn0, HRUN.out⟩)⟩)
   go_wp2_with fail
   go_region
   all_goals go_wp2
   all_goals refine bodyPost_ret (v := .tuple #[.agg #[.int .i64 0, .string ⟨#[]⟩, .int .i64 0, .slice none 0 0], .int .i64 er, .int .i64 (p : Int)]) (by simp [results, Tryz.results53, go_sem, k0, k1, k2, k3, hsz1]) rfl ?_
   all_goals exact HFIN.out
end
end Go.Proofs.YtihgojcfpnhelabGreatDoor
