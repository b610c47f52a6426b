import Derived.Test.YtihgojcfpnhelaaDoorZ
namespace Go.Proofs.YtihgojcfpnhelaaDoor
open Go.RowKit

/-- What rules.Read answers. -/
def RdPost (len : Nat) (ts : List (By × Nat)) (w : World) (e : Ending) (w' : World) : Prop :=
  Below w.heap.size w w' ∧
  ((∃ (p : Pt) (a : Option Addr) (l c n0 : Nat), e = .returned (.tuple #[.agg #[.int .i64 (p.k : Int), .string ⟨p.nm.toArray⟩, .int .i64 (p.n : Int), .slice a l c], .int .i64 0, .int .i64 0]) ∧ PIs w' (fun q => w.heap.size ≤ q ∧ q < w'.heap.size) p a l c ∧ Der ts 1 0 ts.length p ∧ txt p = toldTo ts ts.length ∧ ¬ 100 < (toldTo ts ts.length).length ∧ n0 ≤ 1000000 ∧ runB len n0 [symB 82 0] ts = some (0, 0)) ∨
   (∃ n0, e = .returned (.tuple #[.agg #[.int .i64 0, .string ⟨#[]⟩, .int .i64 0, .slice none 0 0], .int .i64 7, .int .i64 0]) ∧ 100 < (toldTo ts ts.length).length ∧ n0 ≤ 1000000 ∧ runB len n0 [symB 82 0] ts = some (0, 0)) ∨
   (∃ er p n0, e = .returned (.tuple #[.agg #[.int .i64 0, .string ⟨#[]⟩, .int .i64 0, .slice none 0 0], .int .i64 er, .int .i64 ((p : Nat) : Int)]) ∧ er ≠ 0 ∧ n0 ≤ 1000000 ∧ runB len n0 [symB 82 0] ts = some (er, p)))

theorem below4 {w w' : World} (h : Below w.heap.size w w') (g : Nat) (hg : w.heap.size ≤ g) (v0 v1 v2 v3 : Value) : Below w.heap.size w ((((w'.setCell ⟨g, 0, none⟩ v0).setCell ⟨g, 1, none⟩ v1).setCell ⟨g, 2, none⟩ v2).setCell ⟨g, 3, none⟩ v3) :=
  (((h.setCell (p := ⟨g, 0, none⟩) hg _).setCell (p := ⟨g, 1, none⟩) hg _).setCell (p := ⟨g, 2, none⟩) hg _).setCell (p := ⟨g, 3, none⟩) hg _

set_option maxRecDepth 100000 in
set_option maxHeartbeats 8000000 in
theorem read8 (s : By) (ts : List (By × Nat)) (v : Value) (B0 : Nat) (w : World) (hE : Env w) (hB0 : 9 ≤ B0) (hok : OkT ts) (hN : ts.length ≤ 120) (hlen : ∀ t p, (t, p) ∈ ts → t.length ≤ 19) (hown : w.ownsRow B0 49 4 v (ts.length + 1) (pcells ts ++ endC s.length)) :
    Calls Tryd.prog 8 #[v] w (RdPost s.length ts w) := by
  rw [pt_cells] at hown
  have hpl : (ptoks s.length ts).length = ts.length + 1 := ptoks_length
  rw [← hpl] at hown
  rcases hown.2 with ⟨_, h0⟩ | ⟨bl, cp, cur, rfl, hbl, hgg, hcap, hmax, _⟩
  · omega
  · have hblw : bl < w.heap.size := (Array.getElem?_eq_some_iff.1 hgg).1
    have HSZ := toHid (toldTo_len ts hlen ts.length)
    have HSt := toHid (show St s.length ts ((w.alloc (.cells #[.int .i64 0, .string ⟨#[]⟩, .int .i64 0, .slice none 0 0] 38)).alloc (.cells #[.slice (some ⟨bl, 0, none⟩) (ptoks s.length ts).length cp, .int .i64 0, .int .i64 0] 53)) (w.heap.size + 1) bl cp 0 0 0 by
      have hbel := below2 w (.cells #[.int .i64 0, .string ⟨#[]⟩, .int .i64 0, .slice none 0 0] 38) (.cells #[.slice (some ⟨bl, 0, none⟩) (ptoks s.length ts).length cp, .int .i64 0, .int .i64 0] 53)
      refine ⟨⟨?_, by omega, by omega, hcap, by omega, ?_, fun j hj => ?_⟩, hE.next hbel, by omega⟩
      · exact alloc2_new w _ _ _
      · intro t ht
        obtain ⟨j, hj, rfl⟩ := List.getElem_of_mem ht
        obtain ⟨k, _, hk, hk20, _⟩ := hok.cls hj
        rw [hk]
        omega
      · rw [hbel.cell hblw, hbel.cell hblw, hbel.cell hblw, hbel.cell hblw]
        refine ⟨?_, ?_, ?_, ?_⟩
        · rw [hown.cellAt (j * 4) (by omega)]; exact (ptc_get _ j hj).1
        · rw [hown.cellAt (j * 4 + 1) (by omega)]; exact (ptc_get _ j hj).2.1
        · rw [hown.cellAt (j * 4 + 2) (by omega)]; exact (ptc_get _ j hj).2.2.1
        · rw [hown.cellAt (j * 4 + 3) (by omega)]; exact (ptc_get _ j hj).2.2.2)
    have HW := toHid (whole14 hok _ HSt.out (by omega))
    have HE := toHid hE
    have HOK := toHid hok
    clear hown hE hok hgg hpl
    go_enter Tryd.func8, Tryd.ntmps8
    go_wp2_with (first | (go_at_call 14; refine HW.out.mono ?_; rintro r w1 (⟨p, a, l, c, n0, rfl, hp, hD, hk1, hn0, hrun⟩ | ⟨i', n0, d', er, kk, nn, sx, a, l, c, rfl, hr1, her, hk1, hn0, hrun⟩) <;> refine Hid.out ?_))
    · have hR1 := hk1.blk (alloc2_old w _ _ _) (by omega)
      have hsz1 := (Array.getElem?_eq_some_iff.1 hR1).1
      have hb1 : Below w.heap.size w w1 := (below2 w _ _).trans (hk1.bel.mono (by omega))
      have htold : txt p = toldTo ts ts.length := by
        have := (hD.told HOK.out rfl).2.2
        rw [this]
        rfl
      have HG := toHid (hD.good HOK.out)
      have hlt : (txt p).length ≤ 1000000 := by rw [htold]; have := HSZ.out; omega
      have hb2 : Below w1.heap.size w1 (w1.alloc (.cells #[.int .i64 (p.k : Int), .string ⟨p.nm.toArray⟩, .int .i64 (p.n : Int), .slice a l c] 36)) := (Below.refl _ _).alloc (Nat.le_refl _) _
      have HBd := toHid (bounded15 p a l c _ (hp.next fun q hq => hb2.block q hq.2) (fun q hq => Nat.lt_of_lt_of_le hq.2 hb2.size) ((HE.out.next hb1).next hb2) HG.out hlt)
      have HR1 := toHid hR1
      have HB1 := toHid hb1
      have HP := toHid hp
      have HD := toHid hD
      have HTOLD := toHid htold
      have HRUN := toHid hrun
      clear hR1 hb1 hp hD htold hrun hk1 hb2 hlt
      refine toHid ?_
      go_wp2_with (first | (go_at_call 15; refine HBd.out.mono ?_; rintro e w2 ⟨hb2, (⟨hbig, rfl⟩ | ⟨hbig, rfl⟩)⟩ <;> refine Hid.out ?_))
      · have hR2 := (hb2.block w.heap.size (by simp; omega)).trans ((Below.heap_alloc _ _ _ hsz1).trans HR1.out)
        obtain ⟨⟨k0, k1, k2, k3⟩, ⟨f0, f1, f2, f3⟩, hsz2⟩ := row4 hR2
        have HB2 := toHid (show Below w.heap.size w w2 from (HB1.out.alloc (by omega) _).trans (hb2.mono (by simp; omega)))
        have HB3 := toHid hb2
        have HBIG := toHid hbig
        clear hb2 hR2 hbig
        refine toHid ?_
        go_wp2
        refine bodyPost_ret (v := .tuple #[.agg #[.int .i64 0, .string ⟨#[]⟩, .int .i64 0, .slice none 0 0], .int .i64 7, .int .i64 0]) (by simp [results, Tryd.results8, go_sem, k0, k1, k2, k3, hsz2]) rfl ?_
        exact ⟨(below4 HB2.out w.heap.size (Nat.le_refl _) _ _ _ _).alloc (by rw [size4]; omega) _, Or.inr (Or.inl ⟨n0, rfl, by rw [← HTOLD.out]; exact HBIG.out, hn0, HRUN.out⟩)⟩
      · have hR2 := (hb2.block w.heap.size (by simp; omega)).trans ((Below.heap_alloc _ _ _ hsz1).trans HR1.out)
        obtain ⟨⟨k0, k1, k2, k3⟩, ⟨f0, f1, f2, f3⟩, hsz2⟩ := row4 hR2
        have HB2 := toHid (show Below w.heap.size w w2 from (HB1.out.alloc (by omega) _).trans (hb2.mono (by simp; omega)))
        have HB3 := toHid hb2
        have HBIG := toHid hbig
        clear hb2 hR2 hbig
        refine toHid ?_
        go_wp2
        refine bodyPost_ret (v := .tuple #[.agg #[.int .i64 (p.k : Int), .string ⟨p.nm.toArray⟩, .int .i64 (p.n : Int), .slice a l c], .int .i64 0, .int .i64 0]) (by simp [results, Tryd.results8, go_sem, k0, k1, k2, k3, hsz2]) rfl ?_
        have hs12 := HB3.out.size
        simp at hs12
        refine ⟨(below4 HB2.out w.heap.size (Nat.le_refl _) _ _ _ _).alloc (by rw [size4]; omega) _, Or.inl ⟨p, a, l, c, n0, rfl, (HP.out.next fun q hq => ?_).wide fun q hq => ?_, HD.out, HTOLD.out, by rw [← HTOLD.out]; exact HBIG.out, hn0, HRUN.out⟩⟩
        · have hq1 := hq.1
          simp at hq1
          rw [Below.heap_alloc _ _ _ (by rw [size4]; omega), heap4 _ _ _ _ _ _ (by omega), HB3.out.block q (by simp; omega), Below.heap_alloc _ _ _ hq.2]
        · have hq1 := hq.1
          have hq2 := hq.2
          simp at hq1 ⊢
          omega
    · have hR1 := hk1.blk (alloc2_old w _ _ _) (by omega)
      obtain ⟨⟨k0, k1, k2, k3⟩, ⟨f0, f1, f2, f3⟩, hsz1⟩ := row4 hR1
      have hb1 : Below w.heap.size w w1 := (below2 w _ _).trans (hk1.bel.mono (by omega))
      obtain ⟨c0, _, c3, _⟩ := hr1.cell
      have l1 := (hr1.left i' hr1.lt).2.1
      rw [ptoks_at hr1.lt] at l1
      have hlt := hr1.lt
      have hbs := hr1.size
      obtain ⟨n, hn⟩ : ∃ n, (ptoks s.length ts).length - i' = n + 1 := ⟨(ptoks s.length ts).length - i' - 1, by omega⟩
      rw [hn] at c0
      have hn1 : (0 : Int) < (n : Int) + 1 := by omega
      have hne1 : bl ≠ w.heap.size := by omega
      have hblw1 : bl < w1.heap.size := by omega
      have hne2 : w.heap.size + 1 ≠ w.heap.size := by omega
      have HER := toHid her
      have HRUN := toHid hrun
      have HB := toHid hb1
      generalize pAt s.length ts i' = p at *
      clear hr1 hb1 hk1 her hrun hn hlt hR1
      refine toHid ?_
      have HFIN := toHid (show RdPost s.length ts w (.returned (.tuple #[.agg #[.int .i64 0, .string ⟨#[]⟩, .int .i64 0, .slice none 0 0], .int .i64 er, .int .i64 (p : Int)])) (((((w1.setCell ⟨w.heap.size, 0, none⟩ (.int .i64 0)).setCell ⟨w.heap.size, 1, none⟩ (.string ⟨#[]⟩)).setCell ⟨w.heap.size, 2, none⟩ (.int .i64 0)).setCell ⟨w.heap.size, 3, none⟩ (.slice none 0 0)).alloc (.cells #[.int .i64 kk, .string ⟨sx.toArray⟩, .int .i64 nn, .slice a l c] 36)).drew from
        ⟨((below4 HB.out w.heap.size (Nat.le_refl _) _ _ _ _).alloc (by rw [size4]; omega) _).drew, Or.inr (Or.inr ⟨er, p, n0, rfl, HER.out, hn0, HRUN.out⟩)⟩)
      go_wp2_with fail
      go_region
      all_goals go_wp2
      all_goals refine bodyPost_ret (v := .tuple #[.agg #[.int .i64 0, .string ⟨#[]⟩, .int .i64 0, .slice none 0 0], .int .i64 er, .int .i64 (p : Int)]) (by simp [results, Tryd.results8, go_sem, k0, k1, k2, k3, hsz1]) rfl ?_
      all_goals exact HFIN.out
end Go.Proofs.YtihgojcfpnhelaaDoor
