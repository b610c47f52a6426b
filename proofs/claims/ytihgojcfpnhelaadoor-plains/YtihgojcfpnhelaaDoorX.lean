import Derived.Test.YtihgojcfpnhelaaDoorW
namespace Go.Proofs.YtihgojcfpnhelaaDoor
open Go.RowKit

section
variable {len : Nat} {ts : List (By × Nat)} {b bl cp : Nat}

set_option maxRecDepth 100000 in
set_option maxHeartbeats 2000000 in
/-- A sign ahead at the greatest depth. -/
theorem bs_deep (n i : Nat) (e : Int) (w : World) (h : Rdr w b bl cp (ptoks len ts) i 6 e) :
    Calls Tryd.prog 44 #[.pointer (some ⟨b, 0, none⟩), .int .i64 (n : Int)] w fun r w' => r = .returned (.tuple #[.agg #[.int .i64 0, .string ⟨#[]⟩, .int .i64 0, .slice none 0 0], .bool false]) ∧ Rdr w' b bl cp (ptoks len ts) i 6 4 ∧ Kp b w w' := by
  have H := toHid (fun w1 (g : Rdr w1 b bl cp (ptoks len ts) i 6 e) => enter_no w1 b bl cp _ i e g)
  have hs := h.size
  have HR := toHid h
  have hblk := h.blk
  clear h
  go_enter Tryd.func44, Tryd.ntmps44
  go_wp2_with (first | (go_at_call 54; refine (H.out _ (HR.out.next ((Below.refl _ _).alloc (Nat.le_refl _) _))).mono ?_; rintro e w' ⟨rfl, hr, hbb⟩; refine Hid.out ?_))
  obtain ⟨⟨k0, k1, k2, k3⟩, ⟨f0, f1, f2, f3⟩, hsz⟩ := row4 (hbb.blk (q := w.heap.size) (heap_alloc_new w _) (by omega))
  have HB := toHid hbb
  have HR2 := toHid hr
  clear hr hbb
  refine toHid ?_
  go_wp2
  refine bodyPost_ret (v := .tuple #[.agg #[.int .i64 0, .string ⟨#[]⟩, .int .i64 0, .slice none 0 0], .bool false]) (by simp [results, Tryd.results44, go_sem, k0, k1, k2, k3, hsz]) rfl ?_
  have hk0 : Kp b w w' := (Kp.of ((Below.refl _ _).alloc (Nat.le_refl _) _) hs).trans HB.out
  have hk1 := hk0.there4 w.heap.size (.int .i64 0) (.string ⟨#[]⟩) (.int .i64 0) (.slice none 0 0) (Nat.le_refl _) hs
  exact ⟨rfl, (HR2.out.store4 w.heap.size _ _ _ _ hs).next ((Below.refl _ _).alloc (Nat.le_refl _) _), hk1.next ((Below.refl _ _).alloc (Nat.le_refl _) _) (by have := hk1.size; omega)⟩

set_option maxRecDepth 100000 in
set_option maxHeartbeats 10000000 in
theorem bs_go (hok : OkT ts) (n i d : Nat) (e : Int) (w : World) (_hn1 : 1 ≤ n) (hd : d < 6) (hi : i < ts.length) (hA : Ahead n (tAt ts i)) (hS : St len ts w b bl cp i d e) (z zz : Nat) (hz : ((ptoks len ts)[i]'hS.rd.lt).1 = (z : Int)) (hzz : (z = 13 ∧ zz = 14) ∨ (z ≠ 13 ∧ zz = z))
    (hDer : ∀ i' p, Der ts n (i + 1) i' p → Der ts n i i' (.un zz p))
    (hL : ∀ w2, St len ts w2 b bl cp (i + 1) (d + 1) e → Calls Tryd.prog 29 #[.pointer (some ⟨b, 0, none⟩), .int .i64 (n : Int)] w2 (LvPost len ts [symB (lv n) (d + 1)] (fun i' p => Der ts n (i + 1) i' p) (2 * n) b bl cp (i + 1) (d + 1) e w2)) :
    Calls Tryd.prog 44 #[.pointer (some ⟨b, 0, none⟩), .int .i64 (n : Int)] w (LvPost len ts [symB (lv n) d] (fun i' p => Der ts n i i' p) (2 * n) b bl cp i d e w) := by
  have hlt := hS.rd.lt
  have H := toHid (fun w1 (g : Rdr w1 b bl cp (ptoks len ts) i (d : Int) e) => enter_yes w1 b bl cp _ i d e g hd (by rw [ptoks_length]; omega))
  have HL := toHid hL
  have HS := toHid hS
  have HDer := toHid hDer
  have hs := hS.rd.size
  have hblk := hS.rd.blk
  have HGO := toHid (fun (i' m : Nat) (h : Go1 len ts [symB (lv n) (d + 1)] (i + 1) i' m) => (show Go1 len ts [symB (lv n) d] i i' (m + 1 + 1) from Go1.sym (by omega) (by rw [bec_ahead_go n _ d hA hd]; exact Go1.tok (hok.tk hi) rfl h)))
  have HNO := toHid (fun (er : Int) (p m : Nat) (h : No1 len ts [symB (lv n) (d + 1)] (i + 1) er p m) => (show No1 len ts [symB (lv n) d] i er p (m + 1 + 1) from No1.sym (by omega) (by rw [bec_ahead_go n _ d hA hd]; exact No1.tok (hok.tk hi) rfl h)))
  have HZ := toHid hz
  clear hL hDer hA hok hz
  go_enter Tryd.func44, Tryd.ntmps44
  go_wp2_with (first | (go_at_call 54; refine (H.out _ (HS.out.rd.next ((Below.refl _ _).alloc (Nat.le_refl _) _))).mono ?_; rw [HZ.out]; rintro r w1 ⟨rfl, hr, hbb⟩; refine Hid.out ?_))
  have hR1 := hbb.blk (q := w.heap.size) (heap_alloc_new w _) (by omega)
  have hk1 : Kp b w w1 := (Kp.of ((Below.refl _ _).alloc (Nat.le_refl _) _) hs).trans hbb
  have HS1 := toHid (show St len ts w1 b bl cp (i + 1) (d + 1) e from HS.out.down (d' := d + 1) hr hk1.bel)
  have hsz1 := (Array.getElem?_eq_some_iff.1 hR1).1
  have HR1 := toHid hR1
  have HK1 := toHid hk1
  generalize ((ptoks len ts)[i]).2.2.2 = tn at *
  generalize ((ptoks len ts)[i]).2.2.1 = tx at *
  generalize ((ptoks len ts)[i]).2.1 = tp at *
  clear hr hbb hR1 hk1
  refine toHid ?_
  have HC := toHid (show ∀ w3, Kp b (w1.alloc (.cells #[.int .i64 (zz : Int), .int .i64 (tp : Int), .string ⟨tx.toArray⟩, .int .i64 (tn : Int)] 49)) w3 → w3.heap[w.heap.size]? = some (.cells #[.int .i64 0, .string ⟨#[]⟩, .int .i64 0, .slice none 0 0] 36 (0, 0)) ∧ w3.heap[w1.heap.size]? = some (.cells #[.int .i64 (zz : Int), .int .i64 (tp : Int), .string ⟨tx.toArray⟩, .int .i64 (tn : Int)] 49 (0, 0)) ∧ Kp b w w3 from fun w3 h => by
    refine ⟨h.blk ((Below.heap_alloc _ _ _ hsz1).trans HR1.out) (by omega), h.blk (heap_alloc_new w1 _) (by omega), ?_⟩
    exact (HK1.out.next ((Below.refl _ _).alloc (Nat.le_refl _) _) (by omega)).trans h)
  have hzc : (zz = 14 ∧ ((z : Int) == 13) = true) ∨ (zz = z ∧ ((z : Int) == 13) = false) := by
    rcases hzz with ⟨h1, h2⟩ | ⟨h1, h2⟩
    · exact Or.inl ⟨h2, by simp [h1]⟩
    · exact Or.inr ⟨h2, beq_eq_false_iff_ne.2 (by omega)⟩
  clear hzz
  rcases hzc with ⟨rfl, hzb⟩ | ⟨rfl, hzb⟩
  · go_wp2_with (first | (go_at_call 29; refine (HL.out _ (HS1.out.next ((Below.refl _ _).alloc (Nat.le_refl _) _))).mono ?_; rintro r w3 (⟨i3, m3, p, a, l, c, rfl, hp, hD, hS3, hi3, hk3, hm3, hgo⟩ | ⟨i3, m3, d3, er, kk3, n3, s3, a, l, c, rfl, hr3, her, hk3, hm3, hno⟩) <;> refine Hid.out ?_))
    · obtain ⟨hRw, hSg, hkw⟩ := HC.out w3 hk3
      obtain ⟨⟨k0, k1, k2, k3⟩, ⟨f0, f1, f2, f3⟩, hsz3⟩ := row4 hRw
      obtain ⟨⟨g0, _, _, _⟩, _, hsz4⟩ := row4 hSg
      obtain ⟨_, c1, _, fz⟩ := hS3.rd.cell
      have fz1 := fz 1
      have hcast : ((d + 1 : Nat) : Int) = (d : Int) + 1 := by omega
      rw [hcast] at c1
      have hbw : b < w3.heap.size := hS3.rd.size
      have A1 := toHid hS3
      have A2 := toHid hkw
      have A3 := toHid hp
      have A4 := toHid (HDer.out _ _ hD)
      have A5 := toHid (HGO.out _ _ hgo)
      have hne1 : w.heap.size ≠ b := by omega
      have hne2 : b ≠ w.heap.size := by omega
      clear hS3 hkw hp hD hgo fz hRw hSg hk3 hcast
      refine toHid ?_
      go_wp2
      refine bodyPost_ret (v := .tuple #[.agg #[.int .i64 14, .string ⟨#[]⟩, .int .i64 0, .slice (some ⟨w3.heap.size + 1, 0, none⟩) 1 1], .bool true]) (by simp [results, Tryd.results44, go_sem, k0, k1, k2, k3, hsz3]) rfl ?_
      obtain ⟨hSd, hkd⟩ := A1.out.setD d
      have hkA := (A2.out.trans hkd).there4 w.heap.size (.int .i64 14) (.string ⟨#[]⟩) (.int .i64 0) (.slice (some ⟨w3.heap.size + 1, 0, none⟩) 1 1) (Nat.le_refl _) hs
      have hszA : ∀ v0 v1 v2 v3, (((((w3.setCell ⟨b, 1, none⟩ (.int .i64 (d : Int))).setCell ⟨w.heap.size, 0, none⟩ v0).setCell ⟨w.heap.size, 1, none⟩ v1).setCell ⟨w.heap.size, 2, none⟩ v2).setCell ⟨w.heap.size, 3, none⟩ v3).heap.size = w3.heap.size := fun v0 v1 v2 v3 => by simp
      have hsz1' := hsz1
      refine Or.inl ⟨i3, m3 + 1 + 1, .un 14 p, some ⟨w3.heap.size + 1, 0, none⟩, 1, 1, rfl, PIs.un 14 ((A3.out.next fun q hq => ?_).wide fun q hq => ?_) ?_ (t := 36) (fr := (0, 0)) ?_ 1, A4.out, ((hSd.store4 w.heap.size _ _ _ _ hs).next (below2 _ _ _)), by omega, hkA.next (below2 _ _ _) (by have := hkA.size; omega), by omega, A5.out⟩
      · have hq1 := hq.1
        simp at hq1
        rw [heap2 _ _ _ (by rw [hszA]; exact hq.2), heap4 _ _ _ _ _ _ (by omega), Below.heap_setCell _ _ _ _ (by show q ≠ b; omega)]
      · have hq1 := hq.1
        have hq2 := hq.2
        simp at hq1 ⊢
        omega
      · simp
        omega
      · have := heap_alloc_new ((((((w3.setCell ⟨b, 1, none⟩ (.int .i64 (d : Int))).setCell ⟨w.heap.size, 0, none⟩ (.int .i64 14)).setCell ⟨w.heap.size, 1, none⟩ (.string ⟨#[]⟩)).setCell ⟨w.heap.size, 2, none⟩ (.int .i64 0)).setCell ⟨w.heap.size, 3, none⟩ (.slice (some ⟨w3.heap.size + 1, 0, none⟩) 1 1)).alloc (.cells #[.int .i64 (p.k : Int), .string ⟨p.nm.toArray⟩, .int .i64 (p.n : Int), .slice a l c] 36)) (.cells #[.int .i64 (p.k : Int), .string ⟨p.nm.toArray⟩, .int .i64 (p.n : Int), .slice a l c] 36)
        simpa using this
    · obtain ⟨hRw, hSg, hkw⟩ := HC.out w3 hk3
      obtain ⟨⟨k0, k1, k2, k3⟩, ⟨f0, f1, f2, f3⟩, hsz3⟩ := row4 hRw
      obtain ⟨⟨g0, _, _, _⟩, _, hsz4⟩ := row4 hSg
      obtain ⟨_, c1, _, fz⟩ := hr3.cell
      have fz1 := fz 1
      have hbw : b < w3.heap.size := hr3.size
      have A1 := toHid hr3
      have A2 := toHid hkw
      have A5 := toHid (HNO.out _ _ _ hno)
      have A6 := toHid her
      have hne1 : w.heap.size ≠ b := by omega
      have hne2 : b ≠ w.heap.size := by omega
      clear hr3 hkw hno fz hRw hSg hk3 her
      refine toHid ?_
      go_wp2
      refine bodyPost_ret (v := .tuple #[.agg #[.int .i64 14, .string ⟨#[]⟩, .int .i64 0, .slice (some ⟨w3.heap.size + 1, 0, none⟩) 1 1], .bool false]) (by simp [results, Tryd.results44, go_sem, k0, k1, k2, k3, hsz3]) rfl ?_
      obtain ⟨hRd, hkd⟩ := A1.out.setD (wrap64 (d3 - 1))
      have hkA := (A2.out.trans hkd).there4 w.heap.size (.int .i64 14) (.string ⟨#[]⟩) (.int .i64 0) (.slice (some ⟨w3.heap.size + 1, 0, none⟩) 1 1) (Nat.le_refl _) hs
      exact Or.inr ⟨i3, m3 + 1 + 1, wrap64 (d3 - 1), er, 14, 0, [], some ⟨w3.heap.size + 1, 0, none⟩, 1, 1, rfl, ((hRd.store4 w.heap.size _ _ _ _ hs).next (below2 _ _ _)), A6.out, hkA.next (below2 _ _ _) (by have := hkA.size; omega), by omega, A5.out⟩
  · go_wp2_with (first | (go_at_call 29; refine (HL.out _ (HS1.out.next ((Below.refl _ _).alloc (Nat.le_refl _) _))).mono ?_; rintro r w3 (⟨i3, m3, p, a, l, c, rfl, hp, hD, hS3, hi3, hk3, hm3, hgo⟩ | ⟨i3, m3, d3, er, kk3, n3, s3, a, l, c, rfl, hr3, her, hk3, hm3, hno⟩) <;> refine Hid.out ?_))
    · obtain ⟨hRw, hSg, hkw⟩ := HC.out w3 hk3
      obtain ⟨⟨k0, k1, k2, k3⟩, ⟨f0, f1, f2, f3⟩, hsz3⟩ := row4 hRw
      obtain ⟨⟨g0, _, _, _⟩, _, hsz4⟩ := row4 hSg
      obtain ⟨_, c1, _, fz⟩ := hS3.rd.cell
      have fz1 := fz 1
      have hcast : ((d + 1 : Nat) : Int) = (d : Int) + 1 := by omega
      rw [hcast] at c1
      have hbw : b < w3.heap.size := hS3.rd.size
      have A1 := toHid hS3
      have A2 := toHid hkw
      have A3 := toHid hp
      have A4 := toHid (HDer.out _ _ hD)
      have A5 := toHid (HGO.out _ _ hgo)
      have hne1 : w.heap.size ≠ b := by omega
      have hne2 : b ≠ w.heap.size := by omega
      clear hS3 hkw hp hD hgo fz hRw hSg hk3 hcast
      refine toHid ?_
      go_wp2
      refine bodyPost_ret (v := .tuple #[.agg #[.int .i64 (zz : Int), .string ⟨#[]⟩, .int .i64 0, .slice (some ⟨w3.heap.size + 1, 0, none⟩) 1 1], .bool true]) (by simp [results, Tryd.results44, go_sem, k0, k1, k2, k3, hsz3]) rfl ?_
      obtain ⟨hSd, hkd⟩ := A1.out.setD d
      have hkA := (A2.out.trans hkd).there4 w.heap.size (.int .i64 (zz : Int)) (.string ⟨#[]⟩) (.int .i64 0) (.slice (some ⟨w3.heap.size + 1, 0, none⟩) 1 1) (Nat.le_refl _) hs
      have hszA : ∀ v0 v1 v2 v3, (((((w3.setCell ⟨b, 1, none⟩ (.int .i64 (d : Int))).setCell ⟨w.heap.size, 0, none⟩ v0).setCell ⟨w.heap.size, 1, none⟩ v1).setCell ⟨w.heap.size, 2, none⟩ v2).setCell ⟨w.heap.size, 3, none⟩ v3).heap.size = w3.heap.size := fun v0 v1 v2 v3 => by simp
      have hsz1' := hsz1
      refine Or.inl ⟨i3, m3 + 1 + 1, .un zz p, some ⟨w3.heap.size + 1, 0, none⟩, 1, 1, rfl, PIs.un zz ((A3.out.next fun q hq => ?_).wide fun q hq => ?_) ?_ (t := 36) (fr := (0, 0)) ?_ 1, A4.out, ((hSd.store4 w.heap.size _ _ _ _ hs).next (below2 _ _ _)), by omega, hkA.next (below2 _ _ _) (by have := hkA.size; omega), by omega, A5.out⟩
      · have hq1 := hq.1
        simp at hq1
        rw [heap2 _ _ _ (by rw [hszA]; exact hq.2), heap4 _ _ _ _ _ _ (by omega), Below.heap_setCell _ _ _ _ (by show q ≠ b; omega)]
      · have hq1 := hq.1
        have hq2 := hq.2
        simp at hq1 ⊢
        omega
      · simp
        omega
      · have := heap_alloc_new ((((((w3.setCell ⟨b, 1, none⟩ (.int .i64 (d : Int))).setCell ⟨w.heap.size, 0, none⟩ (.int .i64 (zz : Int))).setCell ⟨w.heap.size, 1, none⟩ (.string ⟨#[]⟩)).setCell ⟨w.heap.size, 2, none⟩ (.int .i64 0)).setCell ⟨w.heap.size, 3, none⟩ (.slice (some ⟨w3.heap.size + 1, 0, none⟩) 1 1)).alloc (.cells #[.int .i64 (p.k : Int), .string ⟨p.nm.toArray⟩, .int .i64 (p.n : Int), .slice a l c] 36)) (.cells #[.int .i64 (p.k : Int), .string ⟨p.nm.toArray⟩, .int .i64 (p.n : Int), .slice a l c] 36)
        simpa using this
    · obtain ⟨hRw, hSg, hkw⟩ := HC.out w3 hk3
      obtain ⟨⟨k0, k1, k2, k3⟩, ⟨f0, f1, f2, f3⟩, hsz3⟩ := row4 hRw
      obtain ⟨⟨g0, _, _, _⟩, _, hsz4⟩ := row4 hSg
      obtain ⟨_, c1, _, fz⟩ := hr3.cell
      have fz1 := fz 1
      have hbw : b < w3.heap.size := hr3.size
      have A1 := toHid hr3
      have A2 := toHid hkw
      have A5 := toHid (HNO.out _ _ _ hno)
      have A6 := toHid her
      have hne1 : w.heap.size ≠ b := by omega
      have hne2 : b ≠ w.heap.size := by omega
      clear hr3 hkw hno fz hRw hSg hk3 her
      refine toHid ?_
      go_wp2
      refine bodyPost_ret (v := .tuple #[.agg #[.int .i64 (zz : Int), .string ⟨#[]⟩, .int .i64 0, .slice (some ⟨w3.heap.size + 1, 0, none⟩) 1 1], .bool false]) (by simp [results, Tryd.results44, go_sem, k0, k1, k2, k3, hsz3]) rfl ?_
      obtain ⟨hRd, hkd⟩ := A1.out.setD (wrap64 (d3 - 1))
      have hkA := (A2.out.trans hkd).there4 w.heap.size (.int .i64 (zz : Int)) (.string ⟨#[]⟩) (.int .i64 0) (.slice (some ⟨w3.heap.size + 1, 0, none⟩) 1 1) (Nat.le_refl _) hs
      exact Or.inr ⟨i3, m3 + 1 + 1, wrap64 (d3 - 1), er, (zz : Int), 0, [], some ⟨w3.heap.size + 1, 0, none⟩, 1, 1, rfl, ((hRd.store4 w.heap.size _ _ _ _ hs).next (below2 _ _ _)), A6.out, hkA.next (below2 _ _ _) (by have := hkA.size; omega), by omega, A5.out⟩

set_option maxHeartbeats 1000000 in
theorem behindSign43 (hok : OkT ts) (F : Nat) (IH : LvAll len ts b bl cp F) (n i d : Nat) (e : Int) (w : World) (hd : d ≤ 6) (hi : i < ts.length) (hA : Ahead n (tAt ts i)) (hF : 10 * (ts.length - i) + (7 - n) < F + 1) (hS : St len ts w b bl cp i d e) :
    Calls Tryd.prog 44 #[.pointer (some ⟨b, 0, none⟩), .int .i64 (n : Int)] w (LvPost len ts [symB (lv n) d] (fun i' p => Der ts n i i' p) (2 * n) b bl cp i d e w) := by
  have hn : 1 ≤ n ∧ n ≤ 6 := by rcases hA with ⟨rfl, _⟩ | ⟨rfl, _⟩ <;> omega
  by_cases h6 : d = 6
  · subst h6
    refine (bs_deep n i e w hS.rd).mono ?_
    rintro r w' ⟨rfl, hr, hb⟩
    refine Or.inr ⟨i, 2, 6, 4, 0, 0, [], none, 0, 0, rfl, hr, by decide, hb, by omega, ?_⟩
    refine No1.sym (by omega) ?_
    rw [bec_ahead_no n _ hA]
    exact No1.deep
  · have hd6 : d < 6 := by omega
    obtain ⟨k, hcl, hkk, hk20, _⟩ := hok.cls hS.rd.lt
    have hkn := ahead_kind n _ k hA hcl
    refine bs_go hok n i d e w hn.1 hd6 hi hA hS k (if n = 6 then 14 else 6) hkk ?_ ?_ ?_
    · rcases hkn with ⟨rfl, rfl⟩ | ⟨rfl, rfl⟩
      · right; decide
      · left; decide
    · intro i' p hD
      rcases hA with ⟨rfl, ht⟩ | ⟨rfl, ht⟩
      · exact Der.nots i i' p ht hD
      · exact Der.neg i i' p ht hD
    · intro w2 hS2
      exact IH n (i + 1) (d + 1) e w2 hn.1 hn.2 (by omega) (by omega) hS2
end
end Go.Proofs.YtihgojcfpnhelaaDoor
