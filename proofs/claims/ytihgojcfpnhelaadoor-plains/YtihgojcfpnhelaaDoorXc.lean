import Derived.Test.YtihgojcfpnhelaaDoorXbb
namespace Go.Proofs.YtihgojcfpnhelaaDoor
open Go.RowKit

theorem atomB_plain (t : By) (k d : Nat) (h : Cls t k) (hk : k = 1 ∨ k = 2 ∨ k = 7 ∨ k = 8) : atomB t d = [t] := by
  have hne : t ≠ [] := by
    rcases h with ⟨h, _⟩ | ⟨_, h, _⟩ | ⟨_, h⟩ | h
    · rintro rfl; cases h
    · rintro rfl; cases h
    · omega
    · exact (show ∀ x, x ∈ meanN → x.1 ≠ [] by decide) _ h
  have hc : (headD t || t = [116, 114, 117, 101] || t = [102, 97, 108, 115, 101] || nameB t) = true := by
    rcases h with ⟨h, _⟩ | ⟨_, h, _⟩ | ⟨_, h⟩ | h
    · simp [h]
    · simp [h]
    · omega
    · simp only [meanN, List.mem_cons, List.not_mem_nil, or_false, Prod.mk.injEq] at h
      rcases h with ⟨rfl, rfl⟩ | ⟨rfl, rfl⟩ | ⟨rfl, rfl⟩ | ⟨rfl, rfl⟩ | ⟨rfl, rfl⟩ | ⟨rfl, rfl⟩ | ⟨rfl, rfl⟩ | ⟨rfl, rfl⟩ | ⟨rfl, rfl⟩ | ⟨rfl, rfl⟩ | ⟨rfl, rfl⟩ | ⟨rfl, rfl⟩ | ⟨rfl, rfl⟩ | ⟨rfl, rfl⟩ | ⟨rfl, rfl⟩ | ⟨rfl, rfl⟩ <;> first | decide | omega
  unfold atomB
  rw [if_neg hne, if_pos hc]

theorem atomB_none (t : By) (k d : Nat) (h : Cls t k) (hk : k ≠ 1 ∧ k ≠ 2 ∧ k ≠ 7 ∧ k ≠ 8 ∧ k ≠ 3) (h9 : k ≠ 9) (h13 : k ≠ 13) : atomB t d = [wNone] := by
  rcases h with ⟨_, h⟩ | ⟨_, _, h⟩ | ⟨rfl, _⟩ | h
  · omega
  · omega
  · rfl
  · simp only [meanN, List.mem_cons, List.not_mem_nil, or_false, Prod.mk.injEq] at h
    rcases h with ⟨rfl, rfl⟩ | ⟨rfl, rfl⟩ | ⟨rfl, rfl⟩ | ⟨rfl, rfl⟩ | ⟨rfl, rfl⟩ | ⟨rfl, rfl⟩ | ⟨rfl, rfl⟩ | ⟨rfl, rfl⟩ | ⟨rfl, rfl⟩ | ⟨rfl, rfl⟩ | ⟨rfl, rfl⟩ | ⟨rfl, rfl⟩ | ⟨rfl, rfl⟩ | ⟨rfl, rfl⟩ | ⟨rfl, rfl⟩ | ⟨rfl, rfl⟩ <;> first | rfl | omega

theorem atomB_open (d : Nat) (hd : d < 6) : atomB [40] d = brS 1 (d + 1) := by
  show deepB [40] 82 d ++ [[41]] = _
  unfold deepB
  rw [if_neg (by omega)]
  rfl
theorem atomB_open6 : atomB [40] 6 = [wDeep, [41]] := by decide
theorem atomB_if (d : Nat) (hd : d < 6) : atomB [105, 102] d = [105, 102] :: brS 3 (d + 1) := by
  unfold atomB
  rw [if_neg (by decide), if_neg (by decide), if_neg (by decide), if_neg (by decide), if_neg (by simp; omega), if_pos rfl]
  rfl
theorem atomB_if6 : atomB [105, 102] 6 = [[105, 102], wOpen] := by decide

section
variable {len : Nat} {ts : List (By × Nat)} {b bl cp : Nat}

/-- What a part's post looks like. -/
theorem LvPost.form {S : List By} {D : Nat → Pt → Prop} {c1 i d : Nat} {e : Int} {w : World} {r : Ending} {w' : World} (h : LvPost len ts S D c1 b bl cp i d e w r w') : ∃ (z : Bool) (k n : Int) (s : By) (a : Option Addr) (l c : Nat), r = .returned (.tuple #[.agg #[.int .i64 k, .string ⟨s.toArray⟩, .int .i64 n, .slice a l c], .bool z]) := by
  rcases h with ⟨_, _, p, a, l, c, h, _⟩ | ⟨_, _, _, _, k, n, s, a, l, c, h, _⟩
  · exact ⟨_, _, _, _, _, _, _, h⟩
  · exact ⟨_, _, _, _, _, _, _, h⟩

theorem LvPost.kp {S : List By} {D : Nat → Pt → Prop} {c1 i d : Nat} {e : Int} {w : World} {r : Ending} {w' : World} (h : LvPost len ts S D c1 b bl cp i d e w r w') : Kp b w w' := by
  rcases h with ⟨_, _, p, a, l, c, _, _, _, _, _, h, _⟩ | ⟨_, _, _, _, k, n, s, a, l, c, _, _, _, h, _⟩
  · exact h
  · exact h

/-- A part's post, told from further ahead: behind four stores into the result. -/
theorem LvPost.lift {S S' : List By} {D D' : Nat → Pt → Prop} {c1 c1' x i i0 d : Nat} {e : Int} {w W : World} {r : Ending} {w2 : World} (h : LvPost len ts S D c1 b bl cp i d e W r w2) (hK : Kp b w W) (hg : w.heap.size < W.heap.size) (hb : b < w.heap.size) (hle : i ≤ ts.length) (hi : i0 ≤ i)
    (hx : x + c1' ≤ c1 + 20 * (i - i0)) (hD : ∀ i' p, D i' p → D' i' p) (hgo : ∀ i' m, Go1 len ts S i i' m → Go1 len ts S' i0 i' (m + x)) (hno : ∀ er p m, No1 len ts S i er p m → No1 len ts S' i0 er p (m + x)) (v0 v1 v2 v3 : Value) :
    LvPost len ts S' D' c1' b bl cp i0 d e w r ((((w2.setCell ⟨w.heap.size, 0, none⟩ v0).setCell ⟨w.heap.size, 1, none⟩ v1).setCell ⟨w.heap.size, 2, none⟩ v2).setCell ⟨w.heap.size, 3, none⟩ v3) := by
  rcases h with ⟨i', m, p, a, l, c, hr, hp, hd, hS, hii, hk, hm, hg1⟩ | ⟨i', m, d', er, k, n, s, a, l, c, hr, hrd, her, hk, hm, hn1⟩
  · refine Or.inl ⟨i', m + x, p, a, l, c, hr, (hp.next fun q hq => ?_).wide fun q hq => ?_, hD _ _ hd, hS.store4 w.heap.size _ _ _ _ hb, by omega, (hK.trans hk).there4 w.heap.size _ _ _ _ (Nat.le_refl _) hb, by omega, hgo _ _ hg1⟩
    · exact heap4 w2 w.heap.size v0 v1 v2 v3 (by omega)
    · rw [size4]; omega
  · exact Or.inr ⟨i', m + x, d', er, k, n, s, a, l, c, hr, hrd.store4 w.heap.size _ _ _ _ hb, her, (hK.trans hk).there4 w.heap.size _ _ _ _ (Nat.le_refl _) hb, by omega, hno _ _ _ hn1⟩

/-- Brackets, whatever stands there. -/
theorem br_all (hok : OkT ts) (F : Nat) (IH : LvAll len ts b bl cp F) (kd R i d : Nat) (hR : R = 1 ∨ (R = 3 ∧ kd = 3)) (e : Int) (w : World) (hd : d ≤ 6) (hF : 10 * (ts.length - i) < F) (hS : St len ts w b bl cp i d e) (S : List By)
    (h1 : d < 6 → tAt ts i = [40] → S = brS R (d + 1)) (h2 : d = 6 → tAt ts i = [40] → No1 len ts S i 4 (pAt len ts i) 2) (h3 : tAt ts i ≠ [40] → No1 len ts S i 3 (pAt len ts i) 2) :
    Calls Tryd.prog 55 #[.pointer (some ⟨b, 0, none⟩), .int .i64 (kd : Int), .int .i64 (R : Int)] w (LvPost len ts S (BrD ts i kd R) 14 b bl cp i d e w) := by
  have hlt := hS.rd.lt
  by_cases hop : tAt ts i = [40]
  · have hk9 := (hok.word hlt [40] 9 (by decide)).2 hop
    by_cases h6 : d = 6
    · subst h6
      refine (br_deep kd R i e w hS.rd hk9).mono ?_
      rintro r w2 ⟨rfl, hr2, hb2⟩
      exact Or.inr ⟨i, 2, 6, 4, 0, 0, [], none, 0, 0, rfl, hr2, by decide, hb2, by omega, h2 rfl hop⟩
    · rw [h1 (by omega) hop]
      exact br_go hok F IH kd R i d hR e w (by omega) hop hF hS
  · have hk9 : ((ptoks len ts)[i]).1 ≠ 9 := fun h => hop ((hok.word hlt [40] 9 (by decide)).1 h)
    refine (br_nope kd R i d e w hS.rd hk9).mono ?_
    rintro r w2 ⟨rfl, hr2, hb2⟩
    exact Or.inr ⟨i, 2, d, 3, 0, 0, [], none, 0, 0, rfl, hr2, by decide, hb2, by omega, h3 hop⟩

/-- How 'atom' hands on what brackets answer. -/
def Handed (len : Nat) (ts : List (By × Nat)) (S : List By) (D : Nat → Pt → Prop) (b bl cp i d : Nat) (e : Int) (w : World) (r : Ending) (w' : World) : Prop :=
  ∃ W w2 v0 v1 v2 v3, LvPost len ts S D 14 b bl cp i d e W r w2 ∧ Kp b w W ∧ w.heap.size < W.heap.size ∧ w' = ((((w2.setCell ⟨w.heap.size, 0, none⟩ v0).setCell ⟨w.heap.size, 1, none⟩ v1).setCell ⟨w.heap.size, 2, none⟩ v2).setCell ⟨w.heap.size, 3, none⟩ v3)

set_option maxRecDepth 100000 in
set_option maxHeartbeats 4000000 in
/-- A plain ATOM is taken. -/
theorem at_take (k i : Nat) (d e : Int) (w : World) (h : Rdr w b bl cp (ptoks len ts) i d e) (hi : i + 1 < (ptoks len ts).length) (hk : ((ptoks len ts)[i]'h.lt).1 = (k : Int)) (hk4 : k = 1 ∨ k = 2 ∨ k = 7 ∨ k = 8) :
    Calls Tryd.prog 45 #[.pointer (some ⟨b, 0, none⟩)] w fun r w' => r = .returned (.tuple #[.agg #[.int .i64 (k : Int), .string ⟨((ptoks len ts)[i]'h.lt).2.2.1.toArray⟩, .int .i64 (((ptoks len ts)[i]'h.lt).2.2.2 : Int), .slice none 0 0], .bool true]) ∧ Rdr w' b bl cp (ptoks len ts) (i + 1) d e ∧ Kp b w w' := by
  have hs := h.size
  have hlt := h.lt
  have H := toHid (fun w1 (g : Rdr w1 b bl cp (ptoks len ts) i d e) => kind42 w1 b bl cp _ i d e g)
  have H2 := toHid (fun w1 (g : Rdr w1 b bl cp (ptoks len ts) i d e) => take45 w1 b bl cp _ i d e g hi)
  have HR := toHid h
  have HK := toHid hk
  clear hk
  rcases hk4 with rfl | rfl | rfl | rfl
  · go_enter Tryd.func45, Tryd.ntmps45
    go_wp2_with (first | (go_at_call 43; refine (H.out _ (HR.out.next ((Below.refl _ _).alloc (Nat.le_refl _) _))).mono ?_; rw [HK.out]; rintro e w' ⟨rfl, rfl⟩) | (go_at_call 46; refine (H2.out _ (HR.out.next ((Below.refl _ _).alloc (Nat.le_refl _) _))).mono ?_; rw [HK.out]; rintro e w' ⟨rfl, hr, hbb⟩; refine Hid.out ?_))
    obtain ⟨⟨k0, k1, k2, k3⟩, ⟨f0, f1, f2, f3⟩, hsz⟩ := row4 (hbb.blk (q := w.heap.size) (heap_alloc_new w _) (by omega))
    have HB := toHid hbb
    have HR2 := toHid hr
    clear hr hbb
    refine toHid ?_
    go_wp2
    refine bodyPost_ret (v := .tuple #[.agg #[.int .i64 1, .string ⟨((ptoks len ts)[i]'hlt).2.2.1.toArray⟩, .int .i64 (((ptoks len ts)[i]'hlt).2.2.2 : Int), .slice none 0 0], .bool true]) (by simp [results, Tryd.results45, go_sem, k0, k1, k2, k3, hsz]) rfl ?_
    have hkA := ((Kp.of ((Below.refl _ _).alloc (Nat.le_refl _) _) hs).trans HB.out).there4 w.heap.size (.int .i64 1) (.string ⟨((ptoks len ts)[i]'hlt).2.2.1.toArray⟩) (.int .i64 (((ptoks len ts)[i]'hlt).2.2.2 : Int)) (.slice none 0 0) (Nat.le_refl _) hs
    exact ⟨rfl, (HR2.out.store4 w.heap.size _ _ _ _ hs).next ((Below.refl _ _).alloc (Nat.le_refl _) _), hkA.next ((Below.refl _ _).alloc (Nat.le_refl _) _) (by have := hkA.size; omega)⟩
  · go_enter Tryd.func45, Tryd.ntmps45
    go_wp2_with (first | (go_at_call 43; refine (H.out _ (HR.out.next ((Below.refl _ _).alloc (Nat.le_refl _) _))).mono ?_; rw [HK.out]; rintro e w' ⟨rfl, rfl⟩) | (go_at_call 46; refine (H2.out _ (HR.out.next ((Below.refl _ _).alloc (Nat.le_refl _) _))).mono ?_; rw [HK.out]; rintro e w' ⟨rfl, hr, hbb⟩; refine Hid.out ?_))
    obtain ⟨⟨k0, k1, k2, k3⟩, ⟨f0, f1, f2, f3⟩, hsz⟩ := row4 (hbb.blk (q := w.heap.size) (heap_alloc_new w _) (by omega))
    have HB := toHid hbb
    have HR2 := toHid hr
    clear hr hbb
    refine toHid ?_
    go_wp2
    refine bodyPost_ret (v := .tuple #[.agg #[.int .i64 2, .string ⟨((ptoks len ts)[i]'hlt).2.2.1.toArray⟩, .int .i64 (((ptoks len ts)[i]'hlt).2.2.2 : Int), .slice none 0 0], .bool true]) (by simp [results, Tryd.results45, go_sem, k0, k1, k2, k3, hsz]) rfl ?_
    have hkA := ((Kp.of ((Below.refl _ _).alloc (Nat.le_refl _) _) hs).trans HB.out).there4 w.heap.size (.int .i64 2) (.string ⟨((ptoks len ts)[i]'hlt).2.2.1.toArray⟩) (.int .i64 (((ptoks len ts)[i]'hlt).2.2.2 : Int)) (.slice none 0 0) (Nat.le_refl _) hs
    exact ⟨rfl, (HR2.out.store4 w.heap.size _ _ _ _ hs).next ((Below.refl _ _).alloc (Nat.le_refl _) _), hkA.next ((Below.refl _ _).alloc (Nat.le_refl _) _) (by have := hkA.size; omega)⟩
  · go_enter Tryd.func45, Tryd.ntmps45
    go_wp2_with (first | (go_at_call 43; refine (H.out _ (HR.out.next ((Below.refl _ _).alloc (Nat.le_refl _) _))).mono ?_; rw [HK.out]; rintro e w' ⟨rfl, rfl⟩) | (go_at_call 46; refine (H2.out _ (HR.out.next ((Below.refl _ _).alloc (Nat.le_refl _) _))).mono ?_; rw [HK.out]; rintro e w' ⟨rfl, hr, hbb⟩; refine Hid.out ?_))
    obtain ⟨⟨k0, k1, k2, k3⟩, ⟨f0, f1, f2, f3⟩, hsz⟩ := row4 (hbb.blk (q := w.heap.size) (heap_alloc_new w _) (by omega))
    have HB := toHid hbb
    have HR2 := toHid hr
    clear hr hbb
    refine toHid ?_
    go_wp2
    refine bodyPost_ret (v := .tuple #[.agg #[.int .i64 7, .string ⟨((ptoks len ts)[i]'hlt).2.2.1.toArray⟩, .int .i64 (((ptoks len ts)[i]'hlt).2.2.2 : Int), .slice none 0 0], .bool true]) (by simp [results, Tryd.results45, go_sem, k0, k1, k2, k3, hsz]) rfl ?_
    have hkA := ((Kp.of ((Below.refl _ _).alloc (Nat.le_refl _) _) hs).trans HB.out).there4 w.heap.size (.int .i64 7) (.string ⟨((ptoks len ts)[i]'hlt).2.2.1.toArray⟩) (.int .i64 (((ptoks len ts)[i]'hlt).2.2.2 : Int)) (.slice none 0 0) (Nat.le_refl _) hs
    exact ⟨rfl, (HR2.out.store4 w.heap.size _ _ _ _ hs).next ((Below.refl _ _).alloc (Nat.le_refl _) _), hkA.next ((Below.refl _ _).alloc (Nat.le_refl _) _) (by have := hkA.size; omega)⟩
  · go_enter Tryd.func45, Tryd.ntmps45
    go_wp2_with (first | (go_at_call 43; refine (H.out _ (HR.out.next ((Below.refl _ _).alloc (Nat.le_refl _) _))).mono ?_; rw [HK.out]; rintro e w' ⟨rfl, rfl⟩) | (go_at_call 46; refine (H2.out _ (HR.out.next ((Below.refl _ _).alloc (Nat.le_refl _) _))).mono ?_; rw [HK.out]; rintro e w' ⟨rfl, hr, hbb⟩; refine Hid.out ?_))
    obtain ⟨⟨k0, k1, k2, k3⟩, ⟨f0, f1, f2, f3⟩, hsz⟩ := row4 (hbb.blk (q := w.heap.size) (heap_alloc_new w _) (by omega))
    have HB := toHid hbb
    have HR2 := toHid hr
    clear hr hbb
    refine toHid ?_
    go_wp2
    refine bodyPost_ret (v := .tuple #[.agg #[.int .i64 8, .string ⟨((ptoks len ts)[i]'hlt).2.2.1.toArray⟩, .int .i64 (((ptoks len ts)[i]'hlt).2.2.2 : Int), .slice none 0 0], .bool true]) (by simp [results, Tryd.results45, go_sem, k0, k1, k2, k3, hsz]) rfl ?_
    have hkA := ((Kp.of ((Below.refl _ _).alloc (Nat.le_refl _) _) hs).trans HB.out).there4 w.heap.size (.int .i64 8) (.string ⟨((ptoks len ts)[i]'hlt).2.2.1.toArray⟩) (.int .i64 (((ptoks len ts)[i]'hlt).2.2.2 : Int)) (.slice none 0 0) (Nat.le_refl _) hs
    exact ⟨rfl, (HR2.out.store4 w.heap.size _ _ _ _ hs).next ((Below.refl _ _).alloc (Nat.le_refl _) _), hkA.next ((Below.refl _ _).alloc (Nat.le_refl _) _) (by have := hkA.size; omega)⟩

set_option maxRecDepth 100000 in
set_option maxHeartbeats 4000000 in
/-- 'if': brackets with three. -/
theorem at_if (i d : Nat) (e : Int) (w : World) (hS : St len ts w b bl cp i d e) (hi : i + 1 < (ptoks len ts).length) (hk : ((ptoks len ts)[i]'hS.rd.lt).1 = 3) (S : List By) (D : Nat → Pt → Prop)
    (hP : ∀ w1, St len ts w1 b bl cp (i + 1) d e → Calls Tryd.prog 55 #[.pointer (some ⟨b, 0, none⟩), .int .i64 3, .int .i64 3] w1 (LvPost len ts S D 14 b bl cp (i + 1) d e w1)) :
    Calls Tryd.prog 45 #[.pointer (some ⟨b, 0, none⟩)] w (Handed len ts S D b bl cp (i + 1) d e w) := by
  have hs := hS.rd.size
  have H := toHid (fun w1 (g : Rdr w1 b bl cp (ptoks len ts) i (d : Int) e) => kind42 w1 b bl cp _ i d e g)
  have H2 := toHid (fun w1 (g : Rdr w1 b bl cp (ptoks len ts) i (d : Int) e) => take45 w1 b bl cp _ i d e g hi)
  have HS := toHid hS
  have HK := toHid hk
  have HP := toHid hP
  clear hk hP
  go_enter Tryd.func45, Tryd.ntmps45
  go_wp2_with (first | (go_at_call 43; refine (H.out _ (HS.out.rd.next ((Below.refl _ _).alloc (Nat.le_refl _) _))).mono ?_; rw [HK.out]; rintro e w' ⟨rfl, rfl⟩) | (go_at_call 46; refine (H2.out _ (HS.out.rd.next ((Below.refl _ _).alloc (Nat.le_refl _) _))).mono ?_; rintro e w1 ⟨rfl, hr, hbb⟩; refine Hid.out ?_))
  have hR1 := hbb.blk (q := w.heap.size) (heap_alloc_new w _) (by omega)
  have hk1 : Kp b w w1 := (Kp.of ((Below.refl _ _).alloc (Nat.le_refl _) _) hs).trans hbb
  have HL := toHid (HP.out w1 (HS.out.down (d' := d) hr hk1.bel))
  have HK1 := toHid hk1
  have HR1 := toHid hR1
  clear hr hbb hk1 hR1
  refine toHid ?_
  go_wp2_with (first | (go_at_call 55; refine HL.out.mono ?_; intro r w2 hlv; obtain ⟨z, k, n, s, a, l, c, rfl⟩ := hlv.form; refine Hid.out ?_))
  obtain ⟨⟨k0, k1, k2, k3⟩, ⟨f0, f1, f2, f3⟩, hsz⟩ := row4 (hlv.kp.blk HR1.out (by omega))
  have HLV := toHid hlv
  clear hlv
  refine toHid ?_
  go_wp2
  refine bodyPost_ret (v := .tuple #[.agg #[.int .i64 k, .string ⟨s.toArray⟩, .int .i64 n, .slice a l c], .bool z]) (by simp [results, Tryd.results45, go_sem, k0, k1, k2, k3]) rfl ?_
  exact ⟨w1, w2, _, _, _, _, HLV.out, HK1.out, (Array.getElem?_eq_some_iff.1 HR1.out).1, rfl⟩

set_option maxRecDepth 100000 in
set_option maxHeartbeats 4000000 in
/-- Else: brackets with one. -/
theorem at_br (k i d : Nat) (e : Int) (w : World) (hS : St len ts w b bl cp i d e) (hk : ((ptoks len ts)[i]'hS.rd.lt).1 = (k : Int)) (hk5 : k ≠ 1 ∧ k ≠ 2 ∧ k ≠ 7 ∧ k ≠ 8 ∧ k ≠ 3) (S : List By) (D : Nat → Pt → Prop)
    (hP : ∀ w1, St len ts w1 b bl cp i d e → Calls Tryd.prog 55 #[.pointer (some ⟨b, 0, none⟩), .int .i64 9, .int .i64 1] w1 (LvPost len ts S D 14 b bl cp i d e w1)) :
    Calls Tryd.prog 45 #[.pointer (some ⟨b, 0, none⟩)] w (Handed len ts S D b bl cp i d e w) := by
  have hs := hS.rd.size
  have H := toHid (fun w1 (g : Rdr w1 b bl cp (ptoks len ts) i (d : Int) e) => kind42 w1 b bl cp _ i d e g)
  have HS := toHid hS
  have HK := toHid hk
  have HP := toHid hP
  obtain ⟨n1, n2, n7, n8, n3⟩ := hk5
  have b1 : ((k : Int) == 1) = false := beq_eq_false_iff_ne.2 (by omega)
  have b2 : ((k : Int) == 2) = false := beq_eq_false_iff_ne.2 (by omega)
  have b7 : ((k : Int) == 7) = false := beq_eq_false_iff_ne.2 (by omega)
  have b8 : ((k : Int) == 8) = false := beq_eq_false_iff_ne.2 (by omega)
  have b3 : ((k : Int) == 3) = false := beq_eq_false_iff_ne.2 (by omega)
  clear hk hP n1 n2 n7 n8 n3
  go_enter Tryd.func45, Tryd.ntmps45
  go_wp2_with (first | (go_at_call 43; refine (H.out _ (HS.out.rd.next ((Below.refl _ _).alloc (Nat.le_refl _) _))).mono ?_; rw [HK.out]; rintro e w' ⟨rfl, rfl⟩) | (go_at_call 55; refine (HP.out _ (HS.out.next ((Below.refl _ _).alloc (Nat.le_refl _) _))).mono ?_; intro r w2 hlv; obtain ⟨z, k, n, s, a, l, c, rfl⟩ := hlv.form; refine Hid.out ?_))
  obtain ⟨⟨k0, k1, k2, k3⟩, ⟨f0, f1, f2, f3⟩, hsz⟩ := row4 (hlv.kp.blk (heap_alloc_new w _) (by omega))
  have HLV := toHid hlv
  clear hlv
  refine toHid ?_
  go_wp2
  refine bodyPost_ret (v := .tuple #[.agg #[.int .i64 k, .string ⟨s.toArray⟩, .int .i64 n, .slice a l c], .bool z]) (by simp [results, Tryd.results45, go_sem, k0, k1, k2, k3]) rfl ?_
  exact ⟨_, w2, _, _, _, _, HLV.out, Kp.of ((Below.refl _ _).alloc (Nat.le_refl _) _) hs, by simp, rfl⟩

theorem atom44 (hok : OkT ts) (F : Nat) (IH : LvAll len ts b bl cp F) (i d : Nat) (e : Int) (w : World) (hd : d ≤ 6) (hm : tAt ts i ≠ [45]) (hF : 10 * (ts.length - i) < F) (hS : St len ts w b bl cp i d e) :
    Calls Tryd.prog 45 #[.pointer (some ⟨b, 0, none⟩)] w (LvPost len ts [symB 65 d] (fun i' p => Der ts 6 i i' p) 12 b bl cp i d e w) := by
  have hlt := hS.rd.lt
  have hbec : becB 65 d (tAt ts i) = atomB (tAt ts i) d := rfl
  obtain ⟨k, hcl, hkk, hk20, hk0⟩ := hok.cls hlt
  have hle := hS.le
  have hs := hS.rd.size
  by_cases h4 : k = 1 ∨ k = 2 ∨ k = 7 ∨ k = 8
  · have hi : i < ts.length := by
      rcases Nat.lt_or_ge i ts.length with h | h
      · exact h
      · have := hk0.2 (by omega); omega
    have hpt := ptoks_lt hlt hi
    refine (at_take k i d e w hS.rd (by rw [ptoks_length]; omega) hkk h4).mono ?_
    rintro r w' ⟨rfl, hr, hb⟩
    refine Or.inl ⟨i + 1, 2, .atom k (nmB (tAt ts i)) (nuB (tAt ts i)), none, 0, 0, by rw [hpt]; rfl, PIs.leaf _ rfl, Der.atom i k hi hcl h4, hS.down (d' := d) hr hb.bel, by omega, hb, by omega, ?_⟩
    refine Go1.sym (by omega) ?_
    rw [hbec, atomB_plain _ k d hcl h4]
    exact Go1.tok (hok.tk hi) rfl (Go1.nil _)
  · by_cases h3 : k = 3
    · subst h3
      have ht : tAt ts i = [105, 102] := (cls_word [105, 102] 3 (by decide) _ 3 hcl).1 rfl
      have hi : i < ts.length := at_lt (by decide) ht
      have htk : Tk [105, 102] := ⟨105, _, rfl, by decide, by decide⟩
      refine (at_if i d e w hS (by rw [ptoks_length]; omega) hkk (if d < 6 then brS 3 (d + 1) else [wOpen]) (BrD ts (i + 1) 3 3) ?_).mono ?_
      · intro w1 hS1
        refine br_all hok F IH 3 3 (i + 1) d (Or.inr ⟨rfl, rfl⟩) e w1 hd (by omega) hS1 _ (fun h6 _ => by rw [if_pos h6]) (fun h6 hop => ?_) (fun hop => ?_)
        · rw [if_neg (by omega)]
          exact No1.opens hop
        · by_cases h6 : d < 6
          · rw [if_pos h6]
            intro K q
            have := No1.bad (len := len) (S := stackS 3 0 (d + 1)) tkOpen hop K (q + 1)
            rw [show 2 + q = 1 + (q + 1) by omega]
            exact this
          · rw [if_neg h6]
            exact No1.opens_no hop (hok.notNone _)
      · rintro r w' ⟨W, w2, v0, v1, v2, v3, hlv, hK, hg, rfl⟩
        have hat : atomB [105, 102] d = [105, 102] :: (if d < 6 then brS 3 (d + 1) else [wOpen]) := by
          by_cases h6 : d < 6
          · rw [if_pos h6, atomB_if d h6]
          · obtain rfl : d = 6 := by omega
            rw [if_neg h6, atomB_if6]
        refine hlv.lift (x := 2) hK hg hs (by omega) (by omega) (by omega) (fun i' p hD => ?_) (fun i' m h => ?_) (fun er p m h => ?_) v0 v1 v2 v3
        · obtain ⟨l, j, hB, hl, hc, rfl, e1, e2, e3, e4⟩ := hD
          obtain ⟨a, b', c, j1, j2, rfl, h1, h2, h3, h4, h5, h6⟩ := hB.inv3 hl
          cases p with
          | atom => simp [Pt.kids] at e4
          | un => simp [Pt.kids] at e4
          | bin => simp [Pt.kids] at e4
          | ifs a' b'' c' =>
            simp only [Pt.kids, List.cons.injEq, and_true] at e4
            obtain ⟨rfl, rfl, rfl⟩ := e4
            exact Der.ifs i j1 j2 j _ _ _ ht h1 h2 h3 h4 h5 h6 hc
        · refine Go1.sym (by omega) ?_
          rw [hbec, ht, hat, List.append_nil]
          exact Go1.tok htk ht h
        · refine No1.sym (by omega) ?_
          rw [hbec, ht, hat, List.append_nil]
          exact No1.tok htk ht h
    · have h5 : k ≠ 1 ∧ k ≠ 2 ∧ k ≠ 7 ∧ k ≠ 8 ∧ k ≠ 3 := by omega
      have h13 : k ≠ 13 := by
        rintro rfl
        exact hm ((cls_word [45] 13 (by decide) _ 13 hcl).1 rfl)
      have hnone : tAt ts i ≠ [40] → atomB (tAt ts i) d = [wNone] := fun hop => atomB_none _ k d hcl h5 (fun h => hop ((cls_word [40] 9 (by decide) _ k hcl).1 h)) h13
      refine (at_br k i d e w hS hkk h5 (atomB (tAt ts i) d) (BrD ts i 9 1) ?_).mono ?_
      · intro w1 hS1
        refine br_all hok F IH 9 1 i d (Or.inl rfl) e w1 hd hF hS1 _ (fun h6 hop => by rw [hop, atomB_open d h6]) (fun h6 hop => ?_) (fun hop => ?_)
        · subst h6
          rw [hop, atomB_open6]
          intro K q
          have := No1.deep (len := len) (ts := ts) (S := [[41]]) (i := i) K (q + 1)
          rw [show 2 + q = 1 + (q + 1) by omega]
          exact this
        · rw [hnone hop]
          intro K q
          have := No1.bad (len := len) (ts := ts) (S := []) (i := i) tkNone (hok.notNone _) K (q + 1)
          rw [show 2 + q = 1 + (q + 1) by omega]
          exact this
      · rintro r w' ⟨W, w2, v0, v1, v2, v3, hlv, hK, hg, rfl⟩
        refine hlv.lift (x := 1) hK hg hs (by omega) (by omega) (by omega) (fun i' p hD => ?_) (fun i' m h => ?_) (fun er p m h => ?_) v0 v1 v2 v3
        · obtain ⟨l, j, hB, hl, hc, rfl, e1, e2, e3, e4⟩ := hD
          obtain ⟨a, rfl, h1, h2⟩ := hB.inv1 hl
          cases p with
          | atom => simp [Pt.kids] at e4
          | un k' a' =>
            simp only [Pt.kids, List.cons.injEq, and_true] at e4
            subst e4
            have e1' : k' = 9 := e1
            subst e1'
            exact Der.br i j _ h1 h2 hc
          | bin => simp [Pt.kids] at e4
          | ifs => simp [Pt.kids] at e4
        · refine Go1.sym (by omega) ?_
          rw [hbec, List.append_nil]
          exact h
        · refine No1.sym (by omega) ?_
          rw [hbec, List.append_nil]
          exact h
end
end Go.Proofs.YtihgojcfpnhelaaDoor
