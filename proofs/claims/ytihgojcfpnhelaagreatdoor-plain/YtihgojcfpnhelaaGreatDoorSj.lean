import Derived.Test.YtihgojcfpnhelaaGreatDoorSi
set_option linter.unusedVariables false
set_option linter.unusedSimpArgs false
namespace Go.Proofs.YtihgojcfpnhelaaGreatDoor
open Go.RowKit

theorem own_ks {P : Nat → Prop} {w w' : World} {base z n : Nat} {e : TypeId} {v : Value} {xs : List Value} (h : w.ownsRow base e z v n xs) (hk : Ks P w w') (hP : ∀ q, P q → q < base) : w'.ownsRow base e z v n xs := by
  obtain ⟨h1, h2⟩ := h
  refine ⟨h1, h2.imp id ?_⟩
  rintro ⟨g, cap, cur, h3, h4, h5, h6⟩
  exact ⟨g, cap, cur, h3, h4, (hk.block g (Array.getElem?_eq_some_iff.1 h5).1 (fun hp => by have := hP g hp; omega)).trans h5, h6⟩

theorem hangP_sub (on : List By) (fs : List (Nat × Fd)) : ∀ x, x ∈ hangP on fs → x ∈ fs := by
  induction fs generalizing on with
  | nil => intro x hx; simp [hangP] at hx
  | cons f r ih =>
    intro x hx
    unfold hangP at hx
    split at hx
    · rcases List.mem_cons.1 hx with rfl | h
      · exact List.mem_cons_self
      · exact List.mem_cons_of_mem _ (ih _ x h)
    · exact List.mem_cons_of_mem _ (ih _ x hx)

theorem hangP_len (on : List By) (fs : List (Nat × Fd)) : (hangP on fs).length ≤ fs.length := by
  induction fs generalizing on with
  | nil => simp [hangP]
  | cons f r ih =>
    unfold hangP
    split
    · have := ih (on ++ [f.2.nm]); simp; omega
    · have := ih on; simp; omega

/-- A list of fields in new memory. -/
theorem Sh.ofOwn {w : World} {S : Nat → Prop} {a ak : Option Addr} {fs k : List (Nat × Fd)} {B ck : Nat} (h : Sh w S a fs) (hsub : ∀ x, x ∈ k → x ∈ fs) (ho : w.ownsRow B 220 1 (.slice ak k.length ck) k.length (ptrs k)) (hB : ∀ f, f ∈ fs → f.1 < B) : Sh w (fun q => S q ∨ ∃ o, ak = some ⟨q, o, none⟩) ak k := by
  have hblk : ∀ q o, ak = some ⟨q, o, none⟩ → B ≤ q ∧ q < w.heap.size ∧ o = 0 := fun q o hq => by
    subst hq
    rcases ho.2 with ⟨h1, _⟩ | ⟨g, cap, cur, h1, h2, h3, _⟩
    · simp at h1
    · simp at h1
      obtain ⟨⟨rfl, rfl⟩, _⟩ := h1
      exact ⟨h2, (Array.getElem?_eq_some_iff.1 h3).1, rfl⟩
  refine ⟨fun q hq => ?_, fun j hj => ?_, fun x hx => ?_⟩
  · rcases hq with hq | ⟨o, hq⟩
    · exact h.still q hq
    · exact (hblk q o hq).2.1
  · obtain ⟨g, cap, hv, _, _⟩ := ho.form (by omega)
    simp at hv
    obtain ⟨rfl, rfl⟩ := hv
    refine ⟨g, 0, rfl, Or.inr ⟨0, rfl⟩, ?_⟩
    rw [Nat.zero_add, ho.cellAt j (by omega)]
    simp [ptrs, hj]
  · obtain ⟨h1, h2, h3, h4, a1, l1, c1, hh, hp⟩ := h.fld x (hsub x hx)
    refine ⟨?_, h2, h3, h4, a1, l1, c1, hh, hp.wide fun q hq => Or.inl hq⟩
    rintro (hq | ⟨o, hq⟩)
    · exact h1 hq
    · have := (hblk _ o hq).1
      have := hB x (hsub x hx)
      omega

theorem Sh.ks {P : Nat → Prop} {w w' : World} {S : Nat → Prop} {a : Option Addr} {fs : List (Nat × Fd)} (h : Sh w S a fs) (hk : Ks P w w') (hS : ∀ q, S q → ¬ P q) (hf : ∀ f, f ∈ fs → ¬ P f.1) : Sh w' S a fs := by
  refine ⟨fun q hq => Nat.lt_of_lt_of_le (h.still q hq) hk.size, fun j hj => ?_, fun x hx => (h.fld x hx).stays (hk.block _ (h.fld x hx).lt (hf x hx)) fun q hq => hk.block q (h.still q hq) (hS q hq)⟩
  obtain ⟨g, o, h1, h2, h3⟩ := h.ptr j hj
  exact ⟨g, o, h1, h2, (World.cell?_of_block (a := ⟨g, o + j, none⟩) (hk.block g (h.still g h2) (hS g h2))).trans h3⟩

/-- An order is put into the sheet. -/
theorem putOrderS (e : Nat) (a : Option Addr) (l c : Nat) (a' : Option Addr) (l' c' : Nat) (v1 v2 v3 v4 v5 : Value) (te : TypeId) (w : World) (he : w.heap[e]? = some (.cells #[.slice a l c, v1, v2, v3, v4, v5] te (0, 0))) :
    Calls Tryz.prog 163 #[.pointer (some ⟨e, 0, none⟩), .slice a' l' c'] w fun r w' => ∃ g1 g2, r = .returned (.func (.func 192) #[] #[.pointer (some ⟨g1, 0, none⟩), .pointer (some ⟨g2, 0, none⟩)]) ∧ w'.heap[e]? = some (.cells #[.slice a' l' c', v1, v2, v3, v4, v5] te (0, 0)) ∧ Ks (fun q => q = e) w w' := by
  obtain ⟨⟨e0, _, _, _, _, _⟩, ⟨z0, _, _, _, _, _⟩, hel⟩ := row6 he
  refine (putOrder e 0 a l c a' l' c' w e0 z0 hel).mono ?_
  rintro r w' ⟨rfl, rfl⟩
  refine ⟨_, _, rfl, ?_, (((Ks.refl (fun q => q = e) w).set e 0 _ rfl).alloc _).alloc _⟩
  rw [Below.heap_alloc _ _ _ (by simp; omega), Below.heap_alloc _ _ _ (by simpa using hel), setCell_block he]
  rfl

/-- What 'settle' answers where nothing need be moved. -/
def SePost (S : Nat → Prop) (e c : Nat) (a : Option Addr) (fs : List (Nat × Fd)) (f : Nat × Fd) (w : World) (r : Ending) (w' : World) : Prop :=
  ∃ (vn : Value) (g : Nat), r = .returned (.tuple #[vn, .func (.func 106) #[] #[.pointer (some ⟨g, 0, none⟩)], .int .i64 0]) ∧ w'.ownsRow w.heap.size 9 1 vn (f :: hangP [f.2.nm] fs).length (strs (nmsF (f :: hangP [f.2.nm] fs))) ∧
    Sh w' S a (workP fs ((f :: hangP [f.2.nm] fs).map fun x => x.1)) ∧ Ks (fun q => q = e ∨ ∃ x, x ∈ fs ∧ x.1 = q) w w' ∧ w'.heap[e]? = w.heap[e]?

set_option maxRecDepth 100000 in
set_option maxHeartbeats 4000000 in
theorem settleNone {S : Nat → Prop} (e c at_ : Nat) (a : Option Addr) (fs : List (Nat × Fd)) (fn : Fn) (cs : Array Value) (v1 v2 v3 v4 v5 : Value) (te : TypeId) (w : World) (hs : Sh w S a fs) (he : w.heap[e]? = some (.cells #[.slice a fs.length c, v1, v2, v3, v4, v5] te (0, 0))) (hl : fs.length ≤ 400) (hef : ∀ f, f ∈ fs → f.1 ≠ e) (hSe : ¬ S e) (hcap : fs.length ≤ c)
    (hat : at_ < fs.length) (hu : ∀ i (h : i < fs.length), i < at_ → (fs[i]).1 ≠ (fs[at_]).1) (hm1 : ∀ i (h : i < fs.length), i < at_ → mentP (fs[at_]).2.nm (fs[i]).2.p = false) (hm : ∀ i (h : i < fs.length), at_ ≤ i → mentP (fs[i]).2.nm (fs[at_]).2.p = false) :
    Calls Tryz.prog 161 #[.pointer (some ⟨e, 0, none⟩), .pointer (some ⟨(fs[at_]).1, 0, none⟩), .func fn #[] cs] w (SePost S e c a fs (fs[at_]) w) := by
  have hel : e < w.heap.size := (Array.getElem?_eq_some_iff.1 he).1
  obtain ⟨⟨e0, e1, e2, e3, e4, e5⟩, ⟨z0, z1, z2, z3, z4, z5⟩, _⟩ := row6 he
  have HE := toHid he
  have HS := toHid hs
  have HM := toHid (mendedNone a c at_ fs w hs (by omega) hat hu hm1 hm hcap)
  obtain ⟨i1, gi, gz0, gz1, gz2⟩ := info_parts infoPtr
  have hfm : fs[at_] ∈ fs := List.getElem_mem hat
  generalize fs[at_] = f at *
  clear hs he hu hm1 hm
  go_enter Tryz.func161, Tryz.ntmps161
  go_wp2_with (first | (go_at_call 190; refine HM.out.mono ?_; rintro r w1 ⟨rfl, hb1⟩; refine Hid.out ?_))
  have HB1 := toHid hb1
  obtain ⟨⟨e0, e1, e2, e3, e4, e5⟩, ⟨z0, z1, z2, z3, z4, z5⟩, hel1⟩ := row6 ((hb1.block e hel).trans HE.out)
  have HP1 := toHid (putOrderS e a fs.length c a fs.length c v1 v2 v3 v4 v5 te w1 ((hb1.block e hel).trans HE.out))
  have HK1 := toHid (show Ks (fun q => q = e ∨ ∃ x, x ∈ fs ∧ x.1 = q) w w1 from Ks.of hb1)
  clear hb1
  refine toHid ?_
  go_wp2_with (first | (go_at_call 163; refine HP1.out.mono ?_; rintro r w2 ⟨g1, g2, rfl, he2, hk2⟩; refine Hid.out ?_))
  have HE2 := toHid he2
  have HK2 := toHid (HK1.out.trans (hk2.wide fun q hq => Or.inl hq))
  have HS2 := toHid ((HS.out.next HB1.out).ks hk2 (fun q hq h => hSe (h ▸ hq)) (fun x hx h => hef x hx h))
  obtain ⟨⟨h0, h1, h2, h3, h4, h5⟩, ⟨y0, y1, y2, y3, y4, y5⟩, hel2⟩ := row6 he2
  have HA := toHid (fun (an : Option Addr) (ln cn : Nat) (W : World) => (all138 an ln cn W).mono (R' := fun r w' => ∃ g, r = .returned (.func (.func 106) #[] #[.pointer (some ⟨g, 0, none⟩)]) ∧ Below W.heap.size W w') (by rintro r w' ⟨rfl, rfl⟩; exact ⟨_, rfl, (Below.refl _ _).alloc (Nat.le_refl _) _⟩))
  have hF2 := HS2.out.fld f hfm
  obtain ⟨_, _, _, _, fa, fl, fc, hFr, _⟩ := hF2
  have hFl2 := (Array.getElem?_eq_some_iff.1 hFr).1
  have HFR := toHid hFr
  clear he2 hk2 HP1 e0 e1 e2 e3 e4 e5 z0 z1 z2 z3 z4 z5 hFr
  refine toHid ?_
  go_wp2_with (first | (go_at_call 72; refine (HA.out _ _ _ _).mono ?_; rintro r w3 ⟨g3, rfl, hb3⟩; refine Hid.out ?_))
  have HB3 := toHid (show Below w2.heap.size w2 w3 from ((Below.refl _ _).alloc (Nat.le_refl _) _).trans (hb3.mono (by simp)))
  have HS3 := toHid (HS2.out.next HB3.out)
  have HK3 := toHid (HK2.out.trans (Ks.of HB3.out))
  have hel3 := Nat.lt_of_lt_of_le hel2 HB3.out.size
  obtain ⟨⟨h0, h1, h2, h3, h4, h5⟩, ⟨y0, y1, y2, y3, y4, y5⟩, _⟩ := row6 ((HB3.out.block e hel2).trans HE2.out)
  obtain ⟨⟨j0, _⟩, _, hFl3⟩ := row7 ((HB3.out.block f.1 hFl2).trans HFR.out)
  have HH := toHid (fun W (hb : Below w3.heap.size w3 W) => hanging137 f.2.nm e c a fs W (HS3.out.next hb) ((hb.cell (p := ⟨e, 0, none⟩) hel3).trans h0) (Nat.lt_of_lt_of_le hel3 hb.size) (by omega))
  clear hb3
  refine toHid ?_
  have HL := toHid (show (w3.alloc (.cells #[.pointer (some ⟨f.1, 0, none⟩)] 220)).ownsRow w3.heap.size 220 1 (.slice (some ⟨w3.heap.size, 0, none⟩) 1 1) 1 (ptrs [f]) from World.ownsRow_lit (base := w3.heap.size) (e := 220) (size := 1) w3 #[.pointer (some ⟨f.1, 0, none⟩)] 1 (Nat.le_refl _) (by unfold maxLen; omega) rfl)
  have hkl := hangP_len [f.2.nm] fs
  go_wp2_with (first | (go_at_call 166; refine (HH.out _ ((Below.refl _ _).alloc (Nat.le_refl _) _)).mono ?_; rintro r w4 ⟨vh, rfl, hownh, hb4⟩; refine Hid.out ?_))
  have HB4 := toHid (show Below w3.heap.size w3 w4 from ((Below.refl _ _).alloc (Nat.le_refl _) _).trans (hb4.mono (by simp)))
  have HL4 := toHid (own_below HL.out hb4)
  have HOH := toHid hownh
  have hs4 := HB4.out.size
  have hnil := hownh.2
  clear hb4 HL HH hownh
  refine toHid ?_
  have HFIN := toHid (show ∀ (v5 : Value) (w5 : World), w5.ownsRow w3.heap.size 220 1 v5 (1 + (hangP [f.2.nm] fs).length) (ptrs [f] ++ ptrs (hangP [f.2.nm] fs)) → Below w3.heap.size w3 w5 → (∀ W (hW : Below w5.heap.size w5 W), Calls Tryz.prog 142 #[v5] W fun r w' => ∃ v, r = .returned v ∧ w'.ownsRow W.heap.size 9 1 v (f :: hangP [f.2.nm] fs).length (strs (nmsF (f :: hangP [f.2.nm] fs))) ∧ Below W.heap.size W w') ∧ (∀ W (hW : Below w5.heap.size w5 W), Calls Tryz.prog 167 #[.pointer (some ⟨e, 0, none⟩), v5] W fun r w' => ∃ g, r = .returned (.func (.func 106) #[] #[.pointer (some ⟨g, 0, none⟩)]) ∧ Sh w' S a (workP fs ((f :: hangP [f.2.nm] fs).map fun f => f.1)) ∧ Ks (fun q => ∃ f, f ∈ fs ∧ f.1 = q) W w') from fun v5 w5 hown5 hb5 => by
    have hlen : 1 + (hangP [f.2.nm] fs).length = (f :: hangP [f.2.nm] fs).length := by simp; omega
    have hp5 : ptrs [f] ++ ptrs (hangP [f.2.nm] fs) = ptrs (f :: hangP [f.2.nm] fs) := by simp [ptrs]
    rw [hlen, hp5] at hown5
    obtain ⟨g5, cap5, rfl, hg5, hg5l⟩ := hown5.form (by simp)
    have hsub : ∀ x, x ∈ f :: hangP [f.2.nm] fs → x ∈ fs := fun x hx => by
      rcases List.mem_cons.1 hx with rfl | h
      · exact hfm
      · exact hangP_sub _ _ x h
    have hfl3 : ∀ x, x ∈ fs → x.1 < w3.heap.size := fun x hx => (HS3.out.fld x hx).lt
    refine ⟨fun W hW => names107 _ _ _ W (((HS3.out.next hb5).ofOwn hsub hown5 hfl3).next hW) (by simp; omega), fun W hW => ?_⟩
    refine workOut139 e c cap5 a (some ⟨g5, 0, none⟩) fs (f :: hangP [f.2.nm] fs) W ((HS3.out.next hb5).next hW) ((hW.cell (p := ⟨e, 0, none⟩) (Nat.lt_of_lt_of_le hel3 hb5.size)).trans ((hb5.cell (p := ⟨e, 0, none⟩) hel3).trans h0)) (Nat.lt_of_lt_of_le (Nat.lt_of_lt_of_le hel3 hb5.size) hW.size) (by omega) (by simp; omega) hef (fun j hj => ⟨⟨_, hsub _ (List.getElem_mem hj), rfl⟩, g5, 0, rfl, Nat.lt_of_lt_of_le hg5l hW.size, fun x hx => by have := hfl3 x hx; omega, ?_⟩)
    rw [hW.cell (p := ⟨g5, 0 + j, none⟩) hg5l, Nat.zero_add, hown5.cellAt j (by omega)]
    unfold ptrs
    rw [List.getElem?_map, List.getElem?_eq_getElem hj]
    rfl)
  rcases hnil with ⟨rfl, hk0⟩ | ⟨gh, caph, curh, rfl, hgh, hgh2, _⟩
  · go_wp2_with (first | (at_builtin; refine wpList_append_own_none rfl (.tmp 38) (.tmp 44) 101 rfl w3.heap.size 220 i1 1 Tryz.underlying101 gi (.slice (some ⟨w3.heap.size, 0, none⟩) 1 1) 1 (ptrs [f]) rfl HL4.out rfl ?_; refine Hid.out ?_))
    obtain ⟨hn5, hw5⟩ := HFIN.out (.slice (some ⟨w3.heap.size, 0, none⟩) 1 1) w4 (by
      rw [hk0, Nat.add_zero, List.eq_nil_of_length_eq_zero hk0, show ptrs ([] : List (Nat × Fd)) = [] from rfl, List.append_nil]
      exact HL4.out) HB4.out
    have HN := toHid hn5
    have HWO := toHid hw5
    have HB5 := HB4
    clear hn5 hw5
    have hs5 := HB5.out.size
    clear HFIN HL4 HOH
    refine toHid ?_
    go_wp2_with (first | (go_at_call 142; refine (HN.out _ (Below.refl _ _)).mono ?_; rintro r w6 ⟨vn, rfl, hownn, hb6⟩; have HON := toHid hownn; have HB6 := toHid hb6; clear hownn hb6) | (go_at_call 167; refine (HWO.out _ HB6.out).mono ?_; rintro r w7 ⟨g7, rfl, hs7, hk7⟩; have HS7 := toHid hs7; have HK7 := toHid hk7; clear hs7 hk7) | (go_at_call 72; refine (HA.out _ _ _ _).mono ?_; rintro r w8 ⟨g8, rfl, hb8⟩; have HB8 := toHid hb8; clear hb8))
    go_ret3
    have hb78 : Below w7.heap.size w7 w8 := ((Below.refl _ _).alloc (Nat.le_refl _) _).trans (HB8.out.mono (by simp))
    have hw36 : w3.heap.size ≤ w6.heap.size := Nat.le_trans HB5.out.size HB6.out.size
    have hwk := HK3.out.size
    refine ⟨vn, g8, rfl, ?_, HS7.out.next hb78, (((HK3.out.trans (Ks.of HB5.out)).trans (Ks.of HB6.out)).trans (HK7.out.wide fun q hq => Or.inr hq)).trans (Ks.of hb78), ?_⟩
    · refine own_base (own_below (own_ks HON.out HK7.out ?_) hb78) (Nat.le_trans hwk HB5.out.size)
      rintro q ⟨x, hx, rfl⟩
      exact Nat.lt_of_lt_of_le (HS3.out.fld x hx).lt HB5.out.size
    · rw [hb78.block e (Nat.lt_of_lt_of_le hel3 (Nat.le_trans hw36 HK7.out.size)), HK7.out.block e (Nat.lt_of_lt_of_le hel3 hw36) (fun ⟨x, hx, h⟩ => hef x hx h), HB6.out.block e (Nat.lt_of_lt_of_le hel3 HB5.out.size), HB5.out.block e hel3, HB3.out.block e hel2, HE2.out, HE.out]
  · go_wp2_with (first | (at_builtin; refine wpList_append_own _ rfl (.tmp 38) (.tmp 44) 101 rfl w3.heap.size 220 i1 (.pointer none) 1 8 Tryz.underlying101 gi gz0 gz1 gz2 rfl (by decide) (.slice (some ⟨w3.heap.size, 0, none⟩) 1 1) 1 (ptrs [f]) rfl HL4.out ⟨gh, 0, none⟩ (hangP [f.2.nm] fs).length caph (ptrs (hangP [f.2.nm] fs)) rfl (by simp [ptrs]) (fun q u hq => HOH.out.cells rfl q u hq) (fun u hu => by simp [ptrs] at hu; obtain ⟨a, b, _, rfl⟩ := hu; rfl) (by unfold maxLen; omega) (by omega) hs4 ?_; intro v5 w5 hown5 hgrow5 _; refine Hid.out ?_))
    have HB5 := toHid (HB4.out.grown hgrow5 hs4 (fun q hq => (HL4.out.lt q hq).1))
    obtain ⟨hn5, hw5⟩ := HFIN.out v5 w5 hown5 HB5.out
    have HN := toHid hn5
    have HWO := toHid hw5
    clear hn5 hw5 hown5 hgrow5
    have hs5 := HB5.out.size
    clear HFIN HL4 HOH
    refine toHid ?_
    go_wp2_with (first | (go_at_call 142; refine (HN.out _ (Below.refl _ _)).mono ?_; rintro r w6 ⟨vn, rfl, hownn, hb6⟩; have HON := toHid hownn; have HB6 := toHid hb6; clear hownn hb6) | (go_at_call 167; refine (HWO.out _ HB6.out).mono ?_; rintro r w7 ⟨g7, rfl, hs7, hk7⟩; have HS7 := toHid hs7; have HK7 := toHid hk7; clear hs7 hk7) | (go_at_call 72; refine (HA.out _ _ _ _).mono ?_; rintro r w8 ⟨g8, rfl, hb8⟩; have HB8 := toHid hb8; clear hb8))
    go_ret3
    have hb78 : Below w7.heap.size w7 w8 := ((Below.refl _ _).alloc (Nat.le_refl _) _).trans (HB8.out.mono (by simp))
    have hw36 : w3.heap.size ≤ w6.heap.size := Nat.le_trans HB5.out.size HB6.out.size
    have hwk := HK3.out.size
    refine ⟨vn, g8, rfl, ?_, HS7.out.next hb78, (((HK3.out.trans (Ks.of HB5.out)).trans (Ks.of HB6.out)).trans (HK7.out.wide fun q hq => Or.inr hq)).trans (Ks.of hb78), ?_⟩
    · refine own_base (own_below (own_ks HON.out HK7.out ?_) hb78) (Nat.le_trans hwk HB5.out.size)
      rintro q ⟨x, hx, rfl⟩
      exact Nat.lt_of_lt_of_le (HS3.out.fld x hx).lt HB5.out.size
    · rw [hb78.block e (Nat.lt_of_lt_of_le hel3 (Nat.le_trans hw36 HK7.out.size)), HK7.out.block e (Nat.lt_of_lt_of_le hel3 hw36) (fun ⟨x, hx, h⟩ => hef x hx h), HB6.out.block e (Nat.lt_of_lt_of_le hel3 HB5.out.size), HB5.out.block e hel3, HB3.out.block e hel2, HE2.out, HE.out]
end Go.Proofs.YtihgojcfpnhelaaGreatDoor
