import Derived.Test.YtihgojcfpnhelabGreatDoorS2Sy
set_option maxRecDepth 100000
set_option maxHeartbeats 4000000
set_option linter.unusedVariables false
set_option linter.unusedSimpArgs false
namespace Go.Proofs.YtihgojcfpnhelabGreatDoor
open Go.RowKit
section
attribute [local go_sem] addr_add
theorem own_len {w : World} {base z n : Nat} {e : TypeId} {v : Value} {xs : List Value} (h : w.ownsRow base e z v n xs) : ∃ an cn, v = .slice an n cn := by
 rcases h.2 with ⟨rfl, h0⟩ | ⟨g, cap, cur, rfl, _⟩
 ·subst h0; exact ⟨_, _, rfl⟩
 ·exact ⟨_, _, rfl⟩
theorem PtAt.own {w : World} {base : Nat} {v : Value} {fs : List (Nat × Fd)} (h : w.ownsRow base 116 1 v fs.length (ptrs fs)) : PtAt w v fs := by
 have hlt := h.lt
 rcases h.2 with ⟨rfl, h0⟩ | ⟨g, cap, cur, rfl, h1, h2, _⟩
 ·obtain rfl : fs = [] := List.eq_nil_of_length_eq_zero h0
  exact ⟨none, 0, rfl, fun _ => rfl, fun j hj => by simp at hj⟩
 ·refine ⟨some ⟨g, 0, none⟩, cap, rfl, (fun h => by cases h), fun j hj => ⟨g, 0, rfl, (Array.getElem?_eq_some_iff.1 h2).1, ?_⟩⟩
  have := h.cellAt j (by omega)
  rw [Nat.zero_add]
  simpa [ptrs, hj] using this
theorem infoLnk : (Tryz.prog.info? 230).map (fun i => (i.zero, i.size, i.bytes)) = some (some (.pointer none), 1, 8) := by kernel_rfl
theorem behindSome {S : Nat → Prop} (a : Option Addr) (c at_ last : Nat) (fs : List (Nat × Fd)) (w : World) (hs : Sh w S a fs) (hl : fs.length ≤ 100) (hla : last < fs.length) (hat : at_ ≤ last) (hc : fs.length ≤ c) (hu : ∀ i (h : i < fs.length), i < at_ → (fs[i]).1 ≠ (fs[at_]'(by omega)).1)
  (hm : mentP (fs[last]).2.nm (fs[at_]'(by omega)).2.p = true) (hn : ∀ i (h : i < fs.length), last < i → mentP (fs[i]).2.nm (fs[at_]'(by omega)).2.p = false) :
  Calls Tryz.prog 123 #[.slice a fs.length c, .pointer (some ⟨(fs[at_]'(by omega)).1, 0, none⟩)] w (BhPost fs at_ last (behP (fs[at_]'(by omega)) ((fs.drop at_).take (last + 1 - at_)) [] [] []) w) := by
 have hatl : at_ < fs.length := by omega
 have HI := tZ (fun W (hb : Below w.heap.size w W) => index136 a c (fs[at_]).1 at_ fs W (hs.next hb) (by omega) hatl rfl hu)
 have HX := tZ (fun W (hb : Below w.heap.size w W) => (lastM224 a c (fs[at_]).1 (fs[at_]).2 fs W (hs.next hb) (by omega) ((hs.next hb).fld _ (List.getElem_mem hatl))).mono (R' := fun e w' => e = .returned (.int .i64 (last : Int)) ∧ Below W.heap.size W w') (by
  rintro e w' ⟨z, rfl, hz, hb'⟩
  refine ⟨?_, hb'⟩
  rcases hz with ⟨_, h⟩ | ⟨j, hj, rfl, h1, h2⟩
  ·rw [h last hla] at hm; cases hm
  ·rcases Nat.lt_trichotomy j last with h | h | h
   ·have := h2 last hla h
    rw [hm] at this; cases this
   ·rw [h]
   ·rw [hn j hj h] at h1; cases h1))
 obtain ⟨i1, gi, gz0, gz1, gz2⟩ := info_parts infoPtr
 obtain ⟨i2, li, lz0, lz1, lz2⟩ := info_parts infoLnk
 obtain ⟨ga, oa, rfl, hga, _⟩ := hs.ptr at_ hatl
 have hFf := hs.fld _ (List.getElem_mem hatl)
 have z1 : ¬ (last : Int) < (at_ : Int) := by omega
 have z2 : (at_ : Int) ≤ (last : Int) + 1 := by omega
 have z3 : (last : Int) + 1 ≤ (c : Int) := by omega
 have z4 : (0 : Int) ≤ (at_ : Int) := by omega
 have hwr : IntKind.i64.wrap ((last : Int) + 1) = (last : Int) + 1 := by rw [IntKind.wrap_i64]; omega
 have HS := tZ hs
 have HFF := tZ hFf
 clear hs hu hm hn hFf
 generalize fs[at_] = f at *
 have hgl : ((fs.drop at_).take (last + 1 - at_)).length = last + 1 - at_ := by simp; omega
 have hget : ∀ k (h : k < ((fs.drop at_).take (last + 1 - at_)).length), ((fs.drop at_).take (last + 1 - at_))[k] = fs[at_ + k]'(by omega) := fun k h => by simp
 have HGS := tZ (show ∀ x, x ∈ (fs.drop at_).take (last + 1 - at_) → FdAt w S x.1 x.2 from fun x hx => HS.out.fld x (List.mem_of_mem_drop (List.mem_of_mem_take hx)))
 have HPT := tZ (show ∀ k (h : k < ((fs.drop at_).take (last + 1 - at_)).length), ga < w.heap.size ∧ w.cell? ⟨ga, oa + at_ + k, none⟩ = some (.pointer (some ⟨(((fs.drop at_).take (last + 1 - at_))[k]).1, 0, none⟩)) from fun k h => by
  obtain ⟨g', o', h1, h2, h3⟩ := HS.out.ptr (at_ + k) (by omega)
  simp at h1
  obtain ⟨rfl, rfl⟩ := h1
  refine ⟨HS.out.still _ h2, ?_⟩
  rw [hget k h, Nat.add_assoc]
  exact h3)
 clear hget
 generalize hgs : (fs.drop at_).take (last + 1 - at_) = gs at *
 go_enter Tryz.func123, Tryz.ntmps123
 go_wp2_with (first | (go_at_call 77; refine (HI.out _ (Below.refl _ _)).mono ?_; rintro e w1 ⟨rfl, rfl⟩) | (go_at_call 151; refine (HX.out _ (Below.refl _ _)).mono ?_; rintro e w1 ⟨rfl, hb1⟩; refine Hid.out ?_))
 have HB := tZ hb1
 clear hb1 HI HX
 refine tZ ?_
 go_wp2_with fail
 have e22 : decide (last < at_) = false := by simp; omega
 rw [e22]
 clear e22
 go_loopg [8, 9, 10, 30] gs.length (fun gk s8 s9 s10 s30 wr => ∃ (k : Nat) (st mv : List (Nat × Fd)) (ls : List (Nat × List (Nat × Fd))), k ≤ gs.length ∧ gs.length ≤ k + gk ∧ s30 = .int .i64 (k : Int) ∧ Hid (BhI S w wr f gs s8 s9 s10 k st mv ls))
 case atStart => exact ⟨0, [], [], [], Nat.zero_le _, by omega, rfl, ⟨rfl, World.ownsRow_nil _ _ _ _, World.ownsRow_nil _ _ _ _, World.ownsRow_nil _ _ _ _, fun q h => by simp [Value.ownBlock] at h, fun q h => by simp [Value.ownBlock] at h, fun q h => by simp [Value.ownBlock] at h, fun l hl => by simp at hl, by simp, fun l hl => by simp at hl, fun x hx => by simp at hx, HB.out⟩⟩
 case round =>
  obtain ⟨k, st, mv, ls, hk, hgk, rfl, HIN⟩ := hrel
  by_cases hlt : k < gs.length
  ·generalize hnn : last + 1 - at_ = nn at *
   generalize hcc : c - at_ = cc at *
   have hkz : (k : Int) < (nn : Int) := by omega
   have hnn100 : nn ≤ 100 := by omega
   clear hnn hcc hgs hwr z1 z2 z3 z4
   obtain ⟨a6, c6, rfl⟩ := own_len HIN.out.o6
   obtain ⟨a7, c7, rfl⟩ := own_len HIN.out.o7
   obtain ⟨a8, c8, rfl⟩ := own_len HIN.out.o8
   have b1 : st.length ≤ 100 := by have := HIN.out.cnt; omega
   have b2 : mv.length ≤ 100 := by have := HIN.out.cnt; omega
   have b3 : ls.length ≤ 100 := by have := HIN.out.cnt; omega
   have hsz := HIN.out.bel.size
   obtain ⟨hgal, hcell⟩ := HPT.out k hlt
   have hcell' := (HIN.out.bel.cell (p := ⟨ga, oa + at_ + k, none⟩) hgal).trans hcell
   have hgf := HGS.out _ (List.getElem_mem hlt)
   have HGE := tZ (show ∃ g, gs[k] = g from ⟨_, rfl⟩)
   obtain ⟨g, hge⟩ := HGE.out
   rw [hge] at hgf hcell'
   have HGQ := tZ hge
   have HLK := tZ (linked225 (S := S) (P := Off3 (.slice a6 st.length c6) (.slice a7 mv.length c7) (.slice a8 ls.length c8)) g f ls a8 c8 wr (fun q hq => Nat.lt_of_lt_of_le (HS.out.still q hq) hsz) (hgf.next HS.out.still HIN.out.bel) (HFF.out.next HS.out.still HIN.out.bel) (by omega) (fun j hj => by
    obtain ⟨l1, l2⟩ := HIN.out.lk _ (List.getElem_mem hj)
    refine ⟨l1, fun x hx => (l2 x hx).next HS.out.still HIN.out.bel, ?_⟩
    obtain ⟨gb, cap, hv, hgb, hgbl⟩ := HIN.out.o8.form (by omega)
    simp at hv
    refine ⟨gb, hv.1, hgbl, ?_⟩
    have h8 := HIN.out.o8
    rw [hv.1] at h8
    have := h8.cellAt j (by omega)
    simpa [lptrs, hj] using this))
   clear hcell HGE hge
   cases hq : linkQ g f (ls.map Prod.snd) with
   | none =>
    have HL2 := tZ (HLK.out.mono (R' := fun e w' => e = .returned (.pointer none) ∧ Below wr.heap.size wr w') (by
     rintro e w' ⟨hb, h⟩
     rw [linkedP_eq, hq] at h
     exact ⟨h, hb⟩))
    have HO6 := tZ (fun w2 (hb : Below wr.heap.size wr w2) => own_below HIN.out.o6 hb)
    have HST := tZ (fun w1 w2 v' h1 h2 h3 h4 => HIN.out.stay (w1 := w1) (w2 := w2) (v' := v') hlt HGQ.out hq h1 h2 h3 h4)
    clear hq HLK HIN hgf
    go_wp2_with (first | (go_at_call 152; refine HL2.out.mono ?_; rintro e w2 ⟨rfl, hb2⟩; refine Hid.out ?_))
    replace HO6 := tZ (HO6.out w2 hb2)
    have HB2 := tZ hb2
    have hs2 := hb2.size
    clear hb2 HL2
    refine tZ ?_
    go_wp2_with (first | (at_builtin; refine wpList_append_lies _ rfl (.tmp 49) (.tmp 51) 58 rfl w.heap.size 116 i1 (.pointer none) 1 8 Tryz.underlying58 gi gz0 gz1 gz2 rfl (by decide) (.slice a6 st.length c6) st.length (ptrs st) rfl (HO6.out.alloc _) ⟨w2.heap.size, 0, none⟩ 1 1 [.pointer (some ⟨g.1, 0, none⟩)] rfl rfl (fun q u hq => cells_new w2 [.pointer (some ⟨g.1, 0, none⟩)] 116 q u hq) (fun u hu => by simp at hu; subst hu; rfl) (by omega) (by unfold maxLen; omega) (by omega) (by simp; omega) (w2.heap.size + 1) (by simp) ?_; intro q6 cap w3 hown hgrow hat6 hlt6; refine Hid.out ?_))
    have HS2 := tZ (HST.out (w2.alloc (.cells #[.pointer (some ⟨g.1, 0, none⟩)] 116)) w3 (.slice (some ⟨q6, 0, none⟩) (st.length + 1) cap) (HB2.out.alloc hs2 _) hgrow hown (hat6.imp (fun h => h.symm) fun h => ⟨q6, rfl, by omega⟩))
    clear hown hgrow hat6 HST HB2 HO6
    refine tZ ?_
    go_wp2
    go_roundg (gs.length - (k + 1))
    case measure => omega
    case rel => exact ⟨k + 1, _, _, _, by omega, by omega, by go_num, HS2⟩
   | some ch =>
    have HL2 := tZ (HLK.out.mono (R' := fun e w' => ∃ b, e = .returned (.pointer (some ⟨b, 0, none⟩)) ∧ Hid (LinkAt w' (fun q => Off3 (.slice a6 st.length c6) (.slice a7 mv.length c7) (.slice a8 ls.length c8) q ∨ wr.heap.size ≤ q) b ch) ∧ Below wr.heap.size wr w') (by
     rintro e w' ⟨hb, h⟩
     rw [linkedP_eq, hq] at h
     obtain ⟨b, h1, h2, h3⟩ := h
     exact ⟨b, h1, h3, hb⟩))
    have hchl := linkQ_len hq HIN.out.len
    have hch100 : ch.length ≤ 500 := by omega
    have HBE := tZ HIN.out.bel
    obtain ⟨_, _, _, _, fa, fl, fc, hfr, hfP⟩ := HFF.out
    have hfl := (Array.getElem?_eq_some_iff.1 hfr).1
    have HFR := tZ hfr
    have HM := tZ (fun W (hW : Below w.heap.size w W) => ruleMentions g.2.nm f.2.p fa fl fc W (hfP.next fun q hq => hW.block q (HS.out.still q hq)) (fun q hq => Nat.lt_of_lt_of_le (HS.out.still q hq) hW.size))
    obtain ⟨_, _, _, _, ga1, gl1, gc1, hgr, _⟩ := hgf
    have hgrl := (Array.getElem?_eq_some_iff.1 hgr).1
    have HGR := tZ hgr
    clear HLK hfr hfP hgr
    cases hm : mentP g.2.nm f.2.p with
    | true =>
     have HCI := tZ (show behP f gs [] [] [] = .circ ch from by
      rw [HIN.out.eq, List.drop_eq_getElem_cons hlt, HGQ.out]
      simp only [behP, hq, hm]
      simp)
     rw [hm] at HM
     clear hq hm HIN
     go_wp2_with (first | (go_at_call 152; refine HL2.out.mono ?_; rintro e w2 ⟨b, rfl, hlk, hb2⟩; refine Hid.out ?_))
     have HB2 := tZ (HBE.out.trans (hb2.mono hsz))
     obtain ⟨⟨k0, k1, k2, k3, k4, k5, k6⟩, _, _⟩ := row7 ((HB2.out.block f.1 hfl).trans HFR.out)
     obtain ⟨⟨j0, _⟩, _, _⟩ := row7 ((HB2.out.block g.1 hgrl).trans HGR.out)
     have hs2 := HB2.out.size
     have HC := tZ (HM.out w2.drew HB2.out.drew)
     clear hb2 HL2
     refine tZ ?_
     go_wp2_with fail
     go_region_with (first | (go_at_call 98; refine HC.out.mono ?_; rintro e w3 ⟨rfl, hb3⟩; have B3 := tZ hb3; clear hb3))
     all_goals have HFL := tZ (fields226 b ch w3 (hlk.out.next ((Below.refl _ _).drew.trans B3.out)) hch100)
     all_goals go_wp2_with (first | (go_at_call 153; refine HFL.out.mono ?_; rintro e w4 ⟨v, rfl, hown, hb4⟩; refine Hid.out ?_))
     all_goals obtain ⟨av, cv, rfl⟩ := own_len hown
     all_goals have HFIN := tZ (show BhPost fs at_ last (behP f gs [] [] []) w (.returned (.tuple #[.slice none 0 0, .slice av ch.length cv])) w4 from by
      rw [HCI.out]
      have hb5 : Below w.heap.size w w3 := HB2.out.drew.trans (B3.out.mono hs2)
      exact ⟨hb5.trans (hb4.mono hb5.size), _, rfl, own_base hown hb5.size⟩)
     all_goals clear hown hb4 HFL
     all_goals refine tZ ?_
     all_goals go_wp2
     all_goals refine bodyPost_ret (v := .tuple #[.slice none 0 0, .slice av ch.length cv]) (by simp [results, Tryz.results123, go_sem]) (by simp [go_sem]) ?_
     all_goals exact HFIN.out
    | false =>
     have HO7 := tZ (fun w2 (hb : Below wr.heap.size wr w2) => own_below HIN.out.o7 hb)
     have HO8 := tZ (fun w2 w4 (hb : Below wr.heap.size wr w2) (hg : w2.grownBy w4 (Value.slice a7 mv.length c7).ownBlock) => own_blk (w' := w4) HIN.out.o8 fun q hq => (hg.block q (Nat.lt_of_lt_of_le (HIN.out.o8.lt q hq).2 hb.size) (fun e => HIN.out.d78 q e.symm hq)).trans (hb.block q (HIN.out.o8.lt q hq).2))
     have HMV := tZ (fun w1 w2 w3 w4 v7 v8 b h1 h2 h3 h4 h5 h6 h7 h8 h9 => HIN.out.move (w1 := w1) (w2 := w2) (w3 := w3) (w4 := w4) (v7 := v7) (v8 := v8) (b := b) hlt HGQ.out hq hm HGS.out HFF.out h1 h2 h3 h4 h5 h6 h7 h8 h9)
     rw [hm] at HM
     clear hq hm HIN
     go_wp2_with (first | (go_at_call 152; refine HL2.out.mono ?_; rintro e w2 ⟨b, rfl, hlk, hb2⟩; refine Hid.out ?_))
     have HB2 := tZ (HBE.out.trans (hb2.mono hsz))
     have HB2' := tZ hb2
     obtain ⟨⟨k0, k1, k2, k3, k4, k5, k6⟩, _, _⟩ := row7 ((HB2.out.block f.1 hfl).trans HFR.out)
     obtain ⟨⟨j0, _⟩, _, _⟩ := row7 ((HB2.out.block g.1 hgrl).trans HGR.out)
     have hs2 := HB2.out.size
     have hs2' := hb2.size
     have HC := tZ (HM.out w2.drew HB2.out.drew)
     clear hb2 HL2
     refine tZ ?_
     go_wp2_with fail
     go_region_with (first | (go_at_call 98; refine HC.out.mono ?_; rintro e w3 ⟨rfl, hb3⟩; have B3 := tZ hb3; clear hb3))
     all_goals have HB3 := tZ (show Below wr.heap.size wr w3 from HB2'.out.drew.trans (B3.out.mono hs2'))
     all_goals have hs3 := HB3.out.size
     all_goals replace HO7 := tZ (HO7.out w3 HB3.out)
     all_goals have hlk3 := tZ (hlk.out.next ((Below.refl _ _).drew.trans B3.out))
     all_goals clear hlk
     all_goals go_wp2_with (first | (at_builtin; refine wpList_append_lies _ rfl (.tmp 38) (.tmp 40) 58 rfl w.heap.size 116 i1 (.pointer none) 1 8 Tryz.underlying58 gi gz0 gz1 gz2 rfl (by decide) (.slice a7 mv.length c7) mv.length (ptrs mv) rfl (HO7.out.alloc _) ⟨w3.heap.size, 0, none⟩ 1 1 [.pointer (some ⟨g.1, 0, none⟩)] rfl rfl (fun q u hq => cells_new w3 [.pointer (some ⟨g.1, 0, none⟩)] 116 q u hq) (fun u hu => by simp at hu; subst hu; rfl) (by omega) (by unfold maxLen; omega) (by omega) (by simp; omega) (w3.heap.size + 1) (by simp) ?_; intro q7 cap w4 hown hgrow hat7 hlt7; refine Hid.out ?_))
     all_goals have HB3a := tZ (HB3.out.alloc hs3 (.cells #[.pointer (some ⟨g.1, 0, none⟩)] 116))
     all_goals replace HO8 := tZ (HO8.out _ _ HB3a.out hgrow)
     all_goals have hs4 : w3.heap.size + 1 ≤ w4.heap.size := by have := hgrow.size; simpa using this
     all_goals have HG4 := tZ hgrow
     all_goals have HW4 := tZ hown
     all_goals have HA7 := tZ hat7
     all_goals clear hown hgrow hat7
     all_goals refine tZ ?_
     all_goals go_wp2_with (first | (at_builtin; refine wpList_append_lies _ rfl (.tmp 42) (.tmp 44) 229 rfl w.heap.size 230 i2 (.pointer none) 1 8 Tryz.underlying229 li lz0 lz1 lz2 rfl (by decide) (.slice a8 ls.length c8) ls.length (lptrs ls) rfl (HO8.out.alloc _) ⟨w4.heap.size, 0, none⟩ 1 1 [.pointer (some ⟨b, 0, none⟩)] rfl rfl (fun q u hq => cells_new w4 [.pointer (some ⟨b, 0, none⟩)] 230 q u hq) (fun u hu => by simp at hu; subst hu; rfl) (by omega) (by unfold maxLen; omega) (by omega) (by simp; omega) (w4.heap.size + 1) (by simp) ?_; intro q8 cap8 w5 hown8 hgrow8 hat8 hlt8; refine Hid.out ?_))
     all_goals have HS2 := tZ (HMV.out (w3.alloc (.cells #[.pointer (some ⟨g.1, 0, none⟩)] 116)) w4 (w4.alloc (.cells #[.pointer (some ⟨b, 0, none⟩)] 230)) w5 (.slice (some ⟨q7, 0, none⟩) (mv.length + 1) cap) (.slice (some ⟨q8, 0, none⟩) (ls.length + 1) cap8) b HB3a.out (hlk3.out.next (bZ _)) HG4.out HW4.out (HA7.out.imp (fun h => h.symm) fun h => ⟨q7, rfl, by simp; omega⟩) (bZ _) hgrow8 hown8 (hat8.imp (fun h => h.symm) fun h => ⟨q8, rfl, by omega⟩))
     all_goals clear hown8 hgrow8 hat8
     all_goals refine tZ ?_
     all_goals go_wp2
     all_goals go_roundg (gs.length - (k + 1))
     all_goals try (case measure => omega)
     all_goals exact ⟨k + 1, _, _, _, by omega, by omega, by go_num, HS2⟩
  ·obtain rfl : k = gs.length := by omega
   obtain ⟨a6, c6, rfl⟩ := own_len HIN.out.o6
   obtain ⟨a7, c7, rfl⟩ := own_len HIN.out.o7
   have hkz : ¬ ((gs.length : Nat) : Int) < ((last + 1 - at_ : Nat) : Int) := by omega
   have HOK := tZ (show behP f gs [] [] [] = .ok st mv from by
    rw [HIN.out.eq, List.drop_of_length_le (Nat.le_refl _)]
    rfl)
   have HCN := tZ HIN.out.cnt
   have HBE := tZ HIN.out.bel
   have HP6 := tZ (PtAt.own HIN.out.o6)
   have HP7 := tZ (PtAt.own HIN.out.o7)
   have z5 : (at_ : Int) ≤ (c : Int) := by omega
   have z6 : (last : Int) + 1 ≤ (fs.length : Int) := by omega
   have z7 : (fs.length : Int) ≤ (c : Int) := by omega
   have z8 : last + 1 ≤ c := by omega
   have z9 : last + 1 ≤ fs.length := by omega
   have z10 : (last : Int) < 100 := by omega
   have HCON := tZ (show ∀ (c4 : Nat) (a4 : Addr), PtAt wr (.slice (some a4) (fs.length - (last + 1)) c4) (fs.drop (last + 1)) → Calls Tryz.prog 76 #[.slice (some ⟨wr.heap.size, 0, none⟩) 4 4] (wr.alloc (.cells #[.slice (some ⟨ga, oa, none⟩) at_ c, .slice a6 st.length c6, .slice a7 mv.length c7, .slice (some a4) (fs.length - (last + 1)) c4] 58)).drew fun e w' => ∃ an ln cn, e = .returned (.slice an ln cn) ∧ w'.ownsRow w.heap.size 116 1 (.slice an ln cn) (catP [fs.take at_, st, mv, fs.drop (last + 1)]).length (ptrs (catP [fs.take at_, st, mv, fs.drop (last + 1)])) ∧ Below w.heap.size w w' from fun c4 a4 h4 => by
    have hs1 := HS.out.next HBE.out
    have hbW : Below wr.heap.size wr (wr.alloc (.cells #[.slice (some ⟨ga, oa, none⟩) at_ c, .slice a6 st.length c6, .slice a7 mv.length c7, .slice (some a4) (fs.length - (last + 1)) c4] 58)).drew := (bZ _).drew
    have hrow : (wr.alloc (.cells #[.slice (some ⟨ga, oa, none⟩) at_ c, .slice a6 st.length c6, .slice a7 mv.length c7, .slice (some a4) (fs.length - (last + 1)) c4] 58)).drew.heap[wr.heap.size]? = some (.cells #[.slice (some ⟨ga, oa, none⟩) at_ c, .slice a6 st.length c6, .slice a7 mv.length c7, .slice (some a4) (fs.length - (last + 1)) c4] 58 (0, 0)) := heap_alloc_new wr _
    have hszW : (wr.alloc (.cells #[.slice (some ⟨ga, oa, none⟩) at_ c, .slice a6 st.length c6, .slice a7 mv.length c7, .slice (some a4) (fs.length - (last + 1)) c4] 58)).drew.heap.size = wr.heap.size + 1 := by simp
    generalize (wr.alloc (.cells #[.slice (some ⟨ga, oa, none⟩) at_ c, .slice a6 st.length c6, .slice a7 mv.length c7, .slice (some a4) (fs.length - (last + 1)) c4] 58)).drew = W at *
    have hsW := hs1.next hbW
    obtain ⟨⟨r0, r1, r2, r3⟩, _, _⟩ := row4 hrow
    have p0 : PtAt W (.slice (some ⟨ga, oa, none⟩) at_ c) (fs.take at_) := by
     have := hsW.part 0 at_ c (by omega)
     simpa using this
    have p1 := HP6.out.next hbW
    have p2 := HP7.out.next hbW
    have p3 := h4.next hbW
    refine (concat135 [fs.take at_, st, mv, fs.drop (last + 1)] [.slice (some ⟨ga, oa, none⟩) at_ c, .slice a6 st.length c6, .slice a7 mv.length c7, .slice (some a4) (fs.length - (last + 1)) c4] wr.heap.size 4 W rfl (by omega) (fun i hi => ?_) ?_ (by simp)).mono ?_
    ·rcases (show i = 0 ∨ i = 1 ∨ i = 2 ∨ i = 3 by simp at hi; omega) with rfl | rfl | rfl | rfl
     ·exact ⟨r0, p0⟩
     ·exact ⟨r1, p1⟩
     ·exact ⟨r2, p2⟩
     ·exact ⟨r3, p3⟩
    ·have := HCN.out
     simp [catP]
     omega
    ·rintro r w' ⟨v, rfl, ho, hb'⟩
     obtain ⟨an, ln, cn, rfl⟩ := own_slice ho
     exact ⟨an, ln, cn, rfl, own_base ho (Nat.le_trans HBE.out.size hbW.size), HBE.out.trans ((hbW.trans (hb'.mono hbW.size)).mono HBE.out.size)⟩)
   have hs1 := HS.out.next HBE.out
   clear HIN
   have HFIN := tZ (show ∀ an ln cn w3, w3.ownsRow w.heap.size 116 1 (.slice an ln cn) (catP [fs.take at_, st, mv, fs.drop (last + 1)]).length (ptrs (catP [fs.take at_, st, mv, fs.drop (last + 1)])) → Below w.heap.size w w3 → BhPost fs at_ last (behP f gs [] [] []) w (.returned (.tuple #[.slice an ln cn, .slice none 0 0])) w3 from fun an ln cn w3 h1 h2 => by
    rw [HOK.out]
    exact ⟨h2, _, rfl, h1⟩)
   by_cases y3 : c = last + 1
   ·have HC1 := tZ (HCON.out 0 ⟨ga, oa, none⟩ (by
     have e1 : fs.length - (last + 1) = 0 := by omega
     rw [e1, List.drop_of_length_le (by omega)]
     exact PtAt.empty _ _ _))
    subst y3
    rw [show fs.length - (last + 1) = 0 by omega] at HC1
    clear HCON hs1
    go_wp2_with fail
    go_region_with (first | (go_at_call 76; refine HC1.out.mono ?_; rintro r w3 ⟨an, ln, cn, rfl, ho, hb3⟩; have C1 := tZ ho; have C2 := tZ hb3; clear ho hb3))
    all_goals go_wp2
    all_goals refine bodyPost_ret (v := .tuple #[.slice an ln cn, .slice none 0 0]) (by simp [results, Tryz.results123, go_sem]) (by simp [go_sem]) ?_
    all_goals exact HFIN.out _ _ _ _ C1.out C2.out
   ·have HC1 := tZ (HCON.out (c - (last + 1)) ⟨ga, oa + (last + 1), none⟩ (by
     have := hs1.part (last + 1) (fs.length - (last + 1)) (c - (last + 1)) (by omega)
     rw [List.take_of_length_le (by simp)] at this
     exact this))
    clear HCON hs1
    go_wp2_with fail
    go_region_with (first | (go_at_call 76; refine HC1.out.mono ?_; rintro r w3 ⟨an, ln, cn, rfl, ho, hb3⟩; have C1 := tZ ho; have C2 := tZ hb3; clear ho hb3))
    all_goals go_wp2
    all_goals refine bodyPost_ret (v := .tuple #[.slice an ln cn, .slice none 0 0]) (by simp [results, Tryz.results123, go_sem]) (by simp [go_sem]) ?_
    all_goals exact HFIN.out _ _ _ _ C1.out C2.out
end
end Go.Proofs.YtihgojcfpnhelabGreatDoor
