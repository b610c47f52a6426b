import Derived.Test.YtihgojcfpnhelaaGreatDoorR2Jv
import Derived.Deep.CutBlock
import Derived.Deep.DeepCutAuto
import Derived.Laws.MakeOwn
set_option maxRecDepth 100000
set_option maxHeartbeats 4000000
set_option linter.unusedVariables false
set_option linter.unusedSimpArgs false
namespace Go.Proofs.YtihgojcfpnhelaaGreatDoor
open Go.RowKit
section
attribute [local go_sem] idx_eq app_eq
variable {W0 w w' W w1 w2 : World} {T T' : Nat → Prop} {e k i : Nat} {a a' : Ab} {s : By} {l : Ln} {fs fs' : List Fd} {nm : List By}
theorem oneE (n : Nat) {er at_ kd nn : Int} {tx : By} (h : Sts W0 T [⟨e, 0, a⟩] w) (hE : Env W0) (hL : EnvL W0) (hl : IsLn s l) (hr : lnA a l = (⟨er, at_, tx, nm, kd, nn⟩, a')) (hn : nm.length = n) (hg : a'.grp = none) :
  Calls Tryz.prog 20 #[.pointer (some ⟨e, 0, none⟩), .string ⟨s.toArray⟩] w fun r w' => ∃ bn cn, r = .returned (.agg #[.int .i64 er, .int .i64 at_, .string ⟨tx.toArray⟩, .slice bn n cn, .int .i64 kd, .int .i64 nn]) ∧ w'.ownsRow w.heap.size 9 1 (.slice bn n cn) n (strs nm) ∧ Lv W0 T [⟨e, 0, a'⟩] w w' ∧ Sts W0 (fun q => T q ∨ (Value.slice bn n cn).ownBlock = some q) [⟨e, 0, a'⟩] w' := by
 subst hn
 refine (Sts.doB (E := [⟨e, 0, a⟩]) (i := 0) 0 h hE hL (by simp) (by simp) hl hr (Or.inr hg)).mono ?_
 rintro r w' ⟨bn, cn, rfl, h2, h3, h4⟩
 exact ⟨bn, cn, rfl, h2, ⟨h3, h4.less fun q hq => Or.inl hq⟩, h4⟩
theorem oneD {tx : By} {kd nn : Int} (h : Sts W0 T [⟨e, 0, a⟩] w) (hE : Env W0) (hL : EnvL W0) (hl : IsLn s l) (hr : lnA a l = (⟨0, 0, tx, nm, kd, nn⟩, a')) (hg : a'.grp = none) :
  Calls Tryz.prog 19 #[.pointer (some ⟨e, 0, none⟩), .string ⟨s.toArray⟩] w fun r w' => r = .returned (.bool true) ∧ Lv W0 T [⟨e, 0, a'⟩] w w' :=
 Sts.doesA (E := [⟨e, 0, a⟩]) (i := 0) 0 h hE hL (by simp) (by simp) hl hr (Or.inr hg) rfl rfl
theorem oneT (h : Sts W0 T [⟨e, 0, a⟩] w) (hE : Env W0) (hL : EnvL W0) (hg : a.grp = none) :
  Calls Tryz.prog 30 #[.pointer (some ⟨e, 0, none⟩)] w fun r w' => r = .returned (.string ⟨(lsA a.fs).toArray⟩) ∧ Lv W0 T [⟨e, 0, a⟩] w w' :=
 Sts.toldA (E := [⟨e, 0, a⟩]) (i := 0) h hE hL (by simp) (by simp) hg
theorem oneW {x : By} (h : Sts W0 T [⟨e, 0, a⟩] w) (hE : Env W0) (hL : EnvL W0) (hg : a.grp = none) (hn : NmOk x) (ho : NmO x) :
  Calls Tryz.prog 24 #[.pointer (some ⟨e, 0, none⟩), .string ⟨x.toArray⟩] w fun r w' => r = .returned (.tuple #[.int .i64 (valA a.fs x).2.1, .int .i64 (valA a.fs x).2.2]) ∧ Lv W0 T [⟨e, 0, a⟩] w w' :=
 Sts.worthA (E := [⟨e, 0, a⟩]) (i := 0) h hE hL (by simp) (by simp) hg hn ho
theorem infoI : (Tryz.prog.info? 3).map (fun i => (i.zero, i.size, i.bytes)) = some (some (.int .i64 0), 1, 8) := by kernel_rfl
theorem infoJ : (Tryz.prog.info? 2).map (fun i => (i.zero, i.size, i.bytes)) = some (some (.int .i64 0), 1, 8) := by kernel_rfl
theorem mkRow {t el : TypeId} (ht : Tryz.prog.underlying t = some (.slice el)) (hi0 : (Tryz.prog.info? el).map (fun i => (i.zero, i.size, i.bytes)) = some (some (.int .i64 0), 1, 8)) (n : Nat) (hn : n ≤ 1000) (w : World) : (Instr.makeSlice t (.int .i64 (n : Int)) (.int .i64 (n : Int))).run Tryz.prog w = .ok (.slice (some ⟨w.heap.size, 0, none⟩) n n) (w.alloc (.cells (madeCells (Value.cells (.int .i64 0)) n) el)) := by
 cases hi : Tryz.prog.info? el with
 | none => rw [hi] at hi0; cases hi0
 | some i =>
  rw [hi] at hi0
  simp only [Option.map_some, Option.some.injEq, Prod.mk.injEq] at hi0
  obtain ⟨h1, h2, h3⟩ := hi0
  have hr := run_make (P := Tryz.prog) w t el i (.int .i64 0) ht hi h1 .i64 .i64 (n : Int) (n : Int) (by omega) (by omega) (by rw [h3]; omega) (by omega)
  simp only [Int.toNat_natCast, h2, Nat.mul_one] at hr
  exact hr
def RowI (w : World) (b : Nat) (t : TypeId) (n j : Nat) (vs : Nat → Int) : Prop := ∃ A : Array Value, w.heap[b]? = some (.cells A t (0, 0)) ∧ A.size = n ∧ ∀ i, i < j → A[i]? = some (.int .i64 (vs i))
theorem RowI.at {b n j i : Nat} {t : TypeId} {vs : Nat → Int} (h : RowI w b t n j vs) (hi : i < n) : ∃ u, w.cell? ⟨b, i, none⟩ = some u ∧ w.frozen? ⟨b, i, none⟩ = false ∧ b < w.heap.size ∧ (i < j → u = .int .i64 (vs i)) := by
 obtain ⟨A, h1, h2, h3⟩ := h
 have hlt : b < w.heap.size := (Array.getElem?_eq_some_iff.1 h1).1
 refine ⟨A[i]'(by omega), ?_, ?_, hlt, fun hj => ?_⟩
 ·rw [cell_of_row w b i _ _ _ h1]
  exact Array.getElem?_eq_getElem _
 ·simp [World.frozen?, h1]
 ·have := h3 i hj
  rw [Array.getElem?_eq_getElem (by omega)] at this
  exact Option.some.inj this
theorem RowI.put {b n j : Nat} {t : TypeId} {vs : Nat → Int} (h : RowI w b t n j vs) (hj : j < n) : RowI (w.setCell ⟨b, j, none⟩ (.int .i64 (vs j))) b t n (j + 1) vs := by
 obtain ⟨A, h1, h2, h3⟩ := h
 refine ⟨A.setIfInBounds j (.int .i64 (vs j)), setCell_block h1 j _, by simpa using h2, fun i hi => ?_⟩
 rw [Array.getElem?_setIfInBounds]
 by_cases e : j = i
 ·subst e
  simp [h2, hj]
 ·rw [if_neg e]
  exact h3 i (by omega)
theorem RowI.blk {b n j : Nat} {t : TypeId} {vs : Nat → Int} (h : RowI w b t n j vs) (hb : w'.heap[b]? = w.heap[b]?) : RowI w' b t n j vs := by
 obtain ⟨A, h1, h2, h3⟩ := h
 exact ⟨A, hb.trans h1, h2, h3⟩
theorem Lv.add1 {A : Ab} {o : Obj} (h : Lv W0 T [⟨e, 0, A⟩] w w1) : Sts W0 (fun q => T q ∨ q = w1.heap.size) [⟨e, 0, A⟩] (w1.alloc o) :=
 (h.2.grow (bZ _)).less fun q hq => hq.imp_right fun h => by subst h; exact ⟨Nat.le_refl _, by simp⟩
theorem rowI_new (w : World) (t : TypeId) (n : Nat) (vs : Nat → Int) : RowI (w.alloc (.cells (madeCells #[.int .i64 0] n) t)) w.heap.size t n 0 vs := ⟨_, heap_alloc_new w _, size_madeCells _ _, fun i hi => by omega⟩
structure Rn1 (W0 : World) (T : Nat → Prop) (e : Nat) (A : Ab) (q5 g b1 b2 n j : Nat) (o5 og : Obj) (V1 V2 : Nat → Int) (w : World) : Prop where
 sts : Sts W0 T [⟨e, 0, A⟩] w
 ro : w.heap[q5]? = some o5
 rg : w.heap[g]? = some og
 r1 : RowI w b1 3 n j V1
 r2 : RowI w b2 2 n j V2
theorem Rn1.kt {A A' : Ab} {q5 g b1 b2 n j : Nat} {o5 og : Obj} {V1 V2 : Nat → Int} (h : Rn1 W0 T e A q5 g b1 b2 n j o5 og V1 V2 w) (hl : Lv W0 T [⟨e, 0, A'⟩] w w') (hT : T q5 ∧ T g ∧ T b1 ∧ T b2) : Rn1 W0 T e A' q5 g b1 b2 n j o5 og V1 V2 w' :=
 ⟨hl.2, (hl.1.block q5 hT.1).trans h.ro, (hl.1.block g hT.2.1).trans h.rg, h.r1.blk (hl.1.block b1 hT.2.2.1), h.r2.blk (hl.1.block b2 hT.2.2.2)⟩
theorem Rn1.put {A : Ab} {q5 g b1 b2 n j : Nat} {o5 og : Obj} {V1 V2 : Nat → Int} (h : Rn1 W0 T e A q5 g b1 b2 n j o5 og V1 V2 w) (hT : T b1 ∧ T b2) (hj : j < n) (h0 : W0.heap.size ≤ b1 ∧ W0.heap.size ≤ b2) (hne : q5 ≠ b1 ∧ q5 ≠ b2 ∧ g ≠ b1 ∧ g ≠ b2 ∧ b1 ≠ b2) : Rn1 W0 T e A q5 g b1 b2 n (j + 1) o5 og V1 V2 ((w.setCell ⟨b1, j, none⟩ (.int .i64 (V1 j))).setCell ⟨b2, j, none⟩ (.int .i64 (V2 j))) := by
 obtain ⟨n1, n2, n3, n4, n5⟩ := hne
 refine ⟨(h.sts.set hT.1 h0.1 j _).set hT.2 h0.2 j _, ?_, ?_, ?_, ?_⟩
 ·rw [Below.heap_setCell _ _ _ _ n2, Below.heap_setCell _ _ _ _ n1]; exact h.ro
 ·rw [Below.heap_setCell _ _ _ _ n4, Below.heap_setCell _ _ _ _ n3]; exact h.rg
 ·exact (h.r1.put hj).blk (Below.heap_setCell _ _ _ _ n5)
 ·exact (h.r2.blk (w' := w.setCell ⟨b1, j, none⟩ (.int .i64 (V1 j))) (Below.heap_setCell _ _ _ _ (Ne.symm n5))).put hj
theorem renamedHolds (ao : Option Addr) (len cap : Nat) (S : Nat → By) (which : Int) (hlen : len ≤ maxLen) (hraw : RawS W0 W0.heap.size ao len S) (hw : -9223372036854775808 ≤ which ∧ which ≤ 9223372036854775807) (hE : Env W0) (hL : EnvL W0) :
  Calls Tryz.prog 9 #[.slice ao len cap, .int .i64 which] W0 fun r w' => r = .returned (.bool true) ∧ Below W0.heap.size W0 w' := by
 obtain ⟨f0, f1⟩ := eds_inv (a := ⟨3, [], [], [], none⟩) (X := Few) S rfl fsOk_nil nf_nil (fun _ h => h) (min len 20)
 have hM : (edsA ⟨3, [], [], [], none⟩ S (min len 20)).M = 3 := edsA_M S _
 have hG : (edsA ⟨3, [], [], [], none⟩ S (min len 20)).grp = none := edsA_grp S rfl _
 have HED : Hid (∀ e W, Sts W0 (fun _ => False) [⟨e, 0, ⟨3, [], [], [], none⟩⟩] W → Calls Tryz.prog 32 #[.pointer (some ⟨e, 0, none⟩), .slice ao len cap] W fun r w' => r = .returned (.tuple #[]) ∧ Lv W0 (fun _ => False) [⟨e, 0, edsA ⟨3, [], [], [], none⟩ S (min len 20)⟩] W w') := tZ fun e W h => edits_ok (E := [⟨e, 0, ⟨3, [], [], [], none⟩⟩]) (i := 0) h hE hL (by simp) rfl ao len cap S hlen hraw
 generalize edsA ⟨3, [], [], [], none⟩ S (min len 20) = A1 at *
 obtain ⟨F2, nm2, hs, g0, g1, hf7⟩ := set_f7 f0 f1
 obtain ⟨A2, hA2, hA2f, hA2g⟩ : ∃ A2 : Ab, lnA A1 (.set (fN 7) (dgP 3)) = (⟨0, 0, [], nm2, 0, 0⟩, A2) ∧ A2.fs = F2 ∧ A2.grp = none := ⟨_, lnA_ok hG hs, rfl, rfl⟩
 have HA2 := tZ hA2
 have HPK : Hid (∀ W (n : Nat), 0 < n ∧ n ≤ 1000 → Calls Tryz.prog 25 #[.int .i64 which, .int .i64 (n : Int)] W fun r w' => r = .returned (.int .i64 (pickN which n : Int)) ∧ w' = W) := tZ (fun W n hn => pick_ok which n hw.1 hw.2 hn.1 hn.2 W)
 have HLN7 : Hid (IsLn [115, 101, 116, 32, 102, 55, 32, 61, 32, 51] (.set (fN 7) (dgP 3))) := tZ (by have h := isLn_dg 7 3 (by decide) (by decide); rwa [show setN (fN 7) (dg 3) = [115, 101, 116, 32, 102, 55, 32, 61, 32, 51] by decide] at h)
 have HE := tZ hE
 have HL := tZ hL
 have HG0 := tZ (And.intro g0 g1)
 have HBG := tZ ((Sts.empty W0).beginA 3 (by decide))
 have hn0 : 0 < (F2.map fun f => f.nm).length ∧ (F2.map fun f => f.nm).length ≤ 10 := by
  obtain ⟨f, hf, _⟩ := hf7
  have := List.length_pos_of_mem hf
  have := g0.len
  simp
  omega
 have HORD := tZ (show lnA A2 .order = (⟨0, 0, [], F2.map fun f => f.nm, 0, 0⟩, A2) by show (_, A2) = _; rw [hA2f])
 generalize hnm : (F2.map fun f => f.nm) = nm at *
 have HTD := tZ (congrArg lsA hA2f)
 clear hs f0 f1 hM hG hraw hw hE hL g0 g1 hlen hA2 hf7
 go_enter Tryz.func9, Tryz.ntmps9
 go_wp2_with (first | (go_at_call 18; refine HBG.out.mono ?_; rintro r w1 ⟨e, rfl, h1⟩; have H1 := tZ h1; clear h1; refine Hid.out ?_))
 refine tZ ?_
 go_wp2_with (first | (go_at_call 32; refine (HED.out e _ H1.out.2).mono ?_; rintro r w2 ⟨rfl, h1⟩; have H2 := tZ h1; clear h1; refine Hid.out ?_))
 refine tZ ?_
 go_wp2_with (first | (go_at_call 19; refine (oneD H2.out.2 HE.out HL.out HLN7.out HA2.out hA2g).mono ?_; rintro r w3 ⟨rfl, h1⟩; have H3 := tZ h1; clear h1; refine Hid.out ?_))
 refine tZ ?_
 go_wp2_with (first | (go_at_call 30; refine (oneT H3.out.2 HE.out HL.out hA2g).mono ?_; rintro r w4 ⟨rfl, h1⟩; rw [HTD.out]; have H4 := tZ h1; clear h1; refine Hid.out ?_))
 refine tZ ?_
 go_wp2_with (first | (go_at_call 20; refine (oneE nm.length H4.out.2 HE.out HL.out isLn_order HORD.out rfl hA2g).mono ?_; rintro r w5 ⟨bn, cn, rfl, h1, h2, h3⟩; have H5 := tZ (And.intro h1 (And.intro h2 h3)); clear h1 h2 h3; refine Hid.out ?_))
 refine tZ ?_
 clear H1 H2 H3 H4 HBG HED HA2 HORD
 have HA5 : Hid (Sts W0 (fun q => (False ∨ (Value.slice bn nm.length cn).ownBlock = some q) ∨ q = w5.heap.size) [⟨e, 0, A2⟩] (w5.alloc (.cells #[.int .i64 0, .int .i64 0, .string ⟨#[]⟩, .slice bn nm.length cn, .int .i64 0, .int .i64 0] 39))) := tZ ((H5.out.2.2.grow (bZ _)).less fun q hq => hq.imp_right fun h => by subst h; exact ⟨Nat.le_refl _, by simp⟩)
 have HR5 := tZ (heap_alloc_new w5 (.cells #[.int .i64 0, .int .i64 0, .string ⟨#[]⟩, .slice bn nm.length cn, .int .i64 0, .int .i64 0] 39))
 have HO5 := tZ (own_below H5.out.1 (bZ (.cells #[.int .i64 0, .int .i64 0, .string ⟨#[]⟩, .slice bn nm.length cn, .int .i64 0, .int .i64 0] 39)))
 obtain ⟨g, capg, hbn, _, hgl⟩ := H5.out.1.form hn0.1
 simp at hbn
 obtain ⟨rfl, rfl⟩ := hbn
 have hm := pickN_lt which nm.length hn0.1
 have hcm : w5.cell? ⟨g, pickN which nm.length, none⟩ = some (.string ⟨(nm[pickN which nm.length]'hm).toArray⟩) := by
  have hc := H5.out.1.cellAt (pickN which nm.length) (by simpa using hm)
  simpa [strs, hm] using hc
 have HPN := tZ (fun W => HPK.out W nm.length ⟨hn0.1, Nat.le_trans hn0.2 (by decide)⟩)
 have HXM := tZ (List.getElem_mem hm)
 have hmz : (pickN which nm.length : Int) < (nm.length : Int) := Int.ofNat_lt.2 hm
 have hn1 : (nm.length : Int) ≤ 10 := Int.ofNat_le.2 hn0.2
 have hn2 : (0 : Int) < (nm.length : Int) := Int.ofNat_lt.2 hn0.1
 generalize nm[pickN which nm.length]'hm = x at *
 generalize pickN which nm.length = m at *
 clear hm HPK H5
 go_wp2_with fail
 generalize hw6 : w5.alloc (.cells #[.int .i64 0, .int .i64 0, .string ⟨#[]⟩, .slice (some ⟨g, 0, none⟩) nm.length cn, .int .i64 0, .int .i64 0] 39) = w6 at *
 have hg6 : g < w6.heap.size := by rw [← hw6]; simp; omega
 have hcm6 : w6.cell? ⟨g, m, none⟩ = some (.string ⟨x.toArray⟩) := by rw [← hw6]; exact ((bZ _).cell (p := ⟨g, m, none⟩) hgl).trans hcm
 have hq6 : w5.heap.size < w6.heap.size := by rw [← hw6]; simp
 clear hw6 hcm hgl
 generalize w5.heap.size = q5 at *
 obtain ⟨⟨m0, m1, m2, m3, m4, m5⟩, _, hsz⟩ := row6 HR5.out
 go_cut [10] (fun s10 wc => s10 = .string ⟨x.toArray⟩ ∧ Hid (Below w6.heap.size w6 wc))
 case first =>
  go_region_with (first | (go_at_call 25; refine (HPN.out _).mono ?_; rintro r w7 ⟨rfl, rfl⟩))
  all_goals (go_wp2_with fail; go_meet; exact ⟨rfl, tZ (Below.refl _ _).drew⟩)
 case rest =>
 obtain ⟨rfl, HB6⟩ := hcut
 clear m0 m1 m2 m3 m4 m5 hsz hcm6
 obtain ⟨⟨m0, m1, m2, m3, m4, m5⟩, _, hsz⟩ := row6 ((HB6.out.block q5 hq6).trans HR5.out)
 have hmk1 := fun W => mkRow Tryz.underlying60 infoI nm.length (Nat.le_trans hn0.2 (by decide)) W
 have hmk2 := fun W => mkRow Tryz.underlying61 infoJ nm.length (Nat.le_trans hn0.2 (by decide)) W
 go_wp2_with fail
 obtain ⟨V1, hV1⟩ : ∃ V1 : Nat → Int, V1 = fun j => (valA F2 (nm.getD j [])).2.1 := ⟨_, rfl⟩
 obtain ⟨V2, hV2⟩ : ∃ V2 : Nat → Int, V2 = fun j => (valA F2 (nm.getD j [])).2.2 := ⟨_, rfl⟩
 have HV := tZ (And.intro hV1 hV2)
 clear hV1 hV2 hmk1 hmk2
 obtain ⟨og, hog⟩ : ∃ og, w6.heap[g]? = some og := ⟨w6.heap[g], Array.getElem?_eq_getElem hg6⟩
 have HOG := tZ hog
 have HR1 := tZ (rowI_new wc 3 nm.length V1)
 have HR2 := tZ (rowI_new (wc.alloc (.cells (madeCells #[.int .i64 0] nm.length) 3)) 2 nm.length V2)
 have HB8 := tZ (HB6.out.trans (((((Below.refl wc.heap.size wc).alloc (Nat.le_refl _) (.cells (madeCells #[.int .i64 0] nm.length) 3))).alloc (by simp) (.cells (madeCells #[.int .i64 0] nm.length) 2)).mono HB6.out.size))
 have HC8 := tZ ((((Below.refl wc.heap.size wc).alloc (Nat.le_refl _) (.cells (madeCells #[.int .i64 0] nm.length) 3))).alloc (by simp) (.cells (madeCells #[.int .i64 0] nm.length) 2))
 have HR1b := tZ (HR1.out.blk ((bZ (.cells (madeCells #[.int .i64 0] nm.length) 2)).block wc.heap.size (by simp)))
 have hw8 : (wc.alloc (.cells (madeCells #[.int .i64 0] nm.length) 3)).heap.size = wc.heap.size + 1 := by simp
 have hs8 : ((wc.alloc (.cells (madeCells #[.int .i64 0] nm.length) 3)).alloc (.cells (madeCells #[.int .i64 0] nm.length) 2)).heap.size = wc.heap.size + 2 := by simp
 have HSZ := tZ hs8
 have HW0 := tZ (Nat.le_trans HA5.out.low.size HB6.out.size)
 clear hs8
 have HX : Hid (∃ T8, Sts W0 T8 [⟨e, 0, A2⟩] ((wc.alloc (.cells (madeCells #[.int .i64 0] nm.length) 3)).alloc (.cells (madeCells #[.int .i64 0] nm.length) 2)) ∧ T8 q5 ∧ T8 g ∧ T8 wc.heap.size ∧ T8 (wc.heap.size + 1)) := tZ ⟨_, (HA5.out.next HB6.out).grow HC8.out, Or.inl (Or.inr rfl), Or.inl (Or.inl (Or.inr rfl)), Or.inr ⟨Nat.le_refl _, by rw [HSZ.out]; omega⟩, Or.inr ⟨Nat.le_succ _, by rw [HSZ.out]; omega⟩⟩
 obtain ⟨T8, hS8, hT8⟩ := HX.out
 have HN1 : Hid (Rn1 W0 T8 e A2 q5 g wc.heap.size (wc.heap.size + 1) nm.length 0 (.cells #[.int .i64 0, .int .i64 0, .string ⟨#[]⟩, .slice (some ⟨g, 0, none⟩) nm.length cn, .int .i64 0, .int .i64 0] 39 (0, 0)) og V1 V2 ((wc.alloc (.cells (madeCells #[.int .i64 0] nm.length) 3)).alloc (.cells (madeCells #[.int .i64 0] nm.length) 2))) := tZ ⟨hS8, (HB8.out.block q5 hq6).trans HR5.out, (HB8.out.block g hg6).trans HOG.out, HR1b.out, by have := HR2.out; rw [hw8] at this; exact this⟩
 have HT8 := tZ hT8
 have HNE : Hid (q5 ≠ wc.heap.size ∧ q5 ≠ wc.heap.size + 1 ∧ g ≠ wc.heap.size ∧ g ≠ wc.heap.size + 1 ∧ wc.heap.size ≠ wc.heap.size + 1) := tZ (by have := HB6.out.size; refine ⟨?_, ?_, ?_, ?_, ?_⟩ <;> omega)
 have HNMC : Hid (∀ W : World, W.heap[g]? = some og → ∀ j, j < nm.length → W.cell? ⟨g, j, none⟩ = some (.string ⟨(nm.getD j []).toArray⟩)) := tZ fun W hW j hj => by
  have hc := HO5.out.cellAt j (by simpa using hj)
  rw [World.cell?_of_block (a := ⟨g, j, none⟩) (hW.trans HOG.out.symm), hc]
  simp [strs, hj]
 have HNMO : Hid (∀ j, j < nm.length → NmOk (nm.getD j []) ∧ NmO (nm.getD j [])) := tZ fun j hj => by
  have hm : nm.getD j [] ∈ F2.map (fun f => f.nm) := by rw [hnm, List.getD_eq_getElem?_getD, List.getElem?_eq_getElem hj]; exact List.getElem_mem hj
  obtain ⟨f, hf, hfe⟩ := List.mem_map.1 hm
  obtain ⟨k, hk, hke⟩ := (HG0.out.2 (f.nm, f.p) (List.mem_map.2 ⟨f, hf, rfl⟩)).1
  rw [← hfe]
  have hke' : f.nm = fN k := hke
  rw [hke']
  exact ⟨fN_ok k (by omega), fN_o k⟩
 clear HX hS8 hT8 HR1 HR2 HR1b HB8 HC8 hw8 HSZ m0 m1 m2 m3 m4 m5 hsz HA5 HO5 HR5 hog hq6 hg6
 generalize (wc.alloc (.cells (madeCells #[.int .i64 0] nm.length) 3)).alloc (.cells (madeCells #[.int .i64 0] nm.length) 2) = w8 at *
 generalize wc.heap.size = b1 at *
 go_loopg [13, 14, 15] nm.length (fun gk i _ _ wr => ∃ j : Nat, j ≤ nm.length ∧ nm.length ≤ j + gk ∧ i = .int .i64 (j : Int) ∧ Hid (Rn1 W0 T8 e A2 q5 g b1 (b1 + 1) nm.length j (.cells #[.int .i64 0, .int .i64 0, .string ⟨#[]⟩, .slice (some ⟨g, 0, none⟩) nm.length cn, .int .i64 0, .int .i64 0] 39 (0, 0)) og V1 V2 wr))
 case atStart => exact ⟨0, Nat.zero_le _, Nat.le_of_eq (Nat.zero_add _).symm, rfl, HN1⟩
 case round =>
  obtain ⟨j, hj, hgk, rfl, HI⟩ := hrel
  obtain ⟨⟨m0, m1, m2, m3, m4, m5⟩, _, hsz⟩ := row6 HI.out.ro
  rcases Nat.lt_or_ge j nm.length with hjn | hjn
  ·have HUP := tZ (al_up hjn hgk)
   have hlt := al_lt hjn
   have hcj := HNMC.out _ HI.out.rg j hjn
   have HWA : Hid (∀ W, Rn1 W0 T8 e A2 q5 g b1 (b1 + 1) nm.length j (.cells #[.int .i64 0, .int .i64 0, .string ⟨#[]⟩, .slice (some ⟨g, 0, none⟩) nm.length cn, .int .i64 0, .int .i64 0] 39 (0, 0)) og V1 V2 W → Calls Tryz.prog 24 #[.pointer (some ⟨e, 0, none⟩), .string ⟨(nm.getD j []).toArray⟩] W fun r w' => r = .returned (.tuple #[.int .i64 (V1 j), .int .i64 (V2 j)]) ∧ Rn1 W0 T8 e A2 q5 g b1 (b1 + 1) nm.length j (.cells #[.int .i64 0, .int .i64 0, .string ⟨#[]⟩, .slice (some ⟨g, 0, none⟩) nm.length cn, .int .i64 0, .int .i64 0] 39 (0, 0)) og V1 V2 w') := tZ fun W hW => by
    refine (oneW hW.sts HE.out HL.out hA2g (HNMO.out j hjn).1 (HNMO.out j hjn).2).mono ?_
    rintro r w' ⟨rfl, h1⟩
    rw [hA2f, HV.out.1, HV.out.2]
    have := hW.kt h1 HT8.out
    rw [HV.out.1, HV.out.2] at this
    exact ⟨rfl, this⟩
   generalize nm.getD j [] = xj at *
   go_wp2_with (first | (go_at_call 24; refine (HWA.out _ HI.out).mono ?_; rintro r w9 ⟨rfl, h9⟩; have H9 := tZ h9; clear h9; refine Hid.out ?_))
   refine tZ ?_
   clear m0 m1 m2 m3 m4 m5 hsz hcj
   obtain ⟨u1, hu1, hf1, hb1l, _⟩ := H9.out.r1.at hjn
   obtain ⟨u2, hu2, hf2, hb2l, _⟩ := H9.out.r2.at hjn
   have hb12 : b1 ≠ b1 + 1 := HNE.out.2.2.2.2
   have hb21 : b1 + 1 ≠ b1 := Ne.symm hb12
   have HP := tZ (H9.out.put ⟨HT8.out.2.2.1, HT8.out.2.2.2⟩ hjn ⟨HW0.out, Nat.le_succ_of_le HW0.out⟩ HNE.out)
   go_wp2_with fail
   go_roundg (nm.length - (j + 1))
   case measure => exact HUP.out.2.1
   case rel => exact ⟨j + 1, HUP.out.2.2, HUP.out.1, by simp, HP⟩
  ·have hge := al_ge hjn
   obtain rfl : j = nm.length := Nat.le_antisymm hj hjn
   have hxF : ∃ f, f ∈ F2 ∧ f.nm = x := by
    have := HXM.out
    rw [← hnm] at this
    exact List.mem_map.1 this
   have htx : ∀ f, f ∈ F2 → (txt f.p).length ≤ 100 := by
    have := HI.out.sts.txt (i := 0) (by simp)
    intro f hf
    exact this f (by show f ∈ A2.fs; rw [hA2f]; exact hf)
   have hxo : NmOk x ∧ NmO x := by
    obtain ⟨f, hf, rfl⟩ := hxF
    obtain ⟨k, hk, hke⟩ := (HG0.out.2 (f.nm, f.p) (List.mem_map.2 ⟨f, hf, rfl⟩)).1
    have hke' : f.nm = fN k := hke
    rw [hke']
    exact ⟨fN_ok k (by omega), fN_o k⟩
   have hxl : x.length ≤ 6 := hxo.2.2
   obtain ⟨F3, nm3, F4, nm4, he3, c1, c2, c3, hv, hv5, he4, hls⟩ := ren_twice HG0.out.1 HG0.out.2 htx hxF
   obtain ⟨A3, hA3, hA3f, hA3g⟩ : ∃ A3 : Ab, lnA A2 (.ren x zz) = (⟨0, 0, [], nm3, 0, 0⟩, A3) ∧ A3.fs = F3 ∧ A3.grp = none := ⟨(editA A2 (.ok F3 nm3)), (by show edR A2 (renA A2.fs x zz) = _; rw [hA2f, he3]; rfl), (by simp [editA, doneA, hA2g]), edit_grp _ hA2g⟩
   obtain ⟨A4, hA4, hA4f, hA4g⟩ : ∃ A4 : Ab, lnA A3 (.ren zz x) = (⟨0, 0, [], nm4, 0, 0⟩, A4) ∧ A4.fs = F4 ∧ A4.grp = none := ⟨(editA A3 (.ok F4 nm4)), (by show edR A3 (renA A3.fs zz x) = _; rw [hA3f, he4]; rfl), (by simp [editA, doneA, hA3g]), edit_grp _ hA3g⟩
   have HA3 := tZ (And.intro hA3 (And.intro hA3f hA3g))
   have HA4 := tZ (And.intro hA4 (And.intro hA4f hA4g))
   have HGN := tZ (show lnA A3 (.value x) = (⟨5, 0, [], [], 0, 0⟩, A3) by show ((⟨(valA A3.fs x).1, 0, [], [], (valA A3.fs x).2.1, (valA A3.fs x).2.2⟩ : Rp), A3) = _; rw [hA3f, hv5])
   have HLR := tZ (show IsLn (114 :: 101 :: 110 :: 97 :: 109 :: 101 :: 32 :: (x ++ [32, 122, 122])) (.ren x zz) by have := isLn_ren x zz hxo.1 nm_zz hxo.2 nmo_zz; simpa [zz] using this)
   have HLB := tZ (show IsLn (114 :: 101 :: 110 :: 97 :: 109 :: 101 :: 32 :: 122 :: 122 :: 32 :: x) (.ren zz x) by have := isLn_ren zz x nm_zz hxo.1 nmo_zz hxo.2; simpa [zz] using this)
   have HLV := tZ (isLn_value x hxo.1 hxo.2)
   have HLS := tZ hls
   have HCN := tZ (And.intro c1 (And.intro c2 c3))
   have HVV : Hid (∀ j, j < nm.length → (valA F3 (if nm.getD j [] = x then zz else nm.getD j [])).2 = (V1 j, V2 j) ∧ (V1 j == 0) = false) := tZ fun j hj => by
    have hm : nm.getD j [] ∈ F2.map (fun f => f.nm) := by rw [hnm, List.getD_eq_getElem?_getD, List.getElem?_eq_getElem hj]; exact List.getElem_mem hj
    obtain ⟨f, hf, hfe⟩ := List.mem_map.1 hm
    have := hv f hf
    rw [hfe] at this
    rw [HV.out.1, HV.out.2]
    exact ⟨this.1, by simpa using this.2⟩
   clear hA3 hA4 he3 he4 c1 c2 c3 hv hv5 hls hxo htx hxF hA3f hA3g hA4f hA4g
   go_wp2_with (first | (go_at_call 20; refine (oneE nm3.length HI.out.sts HE.out HL.out HLR.out HA3.out.1 rfl HA3.out.2.2).mono ?_; rintro r w9 ⟨bn9, cn9, rfl, h1, h2, h3⟩; have H9 := tZ (And.intro h1 (And.intro h2 h3)); clear h1 h2 h3; refine Hid.out ?_))
   refine tZ ?_
   have H10 : Hid (Sts W0 (fun q => (T8 q ∨ (Value.slice bn9 nm3.length cn9).ownBlock = some q) ∨ q = w9.heap.size) [⟨e, 0, A3⟩] (w9.alloc (.cells #[.int .i64 0, .int .i64 0, .string ⟨#[]⟩, .slice bn9 nm3.length cn9, .int .i64 0, .int .i64 0] 39))) := tZ ((H9.out.2.2.grow (bZ _)).less fun q hq => hq.imp_right fun h => by subst h; exact ⟨Nat.le_refl _, by simp⟩)
   have HR10 := tZ (heap_alloc_new w9 (.cells #[.int .i64 0, .int .i64 0, .string ⟨#[]⟩, .slice bn9 nm3.length cn9, .int .i64 0, .int .i64 0] 39))
   have HO10 := tZ (own_below H9.out.1 (bZ (.cells #[.int .i64 0, .int .i64 0, .string ⟨#[]⟩, .slice bn9 nm3.length cn9, .int .i64 0, .int .i64 0] 39)))
   have HN10 := tZ (HI.out.kt (H9.out.2.1.next (bZ (.cells #[.int .i64 0, .int .i64 0, .string ⟨#[]⟩, .slice bn9 nm3.length cn9, .int .i64 0, .int .i64 0] 39))) HT8.out)
   clear m0 m1 m2 m3 m4 m5 hsz H9 HI
   go_wp2_with fail
   generalize w9.alloc (.cells #[.int .i64 0, .int .i64 0, .string ⟨#[]⟩, .slice bn9 nm3.length cn9, .int .i64 0, .int .i64 0] 39) = w10 at *
   generalize w9.heap.size = q9 at *
   have HK10 := tZ (Kt.refl (fun q => (T8 q ∨ (Value.slice bn9 nm3.length cn9).ownBlock = some q) ∨ q = q9) w10)
   go_loopg [17, 18, 19, 20] nm.length (fun gk i _ _ _ wr => ∃ j : Nat, j ≤ nm.length ∧ nm.length ≤ j + gk ∧ i = .int .i64 (j : Int) ∧ Hid (Lv W0 (fun q => (T8 q ∨ (Value.slice bn9 nm3.length cn9).ownBlock = some q) ∨ q = q9) [⟨e, 0, A3⟩] w10 wr))
   case atStart => exact ⟨0, Nat.zero_le _, Nat.le_of_eq (Nat.zero_add _).symm, rfl, tZ ⟨HK10.out, H10.out⟩⟩
   case round =>
    obtain ⟨j, hj, hgk, rfl, HI⟩ := hrel
    have HN := tZ (HN10.out.kt (T := T8) ⟨HI.out.1.less fun q hq => Or.inl (Or.inl hq), HI.out.2.less fun q hq => Or.inl (Or.inl hq)⟩ HT8.out)
    obtain ⟨⟨m0, m1, m2, m3, m4, m5⟩, _, hsz⟩ := row6 HN.out.ro
    rcases Nat.lt_or_ge j nm.length with hjn | hjn
    ·have HUP := tZ (al_up hjn hgk)
     have hlt := al_lt hjn
     have hcj := HNMC.out _ HN.out.rg j hjn
     obtain ⟨hvj, hkz⟩ := HVV.out j hjn
     have hok1 := HNMO.out j hjn
     have hkk : (V1 j == V1 j) = true := by simp
     have hnn : (V2 j == V2 j) = true := by simp
     have HWA : Hid (∀ x', x' = (if nm.getD j [] = x then zz else nm.getD j []) → ∀ W, Lv W0 (fun q => (T8 q ∨ (Value.slice bn9 nm3.length cn9).ownBlock = some q) ∨ q = q9) [⟨e, 0, A3⟩] w10 W → Calls Tryz.prog 24 #[.pointer (some ⟨e, 0, none⟩), .string ⟨x'.toArray⟩] W fun r w' => r = .returned (.tuple #[.int .i64 (V1 j), .int .i64 (V2 j)]) ∧ Lv W0 (fun q => (T8 q ∨ (Value.slice bn9 nm3.length cn9).ownBlock = some q) ∨ q = q9) [⟨e, 0, A3⟩] w10 w') := tZ fun x' hx' W hW => by
      have hn : NmOk x' ∧ NmO x' := by
       rw [hx']
       split
       ·exact ⟨nm_zz, nmo_zz⟩
       ·exact hok1
      refine (oneW hW.2 HE.out HL.out HA3.out.2.2 hn.1 hn.2).mono ?_
      rintro r w' ⟨rfl, h1⟩
      rw [HA3.out.2.1, hx', hvj]
      exact ⟨rfl, hW.1.trans h1.1, h1.2⟩
     clear hok1 hvj
     obtain ⟨xj, hxj⟩ : ∃ xj, nm.getD j [] = xj := ⟨_, rfl⟩
     rw [hxj] at hcj HWA
     clear hxj
     by_cases hq : xj = x
     ·have HW2 := tZ (HWA.out zz (by rw [if_pos hq]))
      have hqb : (xj == x) = true := by simp [hq]
      clear HWA hq
      go_wp2_with (first | (go_at_call 24; refine (HW2.out _ HI.out).mono ?_; rintro r w11 ⟨rfl, h9⟩; have H11 := tZ h9; clear h9; refine Hid.out ?_))
      refine tZ ?_
      clear m0 m1 m2 m3 m4 m5 hsz hcj
      have HN2 := tZ (HN10.out.kt (T := T8) ⟨H11.out.1.less fun q hq => Or.inl (Or.inl hq), H11.out.2.less fun q hq => Or.inl (Or.inl hq)⟩ HT8.out)
      obtain ⟨u1, hu1, hf1, hb1l, hu1v⟩ := HN2.out.r1.at hjn
      obtain ⟨u2, hu2, hf2, hb2l, hu2v⟩ := HN2.out.r2.at hjn
      obtain rfl := hu1v hjn
      obtain rfl := hu2v hjn
      clear hu1v hu2v
      go_wp2_with fail
      go_roundg (nm.length - (j + 1))
      case measure => exact HUP.out.2.1
      case rel => exact ⟨j + 1, HUP.out.2.2, HUP.out.1, by simp, H11⟩
     ·have HW2 := tZ (HWA.out xj (by rw [if_neg hq]))
      have hqb : (xj == x) = false := by simp [hq]
      clear HWA hq
      go_wp2_with (first | (go_at_call 24; refine (HW2.out _ HI.out).mono ?_; rintro r w11 ⟨rfl, h9⟩; have H11 := tZ h9; clear h9; refine Hid.out ?_))
      refine tZ ?_
      clear m0 m1 m2 m3 m4 m5 hsz hcj
      have HN2 := tZ (HN10.out.kt (T := T8) ⟨H11.out.1.less fun q hq => Or.inl (Or.inl hq), H11.out.2.less fun q hq => Or.inl (Or.inl hq)⟩ HT8.out)
      obtain ⟨u1, hu1, hf1, hb1l, hu1v⟩ := HN2.out.r1.at hjn
      obtain ⟨u2, hu2, hf2, hb2l, hu2v⟩ := HN2.out.r2.at hjn
      obtain rfl := hu1v hjn
      obtain rfl := hu2v hjn
      clear hu1v hu2v
      go_wp2_with fail
      go_roundg (nm.length - (j + 1))
      case measure => exact HUP.out.2.1
      case rel => exact ⟨j + 1, HUP.out.2.2, HUP.out.1, by simp, H11⟩
    ·have hge := al_ge hjn
     clear m0 m1 m2 m3 m4 m5 hsz
     obtain ⟨⟨m0, m1, m2, m3, m4, m5⟩, _, hsz⟩ := row6 HN.out.ro
     go_wp2_with (first | (go_at_call 20; refine (oneE 0 HI.out.2 HE.out HL.out HLV.out HGN.out rfl HA3.out.2.2).mono ?_; rintro r w12 ⟨bn12, cn12, rfl, h1, h2, h3⟩; have H12 := tZ h2; clear h1 h2 h3; refine Hid.out ?_))
     refine tZ ?_
     clear m0 m1 m2 m3 m4 m5 hsz
     have HS12 := tZ (H12.out.add1 (o := .cells #[.int .i64 5, .int .i64 0, .string ⟨#[]⟩, .slice bn12 0 cn12, .int .i64 0, .int .i64 0] 39))
     have HR12 := tZ (heap_alloc_new w12 (.cells #[.int .i64 5, .int .i64 0, .string ⟨#[]⟩, .slice bn12 0 cn12, .int .i64 0, .int .i64 0] 39))
     have HK12 := tZ ((HI.out.1.trans H12.out.1).below H12.out.2.tlt (bZ (.cells #[.int .i64 5, .int .i64 0, .string ⟨#[]⟩, .slice bn12 0 cn12, .int .i64 0, .int .i64 0] 39)))
     go_wp2_with (first | (go_at_call 19; refine (oneD HS12.out HE.out HL.out HLB.out HA4.out.1 HA4.out.2.2).mono ?_; rintro r w13 ⟨rfl, h1⟩; have H13 := tZ h1; clear h1; refine Hid.out ?_))
     refine tZ ?_
     have HK13 := tZ (HK12.out.trans (H13.out.1.less fun q hq => Or.inl hq))
     obtain ⟨⟨m0, m1, m2, m3, m4, m5⟩, _, hsz⟩ := row6 ((HK13.out.block q9 (Or.inr rfl)).trans HR10.out)
     obtain ⟨⟨n0, n1, n2, n3, n4, n5⟩, _, hsz2⟩ := row6 ((H13.out.1.block w12.heap.size (Or.inr rfl)).trans HR12.out)
     have HOW := tZ (own_kt HO10.out HK13.out fun q hq => Or.inl (Or.inr hq))
     have HHZ : Hid (Calls Tryz.prog 31 #[.slice bn9 nm3.length cn9, .string ⟨#[122, 122]⟩] w13 fun r w' => r = .returned (.int .i64 1) ∧ w' = w13) := tZ (by
      have := has_ok nm3 zz bn9 cn9 _ w13 HOW.out (Nat.le_trans HCN.out.2.2 (by decide))
      rw [HCN.out.1] at this
      exact this)
     have HHX : Hid (Calls Tryz.prog 31 #[.slice bn9 nm3.length cn9, .string ⟨x.toArray⟩] w13 fun r w' => r = .returned (.int .i64 0) ∧ w' = w13) := tZ (by
      have := has_ok nm3 x bn9 cn9 _ w13 HOW.out (Nat.le_trans HCN.out.2.2 (by decide))
      rw [HCN.out.2.1] at this
      exact this)
     have hll : (lsA F2 == lsA F2) = true := by simp
     go_wp2_with (first | (go_at_call 31; with_reducible refine HHZ.out.mono ?_; rintro r w14 ⟨rfl, rfl⟩; refine Hid.out ?_))
     refine tZ ?_
     go_wp2_with (first | (go_at_call 31; refine HHX.out.mono ?_; rintro r w14 ⟨rfl, rfl⟩; refine Hid.out ?_))
     refine tZ ?_
     go_wp2_with (first | (go_at_call 30; refine (oneT H13.out.2 HE.out HL.out HA4.out.2.2).mono ?_; rintro r w15 ⟨rfl, h1⟩; rw [HA4.out.2.1, HLS.out]; have H15 := tZ h1.2.low; clear h1; refine Hid.out ?_))
     refine tZ ?_
     go_wp2
     exact bodyPost_ret (v := .bool true) (by simp [results, Tryz.results9, go_sem]) (by simp [go_sem]) ⟨rfl, H15.out⟩
end
end Go.Proofs.YtihgojcfpnhelaaGreatDoor
