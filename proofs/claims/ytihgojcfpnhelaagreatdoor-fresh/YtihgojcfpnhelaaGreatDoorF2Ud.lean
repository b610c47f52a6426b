import Derived.Test.YtihgojcfpnhelaaGreatDoorF2Uc
set_option maxRecDepth 100000
set_option maxHeartbeats 4000000
set_option linter.unusedVariables false
set_option linter.unusedSimpArgs false
namespace Go.Proofs.YtihgojcfpnhelaaGreatDoor
open Go.RowKit
section
attribute [local go_sem] idx_eq app_eq
variable {W0 w w' W w1 w2 : World} {T T' : Nat -> Prop} {e g k kb i n : Nat} {a b a' : Ab} {s t x : By} {l : Ln} {fs fs' F : List Fd} {nm : List By}
theorem qM (h : Sts W0 T [⟨e, 0, a⟩, ⟨g, 0, b⟩] w) (hE : Env W0) (hL : EnvL W0) (hl : IsLn s l) (hr : lnA a l = (⟨0, 0, t, [], 0, 0⟩, a)) (hg : a.grp = none) :
  Calls Tryz.prog 20 #[.pointer (some ⟨e, 0, none⟩), .string ⟨s.toArray⟩] w fun r w' => ∃ bn cn, r = .returned (.agg #[.int .i64 0, .int .i64 0, .string ⟨t.toArray⟩, .slice bn 0 cn, .int .i64 0, .int .i64 0]) /\ Lv W0 T [⟨e, 0, a⟩, ⟨g, 0, b⟩] w w' :=
 (two0 0 h hE hL (by decide) hl hr (Or.inr hg)).mono fun r w' ⟨bn, cn, h1, h2, h3⟩ => ⟨bn, cn, h1, h2, h3⟩
theorem qN (h : Sts W0 T [⟨e, 0, a⟩, ⟨g, 0, b⟩] w) (hE : Env W0) (hL : EnvL W0) (hl : IsLn s l) (hr : lnA b l = (⟨0, 0, [], [x], 0, 0⟩, a')) (hg : a'.grp = none) :
  Calls Tryz.prog 20 #[.pointer (some ⟨g, 0, none⟩), .string ⟨s.toArray⟩] w fun r w' => ∃ bn cn, r = .returned (.agg #[.int .i64 0, .int .i64 0, .string ⟨#[]⟩, .slice bn 1 cn, .int .i64 0, .int .i64 0]) /\ Lv W0 T [⟨e, 0, a⟩, ⟨g, 0, a'⟩] w w' :=
 (two1 0 h hE hL (by decide) hl hr (Or.inr hg)).mono fun r w' ⟨bn, cn, h1, h2, h3⟩ => ⟨bn, cn, h1, h2, h3⟩
theorem qL (n : Nat) (h : Sts W0 T [⟨e, 0, a⟩, ⟨g, 0, b⟩] w) (hE : Env W0) (hL : EnvL W0) (hl : IsLn s l) (hr : lnA a l = (⟨0, 0, [], nm, 0, 0⟩, a)) (hn : nm.length = n) (hg : a.grp = none) :
  Calls Tryz.prog 20 #[.pointer (some ⟨e, 0, none⟩), .string ⟨s.toArray⟩] w fun r w' => ∃ bn cn, r = .returned (.agg #[.int .i64 0, .int .i64 0, .string ⟨#[]⟩, .slice bn n cn, .int .i64 0, .int .i64 0]) /\ w'.ownsRow w.heap.size 9 1 (.slice bn n cn) n (strs nm) /\ Sts W0 (fun q => T q \/ (Value.slice bn n cn).ownBlock = some q) [⟨e, 0, a⟩, ⟨g, 0, b⟩] w' := by
 subst hn
 refine (Sts.doB (E := [⟨e, 0, a⟩, ⟨g, 0, b⟩]) (i := 0) 0 h hE hL (by simp) (by simp) hl hr (Or.inr hg)).mono ?_
 rintro r w' ⟨bn, cn, rfl, h2, h3, h4⟩
 exact ⟨bn, cn, rfl, h2, h4⟩
theorem qK {z : Int} (h : Sts W0 T [⟨e, 0, a⟩, ⟨g, 0, b⟩] w) (hE : Env W0) (hL : EnvL W0) (hg : b.grp = none) (hn : NmOk x) (ho : NmO x) (hv : (zW b.fs x).2 = (1, z)) :
  Calls Tryz.prog 26 #[.pointer (some ⟨g, 0, none⟩), .string ⟨x.toArray⟩, .int .i64 z] w fun r w' => r = .returned (.bool true) /\ Lv W0 T [⟨e, 0, a⟩, ⟨g, 0, b⟩] w w' :=
 Sts.isA (E := [⟨e, 0, a⟩, ⟨g, 0, b⟩]) (i := 1) h hE hL (by simp) (by simp) hg hn ho hv
structure FrI (W0 : World) (T : Nat -> Prop) (e g : Nat) (A : Ab) (F : List Fd) (q gn : Nat) (o og : Obj) (j : Nat) (w : World) : Prop where
 sts : Sts W0 T [⟨e, 0, A⟩, ⟨g, 0, ⟨0, F.take j, [], [], none⟩⟩] w
 ro : w.heap[q]? = some o
 rg : w.heap[gn]? = some og
theorem FrI.kt {A : Ab} {q gn j j' : Nat} {o og : Obj} (h : FrI W0 T e g A F q gn o og j w) (hk : Kt T w w') (hs : Sts W0 T [⟨e, 0, A⟩, ⟨g, 0, ⟨0, F.take j', [], [], none⟩⟩] w') (hT : T q /\ T gn) : FrI W0 T e g A F q gn o og j' w' :=
 ⟨hs, (hk.block q hT.1).trans h.ro, (hk.block gn hT.2).trans h.rg⟩
theorem yT {w : World} {q j : Nat} (h : q < w.heap.size) (o : Obj) : (w.alloc o).cell? ⟨q, j, none⟩ = w.cell? ⟨q, j, none⟩ := ((Below.refl _ _).alloc (Nat.le_refl _) o).cell (p := ⟨q, j, none⟩) h
theorem yK (w' : World) (g q : Nat) (hq : q ≠ g) (j : Nat) (v0 v1 v2 v3 v4 v5 : Value) : ((((((w'.setCell ⟨g, 0, none⟩ v0).setCell ⟨g, 1, none⟩ v1).setCell ⟨g, 2, none⟩ v2).setCell ⟨g, 3, none⟩ v3).setCell ⟨g, 4, none⟩ v4).setCell ⟨g, 5, none⟩ v5).cell? ⟨q, j, none⟩ = w'.cell? ⟨q, j, none⟩ :=
 World.cell?_of_block (heap6 w' g q hq v0 v1 v2 v3 v4 v5)
theorem qJ {E : List En} {q : Nat} (h : Sts W0 T E w) (hq : T q) (h0 : W0.heap.size <= q) (v0 v1 v2 v3 v4 v5 : Value) : Sts W0 T E ((((((w.setCell ⟨q, 0, none⟩ v0).setCell ⟨q, 1, none⟩ v1).setCell ⟨q, 2, none⟩ v2).setCell ⟨q, 3, none⟩ v3).setCell ⟨q, 4, none⟩ v4).setCell ⟨q, 5, none⟩ v5) :=
 (((((h.set hq h0 0 v0).set hq h0 1 v1).set hq h0 2 v2).set hq h0 3 v3).set hq h0 4 v4).set hq h0 5 v5
theorem yC {q : Nat} {u0 u1 u2 u3 u4 u5 : Value} {ty : TypeId} (h : w.heap[q]? = some (.cells #[u0, u1, u2, u3, u4, u5] ty (0, 0))) (v0 v1 v2 v3 v4 v5 : Value) : ((((((w.setCell ⟨q, 0, none⟩ v0).setCell ⟨q, 1, none⟩ v1).setCell ⟨q, 2, none⟩ v2).setCell ⟨q, 3, none⟩ v3).setCell ⟨q, 4, none⟩ v4).setCell ⟨q, 5, none⟩ v5).heap[q]? = some (.cells #[v0, v1, v2, v3, v4, v5] ty (0, 0)) := by
 rw [setCell_block (setCell_block (setCell_block (setCell_block (setCell_block (setCell_block h 0 v0) 1 v1) 2 v2) 3 v3) 4 v4) 5 v5]
 rfl
theorem qQ {q : Nat} (h : Kt T w1 w) (hq : ∀ p, T p -> p ≠ q) (v0 v1 v2 v3 v4 v5 : Value) : Kt T w1 ((((((w.setCell ⟨q, 0, none⟩ v0).setCell ⟨q, 1, none⟩ v1).setCell ⟨q, 2, none⟩ v2).setCell ⟨q, 3, none⟩ v3).setCell ⟨q, 4, none⟩ v4).setCell ⟨q, 5, none⟩ v5) :=
 ⟨by simpa using h.size, fun p hp => (heap6 w q p (hq p hp) v0 v1 v2 v3 v4 v5).trans (h.block p hp)⟩
theorem qI {n : Nat} (h : n <= 6) : ¬ 9223372036854775807 < n + 5 := by omega
theorem yV (ao : Option Addr) (len cap : Nat) (S : Nat -> By) (hlen : len <= maxLen) (hraw : RawS W0 W0.heap.size ao len S) (hE : Env W0) (hL : EnvL W0) :
  Calls Tryz.prog 8 #[.slice ao len cap] W0 fun r w' => r = .returned (.bool true) /\ Below W0.heap.size W0 w' := by
 obtain ⟨f0, f1⟩ := zE (a := ⟨4, [], [], [], none⟩) (X := Few) S rfl yW xP (fun _ h => h) (min len 20)
 have f2 := qH (a := ⟨4, [], [], [], none⟩) (X := Few) S rfl yW xP (fun _ h => h) qX (min len 20)
 have hG : (zD ⟨4, [], [], [], none⟩ S (min len 20)).grp = none := zT S rfl _
 have HED0 : Hid (∀ e g W, Sts W0 (fun _ => False) [⟨e, 0, ⟨4, [], [], [], none⟩⟩, ⟨g, 0, ⟨0, [], [], [], none⟩⟩] W -> Calls Tryz.prog 32 #[.pointer (some ⟨e, 0, none⟩), .slice ao len cap] W fun r w' => r = .returned (.tuple #[]) /\ Lv W0 (fun _ => False) [⟨e, 0, zD ⟨4, [], [], [], none⟩ S (min len 20)⟩, ⟨g, 0, ⟨0, [], [], [], none⟩⟩] W w') := tZ fun e g W h => xU (E := [⟨e, 0, ⟨4, [], [], [], none⟩⟩, ⟨g, 0, ⟨0, [], [], [], none⟩⟩]) (i := 0) h hE hL (by simp) rfl ao len cap S hlen hraw
 generalize zD ⟨4, [], [], [], none⟩ S (min len 20) = A1 at *
 obtain ⟨F, nm2, hz, g0, g1, g2, hvz, hcz⟩ := qZ f0 f1 f2
 obtain ⟨M, P, hA2⟩ : ∃ M P, lnA A1 (.set [122] p45) = (⟨0, 0, [], nm2, 0, 0⟩, ⟨M, F, P, [], none⟩) := ⟨_, _, xN hG hz⟩
 have HA2 := tZ hA2
 have HE := tZ hE
 have HL := tZ hL
 have HG0 := tZ (And.intro g0 (And.intro g1 (And.intro g2 hvz)))
 have HBG := tZ ((Sts.empty W0).beginA 4 (by decide))
 have hn0 : 0 < (F.map fun f => f.nm).length /\ (F.map fun f => f.nm).length <= 10 := by
  refine ⟨?_, by have := g0.len; simpa using this⟩
  rw [List.length_pos_iff]
  intro e
  rw [e] at hcz
  simp at hcz
 have HORD := tZ (show lnA ⟨M, F, P, [], none⟩ .order = (⟨0, 0, [], F.map fun f => f.nm, 0, 0⟩, ⟨M, F, P, [], none⟩) from rfl)
 have HFL := tZ (show (F.map fun f => f.nm).length = F.length by simp)
 have HAT := tZ (fun j hj => xW g0 g1 g2 j hj M P [])
 generalize (F.map fun f => f.nm) = nm at *
 have HCZ := tZ hcz
 clear hz f0 f1 f2 hG hraw hlen hE hL g0 g1 g2 hvz hcz hA2
 go_enter Tryz.func8, Tryz.ntmps8
 go_wp2_with (first | (go_at_call 18; refine HBG.out.mono ?_; rintro r w1 ⟨e, rfl, h1⟩; have H1 := tZ h1; clear h1; refine Hid.out ?_))
 refine tZ ?_
 go_wp2_with (first | (go_at_call 18; refine (H1.out.2.beginA 0 (by decide)).mono ?_; rintro r w2 ⟨g, rfl, h1⟩; have H2 := tZ h1; clear h1; refine Hid.out ?_))
 refine tZ ?_
 go_wp2_with (first | (go_at_call 32; refine (HED0.out e g _ H2.out.2).mono ?_; rintro r w3 ⟨rfl, h1⟩; have H3 := tZ h1; clear h1; refine Hid.out ?_))
 refine tZ ?_
 go_wp2_with (first | (go_at_call 19; refine (twoD0 0 H3.out.2 HE.out HL.out (by decide) xB HA2.out (Or.inr rfl) rfl rfl).mono ?_; rintro r w4 ⟨rfl, h1⟩; have H4 := tZ h1; clear h1; refine Hid.out ?_))
 refine tZ ?_
 go_wp2_with (first | (go_at_call 20; refine (qL nm.length H4.out.2 HE.out HL.out isLn_order HORD.out rfl rfl).mono ?_; rintro r w5 ⟨bn, cn, rfl, h1, h2⟩; have H5 := tZ (And.intro h1 h2); clear h1 h2; refine Hid.out ?_))
 refine tZ ?_
 clear H1 H2 H3 H4 HBG HED0 HA2 HORD
 obtain ⟨gn, capg, hbn, _, hgl⟩ := H5.out.1.form hn0.1
 simp at hbn
 obtain ⟨rfl, rfl⟩ := hbn
 go_upto_region 8 with fail
 obtain ⟨w6, hw6⟩ : ∃ w6, w5.alloc (.cells #[.int .i64 0, .int .i64 0, .string ⟨#[]⟩, .slice (some ⟨gn, 0, none⟩) nm.length cn, .int .i64 0, .int .i64 0] 39) = w6 := ⟨_, rfl⟩
 obtain ⟨o5, ho5⟩ : ∃ o5, (Obj.cells #[.int .i64 0, .int .i64 0, .string ⟨#[]⟩, .slice (some ⟨gn, 0, none⟩) nm.length cn, .int .i64 0, .int .i64 0] 39 (0, 0)) = o5 := ⟨_, rfl⟩
 have HB6 : Hid (Below w5.heap.size w5 w6) := tZ (hw6 ▸ (Below.refl _ _).alloc (Nat.le_refl _) _)
 have HR5 : Hid (w6.heap[w5.heap.size]? = some o5) := tZ (by rw [<- hw6, <- ho5]; exact heap_alloc_new w5 _)
 have HA5 : Hid (Sts W0 (fun q => (False \/ (Value.slice (some ⟨gn, 0, none⟩) nm.length cn).ownBlock = some q) \/ q = w5.heap.size) [⟨e, 0, ⟨M, F, P, [], none⟩⟩, ⟨g, 0, ⟨0, F.take 0, [], [], none⟩⟩] w6) := tZ ((H5.out.2.grow HB6.out).less fun q hq => hq.imp_right fun h => by subst h; rw [<- hw6]; exact ⟨Nat.le_refl _, by simp⟩)
 have HO5 := tZ (own_below H5.out.1 HB6.out)
 have HHZ : Hid (Calls Tryz.prog 31 #[.slice (some ⟨gn, 0, none⟩) nm.length cn, .string ⟨#[122]⟩] w6 fun r w' => r = .returned (.int .i64 1) /\ w' = w6) := tZ (by
  have := qO nm [122] _ cn _ _ HO5.out (Nat.le_trans hn0.2 (by decide))
  rw [HCZ.out] at this
  exact this)
 have hg6 : gn < w6.heap.size := Nat.lt_of_lt_of_le hgl HB6.out.size
 obtain ⟨og, hog⟩ : ∃ og, w6.heap[gn]? = some og := ⟨_, Array.getElem?_eq_getElem hg6⟩
 have HOG := tZ hog
 have HOB := tZ ho5
 have hn1 : (nm.length : Int) <= 10 := Int.ofNat_le.2 hn0.2
 obtain ⟨⟨m0, m1, m2, m3, m4, m5⟩, _, hsz⟩ := row6 (HR5.out.trans (congrArg some HOB.out.symm))
 rw [hw6]
 clear H5 HB6 hw6 ho5
 generalize w5.heap.size = q5 at *
 go_wp2_with (first | (go_at_call 31; (with_reducible refine HHZ.out.mono ?_); rintro r w7 ⟨rfl, h7⟩; subst w7; refine Hid.out ?_))
 refine tZ ?_
 have HX : Hid (∃ T, FrI W0 T e g ⟨M, F, P, [], none⟩ F q5 gn o5 og 0 w6 /\ T q5 /\ T gn) := tZ ⟨_, ⟨HA5.out, HR5.out, HOG.out⟩, Or.inr rfl, Or.inl (Or.inr rfl)⟩
 have HNMC : Hid (∀ W : World, W.heap[gn]? = some og -> ∀ j x, nm[j]? = some x -> W.cell? ⟨gn, j, none⟩ = some (.string ⟨x.toArray⟩)) := tZ fun W hW j x hj => by
  have hjl : j < nm.length := (List.getElem?_eq_some_iff.1 hj).1
  have hc := HO5.out.cellAt j (by simpa using hjl)
  rw [World.cell?_of_block (a := ⟨gn, j, none⟩) (hW.trans HOG.out.symm), hc]
  simp [strs, hj]
 clear HA5 HR5 HO5 HHZ hog HOG hg6 hgl HCZ
 go_wp2_with fail
 obtain ⟨T, hT0, hT1⟩ := HX.out
 have HI0 := tZ hT0
 have HT := tZ hT1
 clear hT0 hT1 HX m0 m1 m2 m3 m4 m5 hsz
 go_loopg [9, 10, 11] nm.length (fun gk i _ _ wr => ∃ j : Nat, j <= nm.length /\ nm.length <= j + gk /\ i = .int .i64 (j : Int) /\ Hid (FrI W0 T e g ⟨M, F, P, [], none⟩ F q5 gn o5 og j wr))
 case atStart => exact ⟨0, Nat.zero_le _, Nat.le_of_eq (Nat.zero_add _).symm, rfl, HI0⟩
 case round =>
  obtain ⟨j, hj, hgk, rfl, HI⟩ := hrel
  obtain ⟨⟨m0, m1, m2, m3, m4, m5⟩, _, hsz⟩ := row6 (HI.out.ro.trans (congrArg some HOB.out.symm))
  rcases Nat.lt_or_ge j nm.length with hjn | hjn
  ·have HUP := tZ (qD hjn hgk)
   have hlt := qC hjn
   obtain ⟨x, t, hx, nx1, nx2, ht53, hl1, hr1, l, hl2, hr2⟩ := HAT.out j (by rw [<- HFL.out]; exact hjn)
   have hcj := HNMC.out _ HI.out.rg j x hx
   have HL1 := tZ hl1
   have HX := tZ hx
   have HR1 := tZ hr1
   have HL2 := tZ (show IsLn (115 :: 101 :: 116 :: 32 :: (x ++ 32 :: 61 :: 32 :: t)) l by simpa [setN] using hl2)
   have HR2 := tZ hr2
   have HXL := tZ nx2.2
   have HTL := tZ ht53
   have kr := qI nx2.2
   clear hx nx1 nx2 ht53 hl1 hr1 hl2 hr2
   go_wp2_with (first | (go_at_call 20; refine (qM HI.out.sts HE.out HL.out HL1.out HR1.out rfl).mono ?_; rintro r w9 ⟨bn9, cn9, rfl, h1⟩; have H9 := tZ (And.intro h1 (HI.out.kt h1.1 h1.2 HT.out)); clear h1; refine Hid.out ?_))
   refine tZ ?_
   clear m0 m1 m2 m3 m4 m5 hsz hcj
   have HA10 : Hid (Sts W0 (fun q => T q \/ q = w9.heap.size) [⟨e, 0, ⟨M, F, P, [], none⟩⟩, ⟨g, 0, ⟨0, F.take j, [], [], none⟩⟩] (w9.alloc (.cells #[.int .i64 0, .int .i64 0, .string ⟨t.toArray⟩, .slice bn9 0 cn9, .int .i64 0, .int .i64 0] 39))) := tZ ((H9.out.2.sts.grow (bZ _)).less fun q hq => hq.imp_right fun h => by subst h; exact ⟨Nat.le_refl _, by simp⟩)
   have HO10 := tZ ((Below.heap_alloc w9 (.cells #[.int .i64 0, .int .i64 0, .string ⟨t.toArray⟩, .slice bn9 0 cn9, .int .i64 0, .int .i64 0] 39) q5 (H9.out.2.sts.tlt q5 HT.out.1)).trans H9.out.2.ro)
   have HG10 := tZ ((Below.heap_alloc w9 (.cells #[.int .i64 0, .int .i64 0, .string ⟨t.toArray⟩, .slice bn9 0 cn9, .int .i64 0, .int .i64 0] 39) gn (H9.out.2.sts.tlt gn HT.out.2)).trans H9.out.2.rg)
   have HR10 := tZ (heap_alloc_new w9 (.cells #[.int .i64 0, .int .i64 0, .string ⟨t.toArray⟩, .slice bn9 0 cn9, .int .i64 0, .int .i64 0] 39))
   have HTq : Hid (¬ T w9.heap.size) := tZ fun h => Nat.lt_irrefl _ (H9.out.2.sts.tlt _ h)
   go_wp2_with fail
   generalize w9.alloc (.cells #[.int .i64 0, .int .i64 0, .string ⟨t.toArray⟩, .slice bn9 0 cn9, .int .i64 0, .int .i64 0] 39) = w10 at *
   generalize w9.heap.size = q9 at *
   obtain ⟨⟨m0, m1, m2, m3, m4, m5⟩, _, hsz⟩ := row6 (HO10.out.trans (congrArg some HOB.out.symm))
   obtain ⟨⟨n0, n1, n2, n3, n4, n5⟩, _, hsz9⟩ := row6 HR10.out
   have hcj := HNMC.out _ HG10.out j x HX.out
   have hne5 : q5 ≠ w10.heap.size := Nat.ne_of_lt hsz
   have hne9 : q9 ≠ w10.heap.size := Nat.ne_of_lt hsz9
   have hgn : gn < w10.heap.size := HA10.out.tlt gn (Or.inl HT.out.2)
   have hneg : gn ≠ w10.heap.size := Nat.ne_of_lt hgn
   have k1 : ¬ 9223372036854775807 < 4 + x.length := by have := HXL.out; omega
   have k2 : ¬ 9223372036854775807 < x.length + 4 + 3 := by have := HXL.out; omega
   have k3 : ¬ 9223372036854775807 < x.length + 3 + 4 + t.length := by have := HXL.out; have := HTL.out; omega
   have HSET : Hid (∀ W, Below w10.heap.size w10 W -> Calls Tryz.prog 20 #[.pointer (some ⟨g, 0, none⟩), .string ⟨(115 :: 101 :: 116 :: 32 :: (x ++ 32 :: 61 :: 32 :: t)).toArray⟩] W fun r w' => ∃ bn cn, r = .returned (.agg #[.int .i64 0, .int .i64 0, .string ⟨#[]⟩, .slice bn 1 cn, .int .i64 0, .int .i64 0]) /\ Lv W0 (fun q => (T q \/ q = q9) \/ (w10.heap.size <= q /\ q < W.heap.size)) [⟨e, 0, ⟨M, F, P, [], none⟩⟩, ⟨g, 0, ⟨0, F.take (j + 1), [], [], none⟩⟩] W w') := tZ fun W hW => qN (HA10.out.grow hW) HE.out HL.out HL2.out HR2.out rfl
   have HKC : Hid (∀ W w', Below w10.heap.size w10 W -> Kt (fun q => (T q \/ q = q9) \/ (w10.heap.size <= q /\ q < W.heap.size)) W w' -> w'.cell? ⟨q5, 3, none⟩ = some (.slice (some ⟨gn, 0, none⟩) nm.length cn) /\ w'.cell? ⟨gn, j, none⟩ = some (.string ⟨x.toArray⟩) /\ w'.cell? ⟨q9, 2, none⟩ = some (.string ⟨t.toArray⟩) /\ q5 < w'.heap.size /\ gn < w'.heap.size /\ q9 < w'.heap.size) := tZ fun W w' hW hK => by
    have hs := Nat.le_trans hW.size hK.size
    exact ⟨(hK.cell (p := ⟨q5, 3, none⟩) (Or.inl (Or.inl HT.out.1))).trans ((hW.cell (p := ⟨q5, 3, none⟩) hsz).trans m3), (hK.cell (p := ⟨gn, j, none⟩) (Or.inl (Or.inl HT.out.2))).trans ((hW.cell (p := ⟨gn, j, none⟩) hgn).trans hcj), (hK.cell (p := ⟨q9, 2, none⟩) (Or.inl (Or.inr rfl))).trans ((hW.cell (p := ⟨q9, 2, none⟩) hsz9).trans n2), Nat.lt_of_lt_of_le hsz hs, Nat.lt_of_lt_of_le hgn hs, Nat.lt_of_lt_of_le hsz9 hs⟩
   have HLT : Hid (∀ p, T p \/ p = q9 -> p < w10.heap.size) := tZ fun p hp => HA10.out.tlt p hp
   have HW0 := tZ HA10.out.low.size
   go_cut [11] (fun s wc => ∃ q bn cm, s = .pointer (some ⟨q, 0, none⟩) /\ Hid (Sts W0 (fun q => T q \/ q = q9) [⟨e, 0, ⟨M, F, P, [], none⟩⟩, ⟨g, 0, ⟨0, F.take (j + 1), [], [], none⟩⟩] wc /\ Kt (fun q => T q \/ q = q9) w10 wc /\ wc.heap[q]? = some (.cells #[.int .i64 0, .int .i64 0, .string ⟨#[]⟩, .slice bn 1 cm, .int .i64 0, .int .i64 0] 39 (0, 0))))
   case first =>
    go_region_held3 (fun w' => w'.cell? ⟨q5, 3, none⟩ = some (.slice (some ⟨gn, 0, none⟩) nm.length cn) /\ w'.cell? ⟨gn, j, none⟩ = some (.string ⟨x.toArray⟩) /\ w'.cell? ⟨q9, 2, none⟩ = some (.string ⟨t.toArray⟩)) (first | (with_reducible exact ⟨m3, hcj, n2⟩) | (with_reducible exact ⟨(yK _ _ _ hne5 _ _ _ _ _ _ _).trans m3, (yK _ _ _ hneg _ _ _ _ _ _ _).trans hcj, (yK _ _ _ hne9 _ _ _ _ _ _ _).trans n2⟩) | (with_reducible exact ⟨(yT hsz _).trans m3, (yT hgn _).trans hcj, (yT hsz9 _).trans n2⟩) | (with_reducible exact ⟨(yT hl5 _).trans m3, (yT hlg _).trans hcj, (yT hl9 _).trans n2⟩) | go_keep) (first | (go_at_call 20; (with_reducible refine (HSET.out _ (Below.refl _ _).drew).mono ?_); rintro r w11 ⟨bn11, cn11, rfl, h11⟩; obtain ⟨m3, hcj, n2, hl5, hlg, hl9⟩ := HKC.out _ w11 (Below.refl _ _).drew h11.1; have C11 := tZ h11; clear h11) | (go_at_call 20; (with_reducible refine (HSET.out _ (bZ _).drew).mono ?_); rintro r w11 ⟨bn11, cn11, rfl, h11⟩; obtain ⟨m3, hcj, n2, hl5, hlg, hl9⟩ := HKC.out _ w11 (bZ _).drew h11.1; have D11 := tZ ((h11.1.block w10.heap.size (Or.inr ⟨Nat.le_refl _, by simp⟩)).trans (heap_alloc_new w10 (.cells #[.int .i64 0, .int .i64 0, .string ⟨#[]⟩, .slice none 0 0, .int .i64 0, .int .i64 0] 39))); obtain ⟨⟨a0, a1, a2, a3, a4, a5⟩, ⟨f0, f1, f2, f3, f4, f5⟩, hlz⟩ := row6 D11.out; have C11 := tZ h11; clear h11))
    ·go_wp2_with fail
     go_meet
     exact ⟨w11.heap.size, bn11, cn11, rfl, tZ ⟨(C11.out.2.grow (bZ _)).less fun q hq => Or.inl (Or.inl hq), Kt.below (w := w10) ⟨C11.out.1.size, fun p hp => C11.out.1.block p (Or.inl hp)⟩ (fun q hq => C11.out.2.tlt q (Or.inl hq)) (bZ _), heap_alloc_new w11 _⟩⟩
    ·go_wp2_with fail
     go_meet
     exact ⟨w10.heap.size, bn11, cn11, rfl, tZ ⟨(qJ C11.out.2 (Or.inr ⟨Nat.le_refl _, by simp⟩) HW0.out _ _ _ _ _ _).less fun q hq => Or.inl hq, qQ ⟨Nat.le_trans (by simp) C11.out.1.size, fun p hp => (C11.out.1.block p (Or.inl hp)).trans (Below.heap_alloc w10 _ p (HLT.out p hp))⟩ (fun p hp => Nat.ne_of_lt (HLT.out p hp)) _ _ _ _ _ _, yC D11.out _ _ _ _ _ _⟩⟩
   case rest =>
    obtain ⟨q, bnq, cnq, rfl, HC⟩ := hcut
    clear m0 m1 m2 m3 m4 m5 n0 n1 n2 n3 n4 n5 hcj
    obtain ⟨⟨m0, m1, m2, m3, m4, m5⟩, _, hsz5⟩ := row6 ((HC.out.2.1.block q5 (Or.inl HT.out.1)).trans (HO10.out.trans (congrArg some HOB.out.symm)))
    obtain ⟨⟨n0, n1, n2, n3, n4, n5⟩, _, hsz6⟩ := row6 ((HC.out.2.1.block q9 (Or.inr rfl)).trans HR10.out)
    obtain ⟨⟨h0, h1, h2, h3, h4, h5⟩, _, hsz7⟩ := row6 HC.out.2.2
    have HNX : Hid (FrI W0 T e g ⟨M, F, P, [], none⟩ F q5 gn o5 og (j + 1) wc) := tZ ⟨HC.out.1.less fun q hq => Or.inl hq, (HC.out.2.1.block q5 (Or.inl HT.out.1)).trans HO10.out, (HC.out.2.1.block gn (Or.inl HT.out.2)).trans HG10.out⟩
    go_wp2_with fail
    go_roundg (nm.length - (j + 1))
    case measure => exact HUP.out.2.1
    case rel => exact ⟨j + 1, HUP.out.2.2, HUP.out.1, by simp, HNX⟩
  ·have hge := qB hjn
   obtain rfl : j = nm.length := Nat.le_antisymm hj hjn
   have HIF : Hid (Sts W0 T [⟨e, 0, ⟨M, F, P, [], none⟩⟩, ⟨g, 0, ⟨0, F, [], [], none⟩⟩] wr) := tZ (by have h := HI.out.sts; rwa [HFL.out, List.take_length] at h)
   have HAL := tZ (xR HIF.out HE.out HL.out 0 1 (by simp) (by simp) e g rfl rfl rfl rfl rfl fun x hx => ⟨rfl, HG0.out.1.gf.kind hx, by
    obtain ⟨f, hf, he⟩ := List.mem_map.1 hx
    have := yH (HG0.out.2.1 (f.nm, f.p) (List.mem_map.2 ⟨f, hf, rfl⟩)).1
    rw [<- he]
    exact this⟩)
   go_wp2_with (first | (go_at_call 33; refine HAL.out.mono ?_; rintro r w12 ⟨rfl, h1⟩; have H12 := tZ h1; clear h1; refine Hid.out ?_))
   refine tZ ?_
   go_wp2_with (first | (go_at_call 26; refine (qK H12.out.2 HE.out HL.out rfl nm_z yA (by rw [HG0.out.2.2.2])).mono ?_; rintro r w13 ⟨rfl, h1⟩; have H13 := tZ h1.2.low; clear h1; refine Hid.out ?_))
   refine tZ ?_
   go_wp2
   exact bodyPost_ret (v := .bool true) (by simp [results, Tryz.results8, go_sem]) (by simp [go_sem]) ⟨rfl, H13.out⟩
end
end Go.Proofs.YtihgojcfpnhelaaGreatDoor
