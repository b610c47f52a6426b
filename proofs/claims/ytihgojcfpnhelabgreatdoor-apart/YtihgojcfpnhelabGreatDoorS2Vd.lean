import Derived.Test.YtihgojcfpnhelabGreatDoorS2Jq
set_option maxRecDepth 100000
set_option maxHeartbeats 4000000
set_option linter.unusedVariables false
set_option linter.unusedSimpArgs false
namespace Go.Proofs.YtihgojcfpnhelabGreatDoor
open Go.RowKit
section
attribute [local go_sem] idx_eq app_eq
variable {W0 w w' W w1 w2 : World} {T T' : Nat → Prop} {x y z k i n : Nat} {A B C A' a : Ab} {s : By} {l : Ln} {fs fs' : List Fd} {nm : List By} {er : Int}
theorem apX (n : Nat) (h : Sts W0 T [⟨x, 0, A⟩, ⟨y, 0, B⟩, ⟨z, 0, C⟩] w) (hE : Env W0) (hL : EnvL W0) (hl : IsLn s l) (hr : lnA A l = (⟨er, 0, [], nm, 0, 0⟩, A')) (hn : nm.length = n) (hg : A'.grp = none) :
  Calls Tryz.prog 8 #[.pointer (some ⟨x, 0, none⟩), .string ⟨s.toArray⟩] w fun r w' => ∃ bn cn, r = .returned (.agg #[.int .i64 er, .int .i64 0, .string ⟨#[]⟩, .slice bn n cn, .int .i64 0, .int .i64 0]) ∧ w'.ownsRow w.heap.size 9 1 (.slice bn n cn) n (strs nm) ∧ Kt T w w' ∧ Sts W0 (fun q => T q ∨ (Value.slice bn n cn).ownBlock = some q) [⟨x, 0, A'⟩, ⟨y, 0, B⟩, ⟨z, 0, C⟩] w' := by
 subst hn
 refine (Sts.doB (E := [⟨x, 0, A⟩, ⟨y, 0, B⟩, ⟨z, 0, C⟩]) (i := 0) 0 h hE hL (by simp) (by simp) hl hr (Or.inr hg)).mono ?_
 rintro r w' ⟨bn, cn, rfl, h2, h3, h4⟩
 exact ⟨bn, cn, rfl, h2, h3, h4⟩
theorem apY (n : Nat) (h : Sts W0 T [⟨x, 0, A⟩, ⟨y, 0, B⟩, ⟨z, 0, C⟩] w) (hE : Env W0) (hL : EnvL W0) (hl : IsLn s l) (hr : lnA B l = (⟨er, 0, [], nm, 0, 0⟩, A')) (hn : nm.length = n) (hg : A'.grp = none) :
  Calls Tryz.prog 8 #[.pointer (some ⟨y, 0, none⟩), .string ⟨s.toArray⟩] w fun r w' => ∃ bn cn, r = .returned (.agg #[.int .i64 er, .int .i64 0, .string ⟨#[]⟩, .slice bn n cn, .int .i64 0, .int .i64 0]) ∧ Kt T w w' ∧ Sts W0 T [⟨x, 0, A⟩, ⟨y, 0, A'⟩, ⟨z, 0, C⟩] w' := by
 subst hn
 refine (Sts.doB (E := [⟨x, 0, A⟩, ⟨y, 0, B⟩, ⟨z, 0, C⟩]) (i := 1) 0 h hE hL (by simp) (by simp) hl hr (Or.inr hg)).mono ?_
 rintro r w' ⟨bn, cn, rfl, h2, h3, h4⟩
 exact ⟨bn, cn, rfl, h3, h4.less fun q hq => Or.inl hq⟩
theorem apZ {rp : Rp} (h : Sts W0 T [⟨x, 0, A⟩, ⟨y, 0, B⟩, ⟨z, 0, C⟩] w) (hE : Env W0) (hL : EnvL W0) (hl : IsLn s l) (hr : lnA C l = (rp, A')) (hg : A'.grp = none) :
  Calls Tryz.prog 8 #[.pointer (some ⟨z, 0, none⟩), .string ⟨s.toArray⟩] w fun r w' => ∃ v, r = .returned v ∧ Kt T w w' ∧ Sts W0 T [⟨x, 0, A⟩, ⟨y, 0, B⟩, ⟨z, 0, A'⟩] w' := by
 refine (Sts.doB (E := [⟨x, 0, A⟩, ⟨y, 0, B⟩, ⟨z, 0, C⟩]) (i := 2) 0 h hE hL (by simp) (by simp) hl hr (Or.inr hg)).mono ?_
 rintro r w' ⟨bn, cn, rfl, h2, h3, h4⟩
 exact ⟨_, rfl, h3, h4.less fun q hq => Or.inl hq⟩
theorem apD0 {rp : Rp} (h : Sts W0 T [⟨x, 0, A⟩, ⟨y, 0, B⟩, ⟨z, 0, C⟩] w) (hE : Env W0) (hL : EnvL W0) (hl : IsLn s l) (hr : lnA A l = (rp, A')) (hg : A'.grp = none) (h0 : rp.er = 0) (h1 : rp.at_ = 0) :
  Calls Tryz.prog 6 #[.pointer (some ⟨x, 0, none⟩), .string ⟨s.toArray⟩] w fun r w' => r = .returned (.bool true) ∧ Lv W0 T [⟨x, 0, A'⟩, ⟨y, 0, B⟩, ⟨z, 0, C⟩] w w' :=
 Sts.doesA (E := [⟨x, 0, A⟩, ⟨y, 0, B⟩, ⟨z, 0, C⟩]) (i := 0) 0 h hE hL (by simp) (by simp) hl hr (Or.inr hg) h0 h1
theorem apD1 {rp : Rp} (h : Sts W0 T [⟨x, 0, A⟩, ⟨y, 0, B⟩, ⟨z, 0, C⟩] w) (hE : Env W0) (hL : EnvL W0) (hl : IsLn s l) (hr : lnA B l = (rp, A')) (hg : A'.grp = none) (h0 : rp.er = 0) (h1 : rp.at_ = 0) :
  Calls Tryz.prog 6 #[.pointer (some ⟨y, 0, none⟩), .string ⟨s.toArray⟩] w fun r w' => r = .returned (.bool true) ∧ Lv W0 T [⟨x, 0, A⟩, ⟨y, 0, A'⟩, ⟨z, 0, C⟩] w w' :=
 Sts.doesA (E := [⟨x, 0, A⟩, ⟨y, 0, B⟩, ⟨z, 0, C⟩]) (i := 1) 0 h hE hL (by simp) (by simp) hl hr (Or.inr hg) h0 h1
structure ApI (A : Ab) : Prop where
 grp : A.grp = none
 ok : ∀ fs, fs = A.fs ∨ fs ∈ A.past → FsOk fs ∧ NF FewZ fs
theorem ApI.step (h : ApI A) (r : By) : ∃ er nm A', lnA A (lnB r) = (⟨er, 0, [], nm, 0, 0⟩, A') ∧ ApI A' := by
 rw [lnA_arB]
 cases har : arB A.fs r with
 | ok fs' nm =>
  have h1 := arB_ok (h.ok _ (Or.inl rfl)).1 (h.ok _ (Or.inl rfl)).2 (fun x hx => Or.inl hx) _ har
  refine ⟨_, _, _, rfl, ⟨by simp [editA, doneA, h.grp], fun fs hf => ?_⟩⟩
  simp [editA, doneA, h.grp] at hf
  rcases hf with rfl | hf
  ·exact h1
  ·have := List.mem_of_mem_take hf
   rcases List.mem_cons.1 this with rfl | h2
   ·exact h.ok _ (Or.inl rfl)
   ·exact h.ok _ (Or.inr h2)
 | err c nm =>
  have e : editA A (.err c nm) = A := by simp [editA, failA, h.grp]
  exact ⟨_, _, A, by simp only [edR, e]; rfl, h⟩
theorem ApI.undo (h : ApI A) : ∃ er A', lnA A .undo = (⟨er, 0, [], [], 0, 0⟩, A') ∧ ApI A' := by
 refine ⟨_, _, rfl, ?_⟩
 unfold undoA
 rw [h.grp]
 simp only
 cases hp : A.past with
 | nil => exact h
 | cons o p =>
  refine ⟨rfl, fun fs hf => ?_⟩
  rcases hf with rfl | hf
  ·exact h.ok _ (Or.inr (by rw [hp]; simp))
  ·exact h.ok _ (Or.inr (by rw [hp]; simp [show fs ∈ p from hf]))
theorem ap_ready (h : ApI A) : ∀ x, x ∈ A.fs.map (fun f => f.nm) → (valA A.fs x).2 = (valA A.fs x).2 ∧ (valA A.fs x).2.1 ≠ 0 ∧ NmOk x ∧ NmO x := fun x hx => by
 obtain ⟨h1, h2⟩ := h.ok _ (Or.inl rfl)
 refine ⟨rfl, h1.gf.kind hx, ?_⟩
 obtain ⟨f, hf, he⟩ := List.mem_map.1 hx
 have := fewz_ok (h2 (f.nm, f.p) (List.mem_map.2 ⟨f, hf, rfl⟩)).1
 rw [← he]
 exact this
theorem apA (h : Sts W0 T [⟨x, 0, A⟩, ⟨y, 0, A⟩, ⟨z, 0, C⟩] w) (hE : Env W0) (hL : EnvL W0) (hA : ApI A) :
  Calls Tryz.prog 12 #[.pointer (some ⟨x, 0, none⟩), .pointer (some ⟨y, 0, none⟩)] w fun r w' => r = .returned (.bool true) ∧ Lv W0 T [⟨x, 0, A⟩, ⟨y, 0, A⟩, ⟨z, 0, C⟩] w w' :=
 alike_ok h hE hL 0 1 (by simp) (by simp) x y rfl rfl hA.grp hA.grp rfl (ap_ready hA)
theorem Sts.add1 {E : List En} {o : Obj} (h : Sts W0 T E w) : Sts W0 (fun q => T q ∨ q = w.heap.size) E (w.alloc o) :=
 (h.grow (bZ _)).less fun q hq => hq.imp_right fun h => by subst h; exact ⟨Nat.le_refl _, by simp⟩
def OwnL (w : World) (bn : Option Addr) (n B0 q : Nat) (T : Nat → Prop) : Prop := n = 0 ∨ ∃ g cur, bn = some ⟨g, 0, none⟩ ∧ B0 ≤ g ∧ g ≠ q ∧ T g ∧ w.heap[g]? = some (.cells cur 9 (0, 0)) ∧ n ≤ cur.size
theorem own_L {bn : Option Addr} {cn B0 B1 : Nat} {xs : List Value} (h : w.ownsRow B1 9 1 (.slice bn n cn) n xs) (hB : B0 ≤ B1) (hT : ∀ q, (Value.slice bn n cn).ownBlock = some q → T q) : OwnL w bn n B0 w.heap.size T := by
 rcases h.2 with ⟨_, h0⟩ | ⟨g, c, cur, hv, h1, h2, h3, h4, h5, _⟩
 ·exact Or.inl h0
 ·cases hv
  exact Or.inr ⟨g, cur, rfl, by omega, Nat.ne_of_lt (Array.getElem?_eq_some_iff.1 h2).1, hT g rfl, h2, by omega⟩
theorem ap_len {bn : Option Addr} {cn B1 : Nat} {xs : List Value} (h : w.ownsRow B1 9 1 (.slice bn n cn) n xs) : (n : Int) ≤ 9223372036854775807 := by
 rcases h.2 with ⟨_, h0⟩ | ⟨g, c, cur, hv, h1, h2, h3, h4, h5, _⟩
 ·omega
 ·unfold maxLen at h4
  omega
theorem OwnL.kt {bn : Option Addr} {B0 q : Nat} (h : OwnL w bn n B0 q T) (hk : Kt T w w') : OwnL w' bn n B0 q T := by
 rcases h with h | ⟨g, cur, h1, h2, h3, h4, h5, h6⟩
 ·exact Or.inl h
 ·exact Or.inr ⟨g, cur, h1, h2, h3, h4, (hk.block g h4).trans h5, h6⟩
theorem OwnL.more {bn : Option Addr} {B0 q : Nat} (h : OwnL w bn n B0 q T) (hT : ∀ q, T q → T' q) : OwnL w bn n B0 q T' := by
 rcases h with h | ⟨g, cur, h1, h2, h3, h4, h5, h6⟩
 ·exact Or.inl h
 ·exact Or.inr ⟨g, cur, h1, h2, h3, hT g h4, h5, h6⟩
theorem OwnL.at {bn : Option Addr} {B0 q k : Nat} (h : OwnL w bn n B0 q T) (hk : k < n) : ∃ g u, bn = some ⟨g, 0, none⟩ ∧ w.cell? ⟨g, k, none⟩ = some u ∧ w.frozen? ⟨g, k, none⟩ = false ∧ g < w.heap.size ∧ B0 ≤ g ∧ g ≠ q ∧ T g ∧ ∀ v, OwnL (w.setCell ⟨g, k, none⟩ v) bn n B0 q T := by
 rcases h with h | ⟨g, cur, h1, h2, h3, h4, h5, h6⟩
 ·omega
 ·refine ⟨g, cur[k]'(by omega), h1, ?_, by simp [World.frozen?, h5], (Array.getElem?_eq_some_iff.1 h5).1, h2, h3, h4, fun v => Or.inr ⟨g, cur.setIfInBounds k v, h1, h2, h3, h4, setCell_block h5 k v, by simpa using h6⟩⟩
  rw [cell_of_row w g k _ _ _ h5]
  exact Array.getElem?_eq_getElem _
theorem ap_r {j gk len : Nat} (h : j < 15) (hn : j < len) (h' : 15 ≤ j + gk) : j + 1 ≤ 15 ∧ 15 ≤ j + 1 + (15 - (j + 1)) ∧ j + 1 ≤ len ∧ 15 - (j + 1) < gk := by omega
theorem ap_n {j n gk : Nat} (h : j < n) (hg : n ≤ j + gk) : j + 1 ≤ n ∧ n ≤ j + 1 + (n - (j + 1)) ∧ n - (j + 1) < gk := by omega
theorem apartHolds (ao ao' : Option Addr) (len cap len' cap' : Nat) (S S' : Nat → By) (hlen : len ≤ maxLen) (hlen' : len' ≤ maxLen) (hraw : RawS W0 W0.heap.size ao len S) (hraw' : RawS W0 W0.heap.size ao' len' S') (hE : Env W0) (hL : EnvL W0) :
  Calls Tryz.prog 4 #[.slice ao len cap, .slice ao' len' cap'] W0 fun r w' => r = .returned (.bool true) ∧ Below W0.heap.size W0 w' := by
 have HBG := tZ ((Sts.empty W0).beginA 4 (by decide))
 obtain ⟨Z0, nm0, hz, z0, z1, _⟩ := set_z fsOk_nil nf_nil 3
 have HZ := tZ (lnA_ok (a := ⟨4, [], [], [], none⟩) rfl hz)
 have HI0 : Hid (ApI ⟨4, Z0, [[]], [], none⟩) := tZ ⟨rfl, fun fs hf => by
  rcases hf with rfl | hf
  ·exact ⟨z0, z1⟩
  ·rw [List.mem_singleton.1 hf]
   exact ⟨fsOk_nil, nf_nil⟩⟩
 have HE := tZ hE
 have HL := tZ hL
 have HRAW := tZ hraw
 have HRA2 := tZ hraw'
 have hl20 : len ≤ 9223372036854775807 := by unfold maxLen at hlen; exact hlen
 have hl21 : len' ≤ 9223372036854775807 := by unfold maxLen at hlen'; exact hlen'
 clear hraw hraw' hlen hlen' hE hL hz z0 z1
 go_enter Tryz.func4, Tryz.ntmps4
 go_wp2_with (first | (go_at_call 5; refine HBG.out.mono ?_; rintro r w1 ⟨x, rfl, h1⟩; have H1 := tZ h1; clear h1; refine Hid.out ?_))
 refine tZ ?_
 go_wp2_with (first | (go_at_call 5; refine (H1.out.2.beginA 4 (by decide)).mono ?_; rintro r w2 ⟨y, rfl, h1⟩; have H2 := tZ h1; clear h1; refine Hid.out ?_))
 refine tZ ?_
 go_wp2_with (first | (go_at_call 5; refine (H2.out.2.beginA 2 (by decide)).mono ?_; rintro r w3 ⟨z, rfl, h1⟩; have H3 := tZ h1; clear h1; refine Hid.out ?_))
 refine tZ ?_
 go_wp2_with (first | (go_at_call 6; refine (apD0 H3.out.2 HE.out HL.out (isLn_z 3 (by decide)) HZ.out rfl rfl rfl).mono ?_; rintro r w4 ⟨rfl, h1⟩; have H4 := tZ h1; clear h1; refine Hid.out ?_))
 refine tZ ?_
 go_wp2_with (first | (go_at_call 6; refine (apD1 H4.out.2 HE.out HL.out (isLn_z 3 (by decide)) HZ.out rfl rfl rfl).mono ?_; rintro r w5 ⟨rfl, h1⟩; have H5 := tZ h1; clear h1; refine Hid.out ?_))
 refine tZ ?_
 have HX0 : Hid (∃ A C, ApI A ∧ C.grp = none ∧ Sts W0 (fun _ => False) [⟨x, 0, A⟩, ⟨y, 0, A⟩, ⟨z, 0, C⟩] w5) := tZ ⟨⟨4, Z0, [[]], [], none⟩, ⟨2, [], [], [], none⟩, HI0.out, rfl, H5.out.2⟩
 clear H1 H2 H3 H4 H5 HBG HZ HI0
 go_upto_block 0 with fail
 go_cut [11] (fun _ wc => Hid (∃ A C, ApI A ∧ C.grp = none ∧ Sts W0 (fun _ => False) [⟨x, 0, A⟩, ⟨y, 0, A⟩, ⟨z, 0, C⟩] wc))
 case first =>
  go_wp2_with fail
  go_loopg [11, 12, 13, 14, 15, 16, 17] 15 (fun gk i _ _ _ _ _ _ wr => ∃ j : Nat, j ≤ 15 ∧ 15 ≤ j + gk ∧ j ≤ len ∧ i = .int .i64 (j : Int) ∧ Hid (∃ A C, ApI A ∧ C.grp = none ∧ Sts W0 (fun _ => False) [⟨x, 0, A⟩, ⟨y, 0, A⟩, ⟨z, 0, C⟩] wr))
  case atStart => exact ⟨0, Nat.zero_le _, Nat.le_refl _, Nat.zero_le _, rfl, HX0⟩
  case round =>
   obtain ⟨j, hj15, hgk, hjl, rfl, HX⟩ := hrel
   rcases Nat.lt_or_ge j len with hjn | hjn
   ·have hl1 : (j : Int) < (len : Int) := Int.ofNat_lt.2 hjn
    rcases Nat.lt_or_ge j 15 with hjm | hjm
    ·have hl2 : (j : Int) < 15 := Int.ofNat_lt.2 hjm
     obtain ⟨A, C, hA, hC, hS⟩ := HX.out
     obtain ⟨er, nm, A', hr, hA'⟩ := hA.step (S j)
     have HA := tZ hr
     have HA2 := tZ hA'
     have HCG := tZ hC
     have HS := tZ hS
     obtain ⟨a0, rfl, hab, hac, hsl⟩ := HRAW.out j hjn
     have hcx := (HS.out.low.cell (p := a0.add j) (by rw [addBlk]; exact hab)).trans hac
     have HF := tZ (feed_new (S j) hsl wr)
     have HUP := tZ (ap_r hjm hjn hgk)
     clear hA hC hS HX hr hA' hac hsl hab
     go_wp2_with (first | (go_at_call 11; refine (keep_line _ _ _ HF.out).mono ?_; rintro r w12 ⟨rfl, hk2⟩; have HK2 := tZ hk2.over; clear hk2; refine Hid.out ?_))
     refine tZ ?_
     have HS2 := tZ (HS.out.next HK2.out)
     clear hcx HF
     go_wp2_with (first | (go_at_call 8; refine (apX nm.length HS2.out HE.out HL.out (isLn_line (S j)) HA.out rfl HA2.out.grp).mono ?_; rintro r w13 ⟨bn, cn, rfl, h1, h3, h4⟩; have H13 := tZ h1; have HS13 := tZ h4; clear h1 h3 h4; refine Hid.out ?_))
     refine tZ ?_
     have hnl : (nm.length : Int) ≤ 9223372036854775807 := ap_len H13.out
     have HX4 : Hid (∃ T4, Sts W0 T4 [⟨x, 0, A'⟩, ⟨y, 0, A⟩, ⟨z, 0, C⟩] (w13.alloc (.cells #[.int .i64 er, .int .i64 0, .string ⟨#[]⟩, .slice bn nm.length cn, .int .i64 0, .int .i64 0] 30)) ∧ (w13.alloc (.cells #[.int .i64 er, .int .i64 0, .string ⟨#[]⟩, .slice bn nm.length cn, .int .i64 0, .int .i64 0] 30)).heap[w13.heap.size]? = some (.cells #[.int .i64 er, .int .i64 0, .string ⟨#[]⟩, .slice bn nm.length cn, .int .i64 0, .int .i64 0] 30 (0, 0)) ∧ OwnL (w13.alloc (.cells #[.int .i64 er, .int .i64 0, .string ⟨#[]⟩, .slice bn nm.length cn, .int .i64 0, .int .i64 0] 30)) bn nm.length W0.heap.size w13.heap.size T4 ∧ T4 w13.heap.size) := tZ ⟨_, HS13.out.add1, heap_alloc_new w13 _, (((own_L H13.out HS2.out.low.size (fun q hq => Or.inr hq)).kt (Kt.below (Kt.refl _ _) HS13.out.tlt (bZ _))).more fun q hq => Or.inl hq), Or.inr rfl⟩
     obtain ⟨T4, hX4⟩ := HX4.out
     have HS4 := tZ hX4.1
     have HR4 := tZ hX4.2.1
     have HO4 := tZ hX4.2.2.1
     have HT4 := tZ hX4.2.2.2
     clear hX4 HX4 HS13 H13 HS2 HK2 HS
     go_upto_if 77 with fail
     generalize w13.alloc (.cells #[.int .i64 er, .int .i64 0, .string ⟨#[]⟩, .slice bn nm.length cn, .int .i64 0, .int .i64 0] 30) = w14 at *
     generalize w13.heap.size = q13 at *
     go_cut [11] (fun s wc => s = .int .i64 (j : Int) ∧ Hid (∃ C', C'.grp = none ∧ Sts W0 T4 [⟨x, 0, A'⟩, ⟨y, 0, A⟩, ⟨z, 0, C'⟩] wc ∧ Kt T4 w14 wc))
     case first =>
      rcases Nat.lt_or_ge j len' with hjo | hjo
      ·have hl3 : (j : Int) < (len' : Int) := Int.ofNat_lt.2 hjo
       obtain ⟨a1, rfl, hab, hac, hsl⟩ := HRA2.out j hjo
       have hcx := (HS4.out.low.cell (p := a1.add j) (by rw [addBlk]; exact hab)).trans hac
       have HF := tZ (feed_new (S' j) hsl w14)
       have HCZ := tZ (lnB_grp (S' j) HCG.out)
       clear hac hsl hab
       go_wp2_with (first | (go_at_call 11; refine (keep_line _ _ _ HF.out).mono ?_; rintro r w15 ⟨rfl, hk2⟩; have HK2 := tZ hk2.over; clear hk2; refine Hid.out ?_))
       refine tZ ?_
       have HS2 := tZ (HS4.out.next HK2.out)
       clear hcx HF
       go_wp2_with (first | (go_at_call 8; refine (apZ HS2.out HE.out HL.out (isLn_line (S' j)) rfl HCZ.out).mono ?_; rintro r w16 ⟨v, rfl, h3, h4⟩; have H16 := tZ (And.intro h4 (Kt.trans (Kt.below (Kt.refl _ _) HS4.out.tlt HK2.out) h3)); clear h3 h4; refine Hid.out ?_))
       refine tZ ?_
       go_wp2_with fail
       go_meet
       exact ⟨rfl, tZ ⟨_, HCZ.out, H16.out.1, H16.out.2⟩⟩
      ·have hl3 : ¬ (j : Int) < (len' : Int) := al_ge hjo
       go_wp2_with fail
       go_meet
       exact ⟨rfl, tZ ⟨C, HCG.out, HS4.out, Kt.refl _ _⟩⟩
     case rest =>
     obtain ⟨rfl, HX5⟩ := hcut
     generalize wc = w15 at *
     obtain ⟨C', hC', hS5, hK5⟩ := HX5.out
     have HCC := tZ hC'
     have HS5 := tZ hS5
     have HK5 := tZ hK5
     clear hC' hS5 hK5 HX5
     go_wp2_with (first | (go_at_call 8; refine (apY nm.length HS5.out HE.out HL.out (isLn_line (S j)) HA.out rfl HA2.out.grp).mono ?_; rintro r w16 ⟨bq, cq, rfl, h3, h4⟩; have HK6 := tZ (HK5.out.trans h3); have HS6 := tZ h4; clear h3 h4; refine Hid.out ?_))
     refine tZ ?_
     have HW : Hid (Sts W0 T4 [⟨x, 0, A'⟩, ⟨y, 0, A'⟩, ⟨z, 0, C'⟩] (w16.alloc (.cells #[.int .i64 er, .int .i64 0, .string ⟨#[]⟩, .slice bq nm.length cq, .int .i64 0, .int .i64 0] 30)) ∧ (w16.alloc (.cells #[.int .i64 er, .int .i64 0, .string ⟨#[]⟩, .slice bq nm.length cq, .int .i64 0, .int .i64 0] 30)).heap[q13]? = some (.cells #[.int .i64 er, .int .i64 0, .string ⟨#[]⟩, .slice bn nm.length cn, .int .i64 0, .int .i64 0] 30 (0, 0)) ∧ OwnL (w16.alloc (.cells #[.int .i64 er, .int .i64 0, .string ⟨#[]⟩, .slice bq nm.length cq, .int .i64 0, .int .i64 0] 30)) bn nm.length W0.heap.size q13 T4) := tZ ⟨HS6.out.next (bZ _), ((Below.heap_alloc w16 _ q13 (HS6.out.tlt q13 HT4.out)).trans (HK6.out.block q13 HT4.out)).trans HR4.out, HO4.out.kt (Kt.below HK6.out HS6.out.tlt (bZ _))⟩
     obtain ⟨⟨m0, m1, m2, m3, m4, m5⟩, _, hsz⟩ := row6 HW.out.2.1
     obtain ⟨⟨n0, n1, n2, n3, n4, n5⟩, _, hsz2⟩ := row6 (heap_alloc_new w16 (.cells #[.int .i64 er, .int .i64 0, .string ⟨#[]⟩, .slice bq nm.length cq, .int .i64 0, .int .i64 0] 30))
     have e1 : (er == er) = true := by simp
     have hnn : ((nm.length : Int) == (nm.length : Int)) = true := by simp
     go_upto_region 14 with fail
     generalize w16.alloc (.cells #[.int .i64 er, .int .i64 0, .string ⟨#[]⟩, .slice bq nm.length cq, .int .i64 0, .int .i64 0] 30) = w17 at *
     go_cut [108] (fun s wc => s = .bool false ∧ wc = w17)
     case first =>
      go_wp2_with fail
      all_goals (go_meet; exact ⟨rfl, rfl⟩)
     case rest =>
     obtain ⟨rfl, rfl⟩ := hcut
     have HORD := tZ (show lnA A' .order = (⟨0, 0, [], A'.fs.map fun f => f.nm, 0, 0⟩, A') from rfl)
     obtain ⟨no, hno⟩ : ∃ no, (A'.fs.map fun f => f.nm) = no := ⟨_, rfl⟩
     have hn10 : no.length ≤ 10 := by rw [← hno]; have := (HA2.out.ok _ (Or.inl rfl)).1.len; simpa using this
     rw [hno] at HORD
     clear m0 m1 m2 m3 m4 m5 n0 n1 n2 n3 n4 n5 hsz hsz2 hno HS6 HS5 HK5 HK6 HS4 HR4 HO4
     go_wp2_with fail
     go_loopg [15] nm.length (fun gk i wr => ∃ j : Nat, j ≤ nm.length ∧ nm.length ≤ j + gk ∧ i = .int .i64 (j : Int) ∧ Hid (Sts W0 T4 [⟨x, 0, A'⟩, ⟨y, 0, A'⟩, ⟨z, 0, C'⟩] wr ∧ wr.heap[q13]? = some (Obj.cells #[.int .i64 er, .int .i64 0, .string ⟨#[]⟩, .slice bn nm.length cn, .int .i64 0, .int .i64 0] 30 (0, 0)) ∧ OwnL wr bn nm.length W0.heap.size q13 T4))
     case atStart => exact ⟨0, Nat.zero_le _, Nat.le_of_eq (Nat.zero_add _).symm, rfl, HW⟩
     case round =>
      obtain ⟨k, hkn, hgk2, rfl, HI⟩ := hrel
      obtain ⟨⟨m0, m1, m2, m3, m4, m5⟩, _, hsz⟩ := row6 HI.out.2.1
      rcases Nat.lt_or_ge k nm.length with hk | hk
      ·have hlt := al_lt hk
       obtain ⟨gw, uw, hbw, c1, c2, c3, c4, c5, c6, c7⟩ := HI.out.2.2.at hk
       have HUP2 := tZ (ap_n hk hgk2)
       have HN : Hid (Sts W0 T4 [⟨x, 0, A'⟩, ⟨y, 0, A'⟩, ⟨z, 0, C'⟩] (wr.setCell ⟨gw, k, none⟩ (.string ⟨#[109, 105, 110, 101]⟩)) ∧ (wr.setCell ⟨gw, k, none⟩ (.string ⟨#[109, 105, 110, 101]⟩)).heap[q13]? = some (Obj.cells #[.int .i64 er, .int .i64 0, .string ⟨#[]⟩, .slice bn nm.length cn, .int .i64 0, .int .i64 0] 30 (0, 0)) ∧ OwnL (wr.setCell ⟨gw, k, none⟩ (.string ⟨#[109, 105, 110, 101]⟩)) bn nm.length W0.heap.size q13 T4) := tZ ⟨HI.out.1.set c6 c4 k _, (Below.heap_setCell _ _ _ _ (Ne.symm c5)).trans HI.out.2.1, c7 _⟩
       have HBW := tZ hbw
       clear c4 c6 c7 hbw
       rw [HBW.out] at m3
       go_wp2_with fail
       go_roundg (nm.length - (k + 1))
       case measure => exact HUP2.out.2.2
       case rel => exact ⟨k + 1, HUP2.out.1, HUP2.out.2.1, by simp, HN⟩
      ·have hge := al_ge hk
       have HV := tZ HI.out.1
       clear hgk2 hkn HI
       go_wp2_with (first | (go_at_call 8; refine (apX no.length HV.out HE.out HL.out isLn_order HORD.out rfl HA2.out.grp).mono ?_; rintro r w18 ⟨bo, co, rfl, h1, h3, h4⟩; have H18 := tZ (And.intro h1 h4); clear h1 h3 h4; refine Hid.out ?_))
       refine tZ ?_
       clear m0 m1 m2 m3 m4 m5 hsz
       have hol : (no.length : Int) ≤ 10 := Int.ofNat_le.2 hn10
       have HX8 : Hid (∃ T6, Sts W0 T6 [⟨x, 0, A'⟩, ⟨y, 0, A'⟩, ⟨z, 0, C'⟩] (w18.alloc (.cells #[.int .i64 0, .int .i64 0, .string ⟨#[]⟩, .slice bo no.length co, .int .i64 0, .int .i64 0] 30)) ∧ (w18.alloc (.cells #[.int .i64 0, .int .i64 0, .string ⟨#[]⟩, .slice bo no.length co, .int .i64 0, .int .i64 0] 30)).heap[w18.heap.size]? = some (Obj.cells #[.int .i64 0, .int .i64 0, .string ⟨#[]⟩, .slice bo no.length co, .int .i64 0, .int .i64 0] 30 (0, 0)) ∧ OwnL (w18.alloc (.cells #[.int .i64 0, .int .i64 0, .string ⟨#[]⟩, .slice bo no.length co, .int .i64 0, .int .i64 0] 30)) bo no.length W0.heap.size w18.heap.size T6) := tZ ⟨_, H18.out.2.add1, heap_alloc_new w18 _, ((own_L H18.out.1 HV.out.low.size (fun q hq => Or.inr hq)).kt (w' := w18.alloc (.cells #[.int .i64 0, .int .i64 0, .string ⟨#[]⟩, .slice bo no.length co, .int .i64 0, .int .i64 0] 30)) ⟨by simp, fun q hq => Below.heap_alloc w18 _ q (H18.out.2.tlt q hq)⟩).more fun q hq => Or.inl hq⟩
       obtain ⟨T6, hX8⟩ := HX8.out
       have HW := tZ hX8
       clear hX8 HX8 H18 HV
       go_wp2_with fail
       generalize w18.alloc (.cells #[.int .i64 0, .int .i64 0, .string ⟨#[]⟩, .slice bo no.length co, .int .i64 0, .int .i64 0] 30) = w19 at *
       generalize w18.heap.size = q16 at *
       go_loopg [17] no.length (fun gk i wr => ∃ j : Nat, j ≤ no.length ∧ no.length ≤ j + gk ∧ i = .int .i64 (j : Int) ∧ Hid (Sts W0 T6 [⟨x, 0, A'⟩, ⟨y, 0, A'⟩, ⟨z, 0, C'⟩] wr ∧ wr.heap[q16]? = some (Obj.cells #[.int .i64 0, .int .i64 0, .string ⟨#[]⟩, .slice bo no.length co, .int .i64 0, .int .i64 0] 30 (0, 0)) ∧ OwnL wr bo no.length W0.heap.size q16 T6))
       case atStart => exact ⟨0, Nat.zero_le _, Nat.le_of_eq (Nat.zero_add _).symm, rfl, HW⟩
       case round =>
        obtain ⟨k, hkn, hgk2, rfl, HI⟩ := hrel
        obtain ⟨⟨m0, m1, m2, m3, m4, m5⟩, _, hsz⟩ := row6 HI.out.2.1
        rcases Nat.lt_or_ge k no.length with hk | hk
        ·have hlt := al_lt hk
         obtain ⟨gw, uw, hbw, c1, c2, c3, c4, c5, c6, c7⟩ := HI.out.2.2.at hk
         have HUP2 := tZ (ap_n hk hgk2)
         have HN : Hid (Sts W0 T6 [⟨x, 0, A'⟩, ⟨y, 0, A'⟩, ⟨z, 0, C'⟩] (wr.setCell ⟨gw, k, none⟩ (.string ⟨#[109, 105, 110, 101]⟩)) ∧ (wr.setCell ⟨gw, k, none⟩ (.string ⟨#[109, 105, 110, 101]⟩)).heap[q16]? = some (Obj.cells #[.int .i64 0, .int .i64 0, .string ⟨#[]⟩, .slice bo no.length co, .int .i64 0, .int .i64 0] 30 (0, 0)) ∧ OwnL (wr.setCell ⟨gw, k, none⟩ (.string ⟨#[109, 105, 110, 101]⟩)) bo no.length W0.heap.size q16 T6) := tZ ⟨HI.out.1.set c6 c4 k _, (Below.heap_setCell _ _ _ _ (Ne.symm c5)).trans HI.out.2.1, c7 _⟩
         have HBW := tZ hbw
         clear c4 c6 c7 hbw
         rw [HBW.out] at m3
         go_wp2_with fail
         go_roundg (no.length - (k + 1))
         case measure => exact HUP2.out.2.2
         case rel => exact ⟨k + 1, HUP2.out.1, HUP2.out.2.1, by simp, HN⟩
        ·have hge := al_ge hk
         have HV := tZ HI.out.1
         clear hgk2 hkn HI
         go_wp2_with fail
         go_roundg (15 - (j + 1))
         case measure => exact HUP.out.2.2.2
         case rel => exact ⟨j + 1, HUP.out.1, HUP.out.2.1, HUP.out.2.2.1, by simp, tZ ⟨A', C', HA2.out, HCC.out, HV.out.less fun q hq => hq.elim⟩⟩
    ·have hl2 : ¬ (j : Int) < 15 := al_ge hjm
     go_wp2_with fail
     go_meet
     exact HX
   ·have hl1 : ¬ (j : Int) < (len : Int) := al_ge hjn
    go_wp2_with fail
    go_meet
    exact HX
 case rest =>
 generalize wc = w6 at *
 obtain ⟨A, C, hA, hC, hS⟩ := hcut.out
 have HAI := tZ hA
 have HS := tZ hS
 obtain ⟨er, A', hr, hA'⟩ := hA.undo
 have HA := tZ hr
 have HA2 := tZ hA'
 have e1 : (er == er) = true := by simp
 clear hA hC hS hr hA' hcut HX0
 go_wp2_with (first | (go_at_call 12; refine (apA HS.out HE.out HL.out HAI.out).mono ?_; rintro r w7 ⟨rfl, h1⟩; have H7 := tZ h1; clear h1; refine Hid.out ?_))
 refine tZ ?_
 go_wp2_with (first | (go_at_call 8; refine (apX 0 H7.out.2 HE.out HL.out isLn_undo HA.out rfl HA2.out.grp).mono ?_; rintro r w8 ⟨bu, cu, rfl, h1, h3, h4⟩; have H8 := tZ (h4.less (T' := fun _ => False) fun q hq => hq.elim); clear h1 h3 h4; refine Hid.out ?_))
 refine tZ ?_
 have HS8 := tZ (H8.out.add1 (o := .cells #[.int .i64 er, .int .i64 0, .string ⟨#[]⟩, .slice bu 0 cu, .int .i64 0, .int .i64 0] 30))
 have HR8 := tZ (heap_alloc_new w8 (.cells #[.int .i64 er, .int .i64 0, .string ⟨#[]⟩, .slice bu 0 cu, .int .i64 0, .int .i64 0] 30))
 go_wp2_with (first | (go_at_call 8; refine (apY 0 HS8.out HE.out HL.out isLn_undo HA.out rfl HA2.out.grp).mono ?_; rintro r w9 ⟨bv, cv, rfl, h3, h4⟩; have HK9 := tZ h3; have H9 := tZ h4; clear h3 h4; refine Hid.out ?_))
 refine tZ ?_
 have HS9 := tZ (H9.out.add1 (o := .cells #[.int .i64 er, .int .i64 0, .string ⟨#[]⟩, .slice bv 0 cv, .int .i64 0, .int .i64 0] 30))
 have HR9 := tZ (heap_alloc_new w9 (.cells #[.int .i64 er, .int .i64 0, .string ⟨#[]⟩, .slice bv 0 cv, .int .i64 0, .int .i64 0] 30))
 have HR8b := tZ ((Below.heap_alloc w9 (.cells #[.int .i64 er, .int .i64 0, .string ⟨#[]⟩, .slice bv 0 cv, .int .i64 0, .int .i64 0] 30) w8.heap.size (H9.out.tlt _ (Or.inr rfl))).trans ((HK9.out.block w8.heap.size (Or.inr rfl)).trans HR8.out))
 go_wp2_with (first | (go_at_call 12; refine (apA HS9.out HE.out HL.out HA2.out).mono ?_; rintro r w10 ⟨rfl, h1⟩; have H10 := tZ h1; clear h1; refine Hid.out ?_))
 refine tZ ?_
 obtain ⟨⟨m0, m1, m2, m3, m4, m5⟩, _, hsz⟩ := row6 ((H10.out.1.block w8.heap.size (Or.inl (Or.inr rfl))).trans HR8b.out)
 obtain ⟨⟨n0, n1, n2, n3, n4, n5⟩, _, hsz2⟩ := row6 ((H10.out.1.block w9.heap.size (Or.inr rfl)).trans HR9.out)
 have HLW := tZ H10.out.2.low
 go_wp2
 exact bodyPost_ret (v := .bool true) (by simp [results, Tryz.results4, go_sem]) (by simp [go_sem]) ⟨rfl, HLW.out⟩
end
end Go.Proofs.YtihgojcfpnhelabGreatDoor
