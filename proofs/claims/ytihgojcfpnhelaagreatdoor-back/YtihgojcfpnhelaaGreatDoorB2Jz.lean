import Derived.Test.YtihgojcfpnhelaaGreatDoorB2Jy
set_option maxRecDepth 100000
set_option maxHeartbeats 4000000
set_option linter.unusedVariables false
set_option linter.unusedSimpArgs false
namespace Go.Proofs.YtihgojcfpnhelaaGreatDoor
open Go.RowKit
section
attribute [local go_sem] idx_eq app_eq
variable {W0 w w' : World} {T : Nat → Prop} {E : List En} {e : Nat} {a a' : Ab} {fs fs' : List Fd} {x y : By} {M : Nat}
theorem Sts.grownT {row : Option Nat} (h : Sts W0 T E w) (hg : w.grownBy w' row) (hr : ∀ q, row = some q → T q ∧ W0.heap.size ≤ q) : Sts W0 (fun q => T q ∨ (w.heap.size ≤ q ∧ q < w'.heap.size)) E w' := by
 have hks : Ks (fun q => row = some q) w w' := ⟨hg.os, hg.tape, hg.output, hg.size, fun q hq hn => hg.block q hq fun h => hn h.symm⟩
 obtain ⟨hl, ht, F, h1, h2, h3⟩ := h
 refine ⟨hl.trans (hks.low (fun q hq => (hr q hq).2) hl.size), fun q hq => ?_, F, fun i hi => (h1 i hi).keep hks fun q hq hp => (h3 i q hq).2.1 (hr q hp).1, h2, fun i q hq => ⟨(h3 i q hq).1, fun h4 => ?_, Nat.lt_of_lt_of_le (h3 i q hq).2.2 hg.size⟩⟩
 ·rcases hq with h4 | h4
  ·exact Nat.lt_of_lt_of_le (ht q h4) hg.size
  ·exact h4.2
 ·rcases h4 with h4 | h4
  ·exact (h3 i q hq).2.1 h4
  ·have := (h3 i q hq).2.2; omega
theorem set_y (hok : FsOk fs) (h : NF FewZ fs) (d : Nat) : ∃ fs' nm, setA fs [121] (dgP d) = .ok fs' nm ∧ valA fs' [121] = (0, 1, (d : Int)) := by
 have hl : fs.length ≤ 9 := by
  have := h.len (L := fewL ++ [[122]]) hok.nd fun x hx => by
   rcases hx with hx | hx
   ·exact List.mem_append_left _ (few_mem hx)
   ·exact List.mem_append_right _ (by simp [hx])
  simpa [fewL] using this
 obtain ⟨fs', nm, he⟩ := set_const (fs := fs) (x := [121]) (p := dgP d) (dg_none d) (Or.inr (by omega))
 obtain ⟨h1, v, h2, h3⟩ := set_val hok.gf (show Shape (dgP d) from Or.inl rfl) he
 refine ⟨fs', nm, he, ?_⟩
 rw [h2, h3]
 simp [valP, dgP]
structure HsOk (H : List (List Fd)) : Prop where
 two : 2 ≤ H.length
 ok : ∀ fs, fs ∈ H → FsOk fs ∧ NF FewZ fs
noncomputable def hsT (H : List (List Fd)) : List By := (H.dropLast.map lsA).reverse
theorem hsT_cons (H : List (List Fd)) (h : 2 ≤ H.length) (fs : List Fd) : hsT (fs :: H) = hsT H ++ [lsA fs] := by
 cases H with
 | nil => simp at h
 | cons c r => simp [hsT, List.dropLast]
theorem hsT_len (H : List (List Fd)) : (hsT H).length = H.length - 1 := by simp [hsT]
theorem hsT_last (H : List (List Fd)) (m : Nat) (h : H.length = m + 2) : (hsT H)[m]? = some (lsA (H.getD 0 [])) := by
 match H, h with
 | c :: d :: r, h =>
  obtain rfl : m = r.length := by simp at h; omega
  have e : hsT (c :: d :: r) = hsT (d :: r) ++ [lsA c] := by simp [hsT, List.dropLast]
  rw [e, List.getElem?_append_right (by rw [hsT_len]; simp), hsT_len]
  simp
structure BkI (W0 : World) (e M n : Nat) (v : Value) (w : World) (H : List (List Fd)) (T : Nat → Prop) (m : Nat) : Prop where
 hs : HsOk H
 le : m ≤ n
 len : H.length = m + 2
 sts : Sts W0 T [⟨e, 0, bkA M H 0⟩] w
 own : w.ownsRow W0.heap.size 9 1 v (m + 1) (strs (hsT H))
 tv : ∀ q, v.ownBlock = some q → T q
 bot : H.getD (m + 1) [] = []
theorem BkI.slice {n m : Nat} {v : Value} {H : List (List Fd)} (h : BkI W0 e M n v w H T m) : ∃ g c, v = .slice (some ⟨g, 0, none⟩) (m + 1) c ∧ g < w.heap.size ∧ m + 1 ≤ c ∧ ∀ j u, (hsT H)[j]? = some u → w.cell? ⟨g, j, none⟩ = some (.string ⟨u.toArray⟩) := by
 have h2 := h.len
 obtain ⟨g, c, hv, _, hg⟩ := h.own.form (by omega)
 have hcap : m + 1 ≤ c := by
  rcases h.own.2 with ⟨_, h0⟩ | ⟨g', c', cur, hv', _, _, hle, _⟩
  ·omega
  ·rw [hv] at hv'
   cases hv'
   exact hle
 refine ⟨g, c, hv, hg, hcap, fun j u hj => ?_⟩
 have hjl : j < (hsT H).length := (List.getElem?_eq_some_iff.1 hj).1
 rw [hsT_len] at hjl
 have ho := h.own
 rw [hv] at ho
 have := ho.cellAt j (by omega)
 rw [this]
 simp [strs, hj]
theorem hsT_at (H : List (List Fd)) (m i : Nat) (h : H.length = m + 2) (hi : i ≤ m) : (hsT H)[i]? = some (lsA (H.getD (m - i) [])) := by
 have h1 : (H.dropLast.map lsA).length = m + 1 := by simp [h]
 unfold hsT
 rw [List.getElem?_reverse (by rw [h1]; omega), h1, List.getElem?_map, show m + 1 - 1 - i = m - i by omega, List.getElem?_dropLast, if_pos (by omega), List.getElem?_eq_getElem (by omega)]
 simp [List.getD_eq_getElem?_getD, List.getElem?_eq_getElem (show m - i < H.length by omega)]
structure BkT (W0 : World) (e M n g o : Nat) (w : World) (H : List (List Fd)) (T : Nat → Prop) (t : Nat) : Prop where
 hs : HsOk H
 nM : n ≤ M
 nH : n < H.length
 no : (H.tail.take M).length ≤ n
 sts : Sts W0 T [⟨e, 0, bkA M H t⟩] w
 tg : T g
 cell : ∀ i, i ≤ n → w.cell? ⟨g, o + i, none⟩ = some (.string ⟨(lsA (H.getD (n - i) [])).toArray⟩)
theorem BkT.kt {n g o t t' : Nat} {H : List (List Fd)} (h : BkT W0 e M n g o w H T t) (hl : Lv W0 T [⟨e, 0, bkA M H t'⟩] w w') : BkT W0 e M n g o w' H T t' :=
 ⟨h.hs, h.nM, h.nH, h.no, hl.2, h.tg, fun i hi => (hl.1.cell (p := ⟨g, o + i, none⟩) h.tg).trans (h.cell i hi)⟩
theorem BkT.down {n g o t : Nat} {H : List (List Fd)} (h : BkT W0 e M n g o w H T t) (ht : t < n) : lnA (bkA M H t) .undo = (⟨0, 0, [], [], 0, 0⟩, bkA M H (t + 1)) := by
 have h1 := h.nM
 have h2 := h.nH
 show hsR (undoA _) = _
 rw [bk_undo H t (by omega) (by omega)]
 rfl
theorem BkT.up {n g o t t' : Nat} {H : List (List Fd)} (h : BkT W0 e M n g o w H T t') (ht : t < n) : lnA (bkA M H (t + 1)) .redo = (⟨0, 0, [], [], 0, 0⟩, bkA M H t) := by
 have h1 := h.nM
 have h2 := h.nH
 show hsR (redoA _) = _
 rw [bk_redo H t (by omega) (by omega)]
 rfl
theorem BkT.noDown {n g o t : Nat} {H : List (List Fd)} (h : BkT W0 e M n g o w H T t) : lnA (bkA M H n) .undo = (⟨11, 0, [], [], 0, 0⟩, bkA M H n) := by
 show hsR (undoA _) = _
 rw [bk_none H n h.no]
 rfl
theorem bk_noUp (H : List (List Fd)) : lnA (bkA M H 0) .redo = (⟨11, 0, [], [], 0, 0⟩, bkA M H 0) := by
 show hsR (redoA _) = _
 rw [bk_last H]
 rfl
theorem bk_noFut {P : List (List Fd)} : lnA ⟨M, fs, P, [], none⟩ .redo = (⟨11, 0, [], [], 0, 0⟩, ⟨M, fs, P, [], none⟩) := rfl
theorem BkI.toT1 {n d g c : Nat} {H : List (List Fd)} (h : BkI W0 e M n (.slice (some ⟨g, 0, none⟩) (M + d + 1) c) w H T (M + d)) : BkT W0 e M M g d w H T 0 := by
 obtain ⟨g', c', hv, _, _, hc⟩ := h.slice
 cases hv
 have hl := h.len
 refine ⟨h.hs, Nat.le_refl _, by omega, by simp; omega, h.sts, h.tv g rfl, fun i hi => ?_⟩
 refine hc (d + i) _ ?_
 rw [hsT_at H (M + d) (d + i) hl (by omega), show M + d - (d + i) = M - i by omega]
theorem BkI.toT2 {n m g c g' c' : Nat} {H : List (List Fd)} {T' : Nat → Prop} (h : BkI W0 e M n (.slice (some ⟨g, 0, none⟩) (m + 1) c) w H T m) (hm : m + 1 ≤ M) (hs : Sts W0 T' [⟨e, 0, bkA M H 0⟩] w') (hg : T' g') (ho : w'.ownsRow W0.heap.size 9 1 (.slice (some ⟨g', 0, none⟩) (1 + (m + 1)) c') (1 + (m + 1)) (.string ⟨#[]⟩ :: strs (hsT H))) : BkT W0 e M (m + 1) g' 0 w' H T' 0 := by
 have hl := h.len
 refine ⟨h.hs, hm, by omega, by simp; omega, hs, hg, fun i hi => ?_⟩
 have := ho.cellAt i (by simp [strs, hsT_len]; omega)
 rw [Nat.zero_add, this]
 cases i with
 | zero =>
  rw [Nat.sub_zero, h.bot, lsA_nil]
  rfl
 | succ i =>
  have := hsT_at H m i hl (by omega)
  simp only [strs, List.getElem?_cons_succ, List.getElem?_map, this, Option.map_some]
  rw [show m + 1 - (i + 1) = m - i by omega]
theorem nm_y : NmOk [121] := nmOk_w ⟨by simp, by decide, by simp⟩ (by decide) (by decide)
theorem nmo_y : NmO [121] := ⟨by simp, by simp⟩
theorem isLn_y (d : Nat) (hd : d < 10) : IsLn (setN [121] (dg d)) (.set [121] (dgP d)) :=
 isLn_set nm_y nmo_y (by simp [dg]) (toks_z d hd) (by rw [← atom_dg d hd]; exact der1 (dg d) 1 8 (cls_dg d hd) (by omega)) (by simp [dgP, opn]) (txt_small d hd).1
theorem BkT.sety {n g o t : Nat} {H : List (List Fd)} (h : BkT W0 e M n g o w H T t) (hn : n ≠ 0) : ∃ fs' nm, lnA (bkA M H 1) (.set [121] (dgP 9)) = (⟨0, 0, [], nm, 0, 0⟩, ⟨M, fs', ((bkA M H 1).fs :: (bkA M H 1).past).take M, [], none⟩) ∧ (valA fs' [121]).2 = (1, 9) := by
 have h1 : 1 < H.length := by have := h.nH; omega
 have h2 := h.hs.ok (H.getD 1 []) (by rw [List.getD_eq_getElem?_getD, List.getElem?_eq_getElem h1]; exact List.getElem_mem h1)
 obtain ⟨fs', nm, h3, h4⟩ := set_y h2.1 h2.2 9
 exact ⟨fs', nm, lnA_ok rfl h3, by rw [h4]; rfl⟩
theorem bk_c {c : Nat} (h : c ≠ 0) : ((c : Int) == 0) = false := by simp; omega
theorem bk_mx {m : Nat} (h : m ≤ 20) : m + 1 + 1 ≤ maxLen ∧ (m + 1 + 1) * 16 ≤ 140737488355328 := by unfold maxLen; omega
theorem bk_min {M m : Nat} (h : M < m + 1) : min (M : Int) (m : Int) = (M : Int) := by omega
theorem bk_lt {M m : Nat} (h : M < m + 1) : (M : Int) < (m : Int) + 1 := by omega
theorem bk_nlt {M m : Nat} (h : m + 1 ≤ M) : ¬ (M : Int) < (m : Int) + 1 := by omega
theorem bk_sub {M m : Nat} (h : M < m + 1) : ∃ d, m = M + d := ⟨m - M, by omega⟩
theorem bk_add {m c : Nat} (h : m + 1 ≤ c) : ∃ c', c = m + 1 + c' := ⟨c - (m + 1), by omega⟩
theorem bk_cut {M d : Nat} : ((M : Int) + (d : Int) - min (M : Int) ((M : Int) + (d : Int))).toNat = d := by omega
theorem bk_c1 {M d : Nat} : M + d + 1 - d = M + 1 := by omega
theorem bk_c2 {M d c : Nat} : M + d + 1 + c - d = M + 1 + c := by omega
theorem bk_my {m : Nat} (h : m ≤ 20) : 1 + (m + 1) ≤ maxLen ∧ (1 + (m + 1)) * 16 ≤ 140737488355328 := by unfold maxLen; omega
theorem bk_r {j gk len : Nat} (h : j < 20) (hn : j < len) (h' : 20 ≤ j + gk) : j + 1 ≤ 20 ∧ 20 ≤ j + 1 + (20 - (j + 1)) ∧ j + 1 ≤ len ∧ 20 - (j + 1) < gk := by omega
theorem BkT.add {o' : Obj} {n g o t : Nat} {H : List (List Fd)} (h : BkT W0 e M n g o w H T t) : BkT W0 e M n g o (w.alloc o') H (fun q => T q ∨ q = w.heap.size) t :=
 ⟨h.hs, h.nM, h.nH, h.no, (h.sts.grow (bZ _)).less fun q hq => hq.imp_right fun h => by subst h; exact ⟨Nat.le_refl _, by simp⟩, Or.inl h.tg, fun i hi => ((bZ _).cell (p := ⟨g, o + i, none⟩) (h.sts.tlt g h.tg)).trans (h.cell i hi)⟩
theorem BkT.next {n g o t : Nat} {H : List (List Fd)} (h : BkT W0 e M n g o w H T t) (hb : Below w.heap.size w w') : BkT W0 e M n g o w' H T t :=
 ⟨h.hs, h.nM, h.nH, h.no, h.sts.next hb, h.tg, fun i hi => (hb.cell (p := ⟨g, o + i, none⟩) (h.sts.tlt g h.tg)).trans (h.cell i hi)⟩
theorem bk_d1 {t r N gk : Nat} (h : t + (r + 1) = N) (hg : r + 1 ≤ gk) : t < N ∧ r ≤ N ∧ N - r = t + 1 ∧ t + 1 + r = N ∧ r < gk := by omega
theorem bk_d2 {r N : Nat} (h : r ≤ N) (hN : N ≤ 6) : (r : Int) < (N : Int) + 1 ∧ (r : Int) ≤ 6 := by omega
theorem bk_d3 (r : Nat) : (((r + 1 : Nat) : Int) - 1) = (r : Int) := by omega
theorem bk_u1 {s t N gk : Nat} (hs : 1 ≤ s) (h : s + (t + 1) = N + 1) (hg : t + 1 ≤ gk) : t < N ∧ s ≤ N ∧ N - s = t ∧ s + 1 + t = N + 1 ∧ t < gk := by omega
theorem bk_u2 {s N : Nat} (h : s ≤ N) (hN : N ≤ 6) : (s : Int) < (N : Int) + 1 ∧ (s : Int) ≤ 6 ∧ (s : Int) ≤ (N : Int) := by omega
theorem bk_u3 {s N : Nat} (h : s + 0 = N + 1) : ¬ (s : Int) ≤ (N : Int) := by omega
theorem bk_n0 {N : Nat} (h : 0 < N) : ((N : Int) == 0) = false := by simp; omega
theorem backHolds (ao : Option Addr) (len cap : Nat) (S : Nat → By) (undo : Int) (hlen : len ≤ maxLen) (hraw : RawS W0 W0.heap.size ao len S) (hw : -9223372036854775808 ≤ undo ∧ undo ≤ 9223372036854775807) (hE : Env W0) (hL : EnvL W0) :
  Calls Tryz.prog 11 #[.slice ao len cap, .int .i64 undo] W0 fun r w' => r = .returned (.bool true) ∧ Below W0.heap.size W0 w' := by
 obtain ⟨M, hM⟩ : ∃ M, pickN undo 7 = M := ⟨_, rfl⟩
 have hM7 : M ≤ 6 := by have := pickN_lt undo 7 (by decide); omega
 have HPK : Hid (∀ W, Calls Tryz.prog 25 #[.int .i64 undo, .int .i64 7] W fun r w' => r = .returned (.int .i64 (M : Int)) ∧ w' = W) := tZ fun W => by
  have := pick_ok undo 7 hw.1 hw.2 (by decide) (by decide) W
  rw [hM] at this
  exact this
 have HBG := tZ ((Sts.empty W0).beginA M hM7)
 obtain ⟨Z0, nm0, hz, z0, z1, _⟩ := set_z fsOk_nil nf_nil 1
 have HZ := tZ (show lnA ⟨M, [], [], [], none⟩ (.set [122] (dgP 1)) = (⟨0, 0, [], nm0, 0, 0⟩, bkA M [Z0, []] 0) by
  rw [lnA_ok rfl hz]
  congr 1)
 have HH0 := tZ (show HsOk [Z0, []] from ⟨by simp, fun fs hf => by
  simp only [List.mem_cons, List.not_mem_nil, or_false] at hf
  rcases hf with rfl | rfl
  ·exact ⟨z0, z1⟩
  ·exact ⟨fsOk_nil, nf_nil⟩⟩)
 have HE := tZ hE
 have HL := tZ hL
 have HRAW := tZ hraw
 have hl20 : len ≤ 9223372036854775807 := by unfold maxLen at hlen; exact hlen
 have HM6 : (M : Int) ≤ 6 := Int.ofNat_le.2 hM7
 clear hraw hlen hw hE hL hz z0 z1 hM
 go_enter Tryz.func11, Tryz.ntmps11
 go_wp2_with (first | (go_at_call 25; refine (HPK.out _).mono ?_; rintro r w1 ⟨rfl, h1⟩; subst w1; refine Hid.out ?_))
 refine tZ ?_
 go_wp2_with (first | (go_at_call 18; refine HBG.out.mono ?_; rintro r w2 ⟨e, rfl, h1⟩; have H2 := tZ h1; clear h1; refine Hid.out ?_))
 refine tZ ?_
 go_wp2_with (first | (go_at_call 19; refine (oneD H2.out.2 HE.out HL.out (isLn_z 1 (by decide)) HZ.out rfl).mono ?_; rintro r w3 ⟨rfl, h1⟩; have H3 := tZ h1; clear h1; refine Hid.out ?_))
 refine tZ ?_
 go_wp2_with (first | (go_at_call 30; refine (oneT H3.out.2 HE.out HL.out rfl).mono ?_; rintro r w4 ⟨rfl, h1⟩; have H4 := tZ h1; clear h1; refine Hid.out ?_))
 refine tZ ?_
 have HI0 : Hid (BkI W0 e M 0 (.slice (some ⟨w4.heap.size, 0, none⟩) 1 1) (w4.alloc (.cells #[.string ⟨(lsA (bkA M [Z0, []] 0).fs).toArray⟩] 9)) [Z0, []] (fun q => False ∨ (w4.heap.size ≤ q ∧ q < (w4.alloc (.cells #[.string ⟨(lsA (bkA M [Z0, []] 0).fs).toArray⟩] 9)).heap.size)) 0) := tZ ⟨HH0.out, Nat.le_refl _, rfl, H4.out.2.grow (bZ _), by
   have := World.ownsRow_lit (base := W0.heap.size) w4 (e := 9) (size := 1) #[.string ⟨(lsA (bkA M [Z0, []] 0).fs).toArray⟩] 1 H4.out.2.low.size (by decide) rfl
   exact this, fun q hq => by simp [Value.ownBlock] at hq; subst hq; exact Or.inr ⟨Nat.le_refl _, by simp⟩, rfl⟩
 go_upto_block 0 with fail
 generalize w4.alloc (.cells #[.string ⟨(lsA (bkA M [Z0, []] 0).fs).toArray⟩] 9) = w5 at *
 clear HPK HBG HZ H2 H3 H4 HH0
 obtain ⟨i0, hi, hz0, hz1, hz2⟩ := info_parts info9
 go_cut [8] (fun l wc => ∃ j m g c : Nat, m ≤ 20 ∧ l = .slice (some ⟨g, 0, none⟩) (m + 1) c ∧ Hid (∃ H T, BkI W0 e M j (.slice (some ⟨g, 0, none⟩) (m + 1) c) wc H T m))
 case first =>
  go_wp2_with fail
  go_loopg [8, 9, 10, 11] 20 (fun gk v i _ _ wr => ∃ j : Nat, j ≤ 20 ∧ 20 ≤ j + gk ∧ j ≤ len ∧ i = .int .i64 (j : Int) ∧ Hid (∃ H T m, BkI W0 e M j v wr H T m))
  case atStart => exact ⟨0, Nat.zero_le _, Nat.le_refl _, Nat.zero_le _, rfl, tZ ⟨_, _, _, HI0.out⟩⟩
  case round =>
   obtain ⟨j, hj20, hgk, hjl, rfl, HI⟩ := hrel
   obtain ⟨H, T, m, hi'⟩ := HI.out
   have hm20 : m ≤ 20 := Nat.le_trans hi'.le hj20
   have HB := tZ hi'
   obtain ⟨g, c, rfl, hgl, hcap, hgc⟩ := hi'.slice
   have HC := tZ hgc
   clear hi' HI hgc hcap
   rcases Nat.lt_or_ge j len with hjn | hjn
   ·have hl1 : (j : Int) < (len : Int) := Int.ofNat_lt.2 hjn
    rcases Nat.lt_or_ge j 20 with hjm | hjm
    ·have hl2 : (j : Int) < 20 := Int.ofNat_lt.2 hjm
     obtain ⟨a0, rfl, hab, hac, hsl⟩ := HRAW.out j hjn
     have hcx := (HB.out.sts.low.cell (p := a0.add j) (by rw [addBlk]; exact hab)).trans hac
     have HF := tZ (feed_new (S j) hsl wr)
     have HUP := tZ (bk_r hjm hjn hgk)
     clear hac hsl hab
     go_wp2_with (first | (go_at_call 34; refine (keep_line _ _ _ HF.out).mono ?_; rintro r w12 ⟨rfl, hk2⟩; have HK2 := tZ hk2.over; clear hk2; refine Hid.out ?_))
     refine tZ ?_
     have HS2 := tZ (HB.out.sts.next HK2.out)
     clear hcx HF
     have HT := tZ HB.out.tv
     have htg : T g := HB.out.tv g rfl
     cases har : arB (H.getD 0 []) (S j) with
     | err k nm =>
      have HA := tZ (show lnA (bkA M H 0) (lnB (S j)) = (⟨(k : Int), 0, [], nm, 0, 0⟩, bkA M H 0) by rw [lnA_arB]; show edR _ (arB (H.getD 0 []) (S j)) = _; rw [har]; rfl)
      have hkb := bk_c (arB_err _ har)
      clear har
      go_wp2_with (first | (go_at_call 20; refine (oneE nm.length HS2.out HE.out HL.out (isLn_line (S j)) HA.out rfl rfl).mono ?_; rintro r w13 ⟨bn, cn, rfl, h1, h3, h4⟩; have H13 := tZ h3; clear h1 h3 h4; refine Hid.out ?_))
      refine tZ ?_
      have HS13 := tZ (H13.out.add1 (o := .cells #[.int .i64 (k : Int), .int .i64 0, .string ⟨#[]⟩, .slice bn nm.length cn, .int .i64 0, .int .i64 0] 39))
      have HR13 := tZ (heap_alloc_new w13 (.cells #[.int .i64 (k : Int), .int .i64 0, .string ⟨#[]⟩, .slice bn nm.length cn, .int .i64 0, .int .i64 0] 39))
      have HK13 : Hid (Kt T wr (w13.alloc (.cells #[.int .i64 (k : Int), .int .i64 0, .string ⟨#[]⟩, .slice bn nm.length cn, .int .i64 0, .int .i64 0] 39))) := tZ ((((Kt.refl T wr).below HB.out.sts.tlt HK2.out).trans H13.out.1).below H13.out.2.tlt (bZ _))
      go_wp2_with (first | (go_at_call 30; refine (oneT HS13.out HE.out HL.out rfl).mono ?_; rintro r w14 ⟨rfl, h1⟩; have H14 := tZ h1; clear h1; refine Hid.out ?_))
      refine tZ ?_
      have HK14 := tZ (HK13.out.trans (H14.out.1.less fun q hq => Or.inl hq))
      obtain ⟨⟨m0, m1, m2, m3, m4, m5⟩, _, hsz⟩ := row6 ((H14.out.1.block w13.heap.size (Or.inr rfl)).trans HR13.out)
      have hlast := (HK14.out.cell (p := ⟨g, m, none⟩) htg).trans (HC.out m _ (hsT_last H m HB.out.len))
      have HFIN : Hid (BkI W0 e M (j + 1) (.slice (some ⟨g, 0, none⟩) (m + 1) c) w14 H T m) := tZ ⟨HB.out.hs, Nat.le_succ_of_le HB.out.le, HB.out.len, H14.out.2.less fun q hq => Or.inl hq, own_kt HB.out.own HK14.out HB.out.tv, HB.out.tv, HB.out.bot⟩
      have htt : (lsA (H.getD 0 []) == lsA (H.getD 0 [])) = true := by simp
      have hfs0 : lsA (bkA M H 0).fs = lsA (H.getD 0 []) := rfl
      go_wp2_with fail
      go_roundg (20 - (j + 1))
      case measure => exact HUP.out.2.2.2
      case rel => exact ⟨j + 1, HUP.out.1, HUP.out.2.1, HUP.out.2.2.1, by simp, tZ ⟨H, T, m, HFIN.out⟩⟩
     | ok fs' nm =>
      have HOK := tZ (arB_ok (X := FewZ) (HB.out.hs.ok (H.getD 0 []) (by have := HB.out.len; cases hH : H with | nil => rw [hH] at this; simp at this | cons c r => simp)).1 (HB.out.hs.ok (H.getD 0 []) (by have := HB.out.len; cases hH : H with | nil => rw [hH] at this; simp at this | cons c r => simp)).2 (fun x hx => Or.inl hx) _ har)
      have HA := tZ (show lnA (bkA M H 0) (lnB (S j)) = (⟨0, 0, [], nm, 0, 0⟩, bkA M (fs' :: H) 0) by
       rw [lnA_arB]
       show edR _ (arB (H.getD 0 []) (S j)) = _
       rw [har, ← bk_edit H (by have := HB.out.len; intro e; rw [e] at this; simp at this) fs']
       rfl)
      clear har
      go_wp2_with (first | (go_at_call 20; refine (oneE nm.length HS2.out HE.out HL.out (isLn_line (S j)) HA.out rfl rfl).mono ?_; rintro r w13 ⟨bn, cn, rfl, h1, h3, h4⟩; have H13 := tZ h3; clear h1 h3 h4; refine Hid.out ?_))
      refine tZ ?_
      have HS13 := tZ (H13.out.add1 (o := .cells #[.int .i64 0, .int .i64 0, .string ⟨#[]⟩, .slice bn nm.length cn, .int .i64 0, .int .i64 0] 39))
      have HR13 := tZ (heap_alloc_new w13 (.cells #[.int .i64 0, .int .i64 0, .string ⟨#[]⟩, .slice bn nm.length cn, .int .i64 0, .int .i64 0] 39))
      have HK13 : Hid (Kt T wr (w13.alloc (.cells #[.int .i64 0, .int .i64 0, .string ⟨#[]⟩, .slice bn nm.length cn, .int .i64 0, .int .i64 0] 39))) := tZ ((((Kt.refl T wr).below HB.out.sts.tlt HK2.out).trans H13.out.1).below H13.out.2.tlt (bZ _))
      go_wp2_with (first | (go_at_call 30; refine (oneT HS13.out HE.out HL.out rfl).mono ?_; rintro r w14 ⟨rfl, h1⟩; have H14 := tZ h1; clear h1; refine Hid.out ?_))
      refine tZ ?_
      have HK14 := tZ (HK13.out.trans (H14.out.1.less fun q hq => Or.inl hq))
      obtain ⟨⟨m0, m1, m2, m3, m4, m5⟩, _, hsz⟩ := row6 ((H14.out.1.block w13.heap.size (Or.inr rfl)).trans HR13.out)
      have HOWN := tZ (own_kt HB.out.own HK14.out HB.out.tv)
      have HW0 := tZ H14.out.2.low.size
      obtain ⟨tx, htx⟩ : ∃ tx, lsA (bkA M (fs' :: H) 0).fs = tx := ⟨_, rfl⟩
      have HTX := tZ (show lsA fs' = tx from htx)
      rw [htx]
      clear htx
      go_wp2_with (first | (at_builtin; refine wpList_append_lies _ rfl (.tmp 63) (.tmp 65) 24 rfl W0.heap.size 9 i0 (.string ⟨#[]⟩) 1 16 Tryz.underlying24 hi hz0 hz1 hz2 rfl (by decide) (.slice (some ⟨g, 0, none⟩) (m + 1) c) (m + 1) _ rfl (HOWN.out.alloc _) ⟨w14.heap.size, 0, none⟩ 1 1 [.string ⟨tx.toArray⟩] rfl rfl (fun q u hq => by have := cells_new w14 [.string ⟨tx.toArray⟩] 9 q u hq; simpa using this) (fun u hu => by simp at hu; subst hu; rfl) (by decide) (bk_mx hm20).1 (bk_mx hm20).2 (Nat.le_trans HW0.out (by simp)) (w14.heap.size + 1) (by simp) ?_; intro g' cap' w15 hown hgrow hat hlt; refine Hid.out ?_))
      refine tZ ?_
      have HFIN : Hid (BkI W0 e M (j + 1) (.slice (some ⟨g', 0, none⟩) (m + 1 + 1) cap') w15 (fs' :: H) (fun q => (T q ∨ q = w13.heap.size) ∨ ((w14.alloc (.cells #[.string ⟨tx.toArray⟩] 9)).heap.size ≤ q ∧ q < w15.heap.size)) (m + 1)) := tZ ⟨⟨by have := HB.out.len; simp; omega, fun fs hf => by
        rcases List.mem_cons.1 hf with rfl | hf
        ·exact HOK.out
        ·exact HB.out.hs.ok fs hf⟩, Nat.succ_le_succ HB.out.le, by have := HB.out.len; simp; omega, (H14.out.2.next (bZ _)).grownT hgrow (fun q hq => by simp [Value.ownBlock] at hq; subst hq; exact ⟨Or.inl htg, (HB.out.own.lt _ rfl).1⟩), by
        rw [hsT_cons H (by have := HB.out.len; omega) fs', HTX.out]
        simpa [strs] using hown, fun q hq => by
        simp [Value.ownBlock] at hq
        subst hq
        rcases hat with h | h
        ·simp [Value.ownBlock] at h
         subst h
         exact Or.inl (Or.inl htg)
        ·refine Or.inr ⟨?_, hlt⟩
         rw [h]
         simp, HB.out.bot⟩
      go_wp2_with fail
      go_roundg (20 - (j + 1))
      case measure => exact HUP.out.2.2.2
      case rel => exact ⟨j + 1, HUP.out.1, HUP.out.2.1, HUP.out.2.2.1, by simp, tZ ⟨_, _, _, HFIN.out⟩⟩
    ·have hl2 : ¬ (j : Int) < 20 := al_ge hjm
     go_wp2_with fail
     go_meet
     exact ⟨j, m, g, c, hm20, rfl, tZ ⟨H, T, HB.out⟩⟩
   ·have hl1 : ¬ (j : Int) < (len : Int) := al_ge hjn
    go_wp2_with fail
    go_meet
    exact ⟨j, m, g, c, hm20, rfl, tZ ⟨H, T, HB.out⟩⟩
 case rest =>
 obtain ⟨j, m, g, c, hm20, rfl, HX⟩ := hcut
 generalize wc = wr at *
 go_upto_if 81 with fail
 go_cut [8, 12] (fun l n wc => ∃ N g o c : Nat, N ≤ 6 ∧ l = .slice (some ⟨g, o, none⟩) (N + 1) c ∧ n = .int .i64 (N : Int) ∧ Hid (∃ H T, BkT W0 e M N g o wc H T 0))
 case first =>
  obtain ⟨H, T, hi'⟩ := HX.out
  have HB := tZ hi'
  obtain ⟨g1, c1, hv1, hgl, hcap, hgc⟩ := hi'.slice
  obtain ⟨rfl, rfl⟩ : g = g1 ∧ c = c1 := by cases hv1; exact ⟨rfl, rfl⟩
  have HCAP := tZ hcap
  have HC := tZ hgc
  clear hi' hcap hgc hv1
  rcases Nat.lt_or_ge M (m + 1) with hMm | hMm
  ·obtain ⟨d, rfl⟩ : ∃ d, m = M + d := bk_sub hMm
   obtain ⟨c', rfl⟩ : ∃ c', c = M + d + 1 + c' := bk_add HCAP.out
   have hM1 : (M : Int) < ((M + d : Nat) : Int) + 1 := bk_lt hMm
   have hmi : min (M : Int) ((M + d : Nat) : Int) = (M : Int) := bk_min hMm
   have hsb := bk_cut (M := M) (d := d)
   have hs1 := bk_c1 (M := M) (d := d)
   have hs2 := bk_c2 (M := M) (d := d) (c := c')
   go_wp2_with fail
   go_meet
   exact ⟨M, g, d, _, hM7, rfl, rfl, tZ ⟨H, T, HB.out.toT1⟩⟩
  ·have hM1 : ¬ (M : Int) < (m : Int) + 1 := bk_nlt hMm
   have HLIT := tZ (World.ownsRow_lit (base := W0.heap.size) wr (e := 9) (size := 1) #[.string ⟨#[]⟩] 1 HB.out.sts.low.size (by decide) rfl)
   have HNW : Hid (∀ j u, (strs (hsT H))[j]? = some u → (wr.alloc (.cells #[.string ⟨#[]⟩] 9)).cell? ((⟨g, 0, none⟩ : Addr).add j) = some u) := tZ fun j u hj => by
    unfold strs at hj
    rw [List.getElem?_map] at hj
    obtain ⟨t, ht, rfl⟩ := Option.map_eq_some_iff.1 hj
    have := HC.out j t ht
    rw [← ((bZ (.cells #[.string ⟨#[]⟩] 9)).cell (p := ⟨g, j, none⟩) hgl)] at this
    have e1 : (⟨g, 0, none⟩ : Addr).add j = ⟨g, j, none⟩ := by cases j <;> simp [Addr.add]
    rw [e1]
    exact this
   have HLN : Hid ((strs (hsT H)).length = (m + 1) * 1) := tZ (by have := HB.out.len; simp [strs, hsT_len]; omega)
   have HSZ := tZ HB.out.sts.low.size
   go_wp2_with (first | (at_builtin; refine wpList_append_lies _ rfl (.tmp 92) (.tmp 93) 24 rfl W0.heap.size 9 i0 (.string ⟨#[]⟩) 1 16 Tryz.underlying24 hi hz0 hz1 hz2 rfl (by decide) (.slice (some ⟨wr.heap.size, 0, none⟩) 1 1) 1 _ rfl HLIT.out ⟨g, 0, none⟩ (m + 1) c (strs (hsT H)) rfl HLN.out HNW.out (fun u hu => by simp [strs] at hu; obtain ⟨t, _, rfl⟩ := hu; rfl) (Nat.succ_pos _) (bk_my hm20).1 (bk_my hm20).2 (Nat.le_trans HSZ.out (by simp)) (wr.heap.size + 1) (by simp) ?_; intro g' cap' w15 hown hgrow hat hlt; refine Hid.out ?_))
   refine tZ ?_
   go_wp2_with fail
   go_meet
   have hTl : (fun q => T q ∨ (wr.heap.size ≤ q ∧ q < (wr.alloc (.cells #[.string ⟨#[]⟩] 9)).heap.size)) wr.heap.size := Or.inr ⟨Nat.le_refl _, by simp⟩
   refine ⟨m + 1, g', 0, cap', Nat.le_trans hMm hM7, by rw [Nat.add_comm 1 (m + 1)], by simp, tZ ⟨H, _, HB.out.toT2 hMm ((HB.out.sts.grow (bZ _)).grownT hgrow fun q hq => ?_) ?_ (by simpa using hown)⟩⟩
   ·simp [Value.ownBlock] at hq
    subst hq
    exact ⟨hTl, HB.out.sts.low.size⟩
   ·rcases hat with h | h
    ·simp [Value.ownBlock] at h
     subst h
     exact Or.inl hTl
    ·exact Or.inr ⟨by rw [h]; simp, hlt⟩
 case rest =>
 obtain ⟨N, g, o, c, hN6, rfl, rfl, HX⟩ := hcut
 obtain ⟨H, T, hT⟩ := HX.out
 have HT := tZ hT
 have hN6' : (N : Int) ≤ 6 := Int.ofNat_le.2 hN6
 clear hT HX
 generalize wc = w7 at *
 go_wp2_with fail
 go_loopg [13, 14] N (fun gk i _ wr => ∃ t r : Nat, t + r = N ∧ r ≤ gk ∧ i = .int .i64 ((r : Int) - 1) ∧ Hid (BkT W0 e M N g o wr H T t))
 case atStart => exact ⟨0, N, Nat.zero_add _, Nat.le_refl _, rfl, HT⟩
 case round =>
  obtain ⟨t, r, htr, hgk, hi', HI⟩ := hrel
  cases r with
  | succ r =>
   obtain ⟨hd1, hd2, hd3, hd4, hd5⟩ := bk_d1 htr hgk
   obtain ⟨hr1, hr2⟩ := bk_d2 hd2 hN6
   rw [bk_d3] at hi'
   subst hi'
   have HD := tZ (HI.out.down hd1)
   have HUP := tZ (And.intro hd4 hd5)
   have hr0 : (0 : Int) ≤ (r : Int) := Int.natCast_nonneg r
   have HEQ := tZ hd3
   have HRN := tZ hd2
   clear hd1 hd2 hd3 hd4 hd5 htr hgk
   go_wp2_with (first | (go_at_call 19; refine (oneD HI.out.sts HE.out HL.out isLn_undo HD.out rfl).mono ?_; rintro rv w8 ⟨rfl, h1⟩; have H8 := tZ (HI.out.kt h1); clear h1; refine Hid.out ?_))
   refine tZ ?_
   obtain ⟨tx, htx⟩ : ∃ tx, lsA (H.getD (t + 1) []) = tx := ⟨_, rfl⟩
   have hc8 := H8.out.cell r HRN.out
   rw [HEQ.out, htx] at hc8
   have HTD : Hid (∀ W, Below w8.heap.size w8 W → Calls Tryz.prog 30 #[.pointer (some ⟨e, 0, none⟩)] W fun r w' => r = .returned (.string ⟨tx.toArray⟩) ∧ BkT W0 e M N g o w' H T (t + 1)) := tZ fun W hW => by
    refine (oneT (H8.out.next hW).sts HE.out HL.out rfl).mono ?_
    rintro rv w' ⟨rfl, h1⟩
    exact ⟨by rw [← htx]; rfl, (H8.out.next hW).kt h1⟩
   have HTX := tZ htx
   clear htx
   have htt : (tx == tx) = true := by simp
   go_wp2_with fail
   go_cut [115] (fun s wc => s = .bool false ∧ Hid (BkT W0 e M N g o wc H T (t + 1)))
   case first =>
    go_region_held3 (fun w' => w'.cell? ⟨g, o + r, none⟩ = some (.string ⟨tx.toArray⟩)) (first | go_keep | exact hc9 | exact hc8) (first | (go_at_call 30; refine (HTD.out _ (Below.refl _ _).drew).mono ?_; rintro rv w9 ⟨rfl, h9⟩; have C9 := tZ h9; have hc9 := h9.cell r HRN.out; rw [HEQ.out, HTX.out] at hc9; clear h9))
    all_goals (go_wp2_with fail; go_meet; exact ⟨rfl, C9⟩)
   case rest =>
    obtain ⟨rfl, HC9⟩ := hcut
    go_wp2_with fail
    go_roundg r
    case measure => exact HUP.out.2
    case rel => exact ⟨t + 1, r, HUP.out.1, Nat.le_refl _, by simp, HC9⟩
  | zero =>
   subst hi'
   have HI2 : Hid (BkT W0 e M N g o wr H T N) := tZ (by have h := HI.out; rwa [show t = N from htr] at h)
   have HD := tZ HI2.out.noDown
   clear HI htr hgk HT
   go_wp2_with (first | (go_at_call 20; refine (oneE 0 HI2.out.sts HE.out HL.out isLn_undo HD.out rfl rfl).mono ?_; rintro rv w8 ⟨bn, cn, rfl, h1, h3, h4⟩; have H8 := tZ (HI2.out.kt h3); clear h1 h3 h4; refine Hid.out ?_))
   refine tZ ?_
   have HX : Hid (∃ T2, BkT W0 e M N g o (w8.alloc (.cells #[.int .i64 11, .int .i64 0, .string ⟨#[]⟩, .slice bn 0 cn, .int .i64 0, .int .i64 0] 39)) H T2 N ∧ T2 w8.heap.size) := tZ ⟨_, H8.out.add, Or.inr rfl⟩
   have HR9 := tZ (heap_alloc_new w8 (.cells #[.int .i64 11, .int .i64 0, .string ⟨#[]⟩, .slice bn 0 cn, .int .i64 0, .int .i64 0] 39))
   go_wp2_with fail
   generalize w8.alloc (.cells #[.int .i64 11, .int .i64 0, .string ⟨#[]⟩, .slice bn 0 cn, .int .i64 0, .int .i64 0] 39) = w9 at *
   generalize w8.heap.size = q at *
   obtain ⟨T2, hT2⟩ := HX.out
   have HT2 := tZ hT2
   have HTq := tZ hT2.2
   clear hT2 HX H8 HD HI2
   go_loopg [16, 17] N (fun gk i _ wr => ∃ s t : Nat, 1 ≤ s ∧ s + t = N + 1 ∧ t ≤ gk ∧ i = .int .i64 (s : Int) ∧ Hid (BkT W0 e M N g o wr H T2 t ∧ wr.heap[q]? = some (.cells #[.int .i64 11, .int .i64 0, .string ⟨#[]⟩, .slice bn 0 cn, .int .i64 0, .int .i64 0] 39 (0, 0))))
   case atStart => exact ⟨1, N, Nat.le_refl _, Nat.add_comm _ _, Nat.le_refl _, rfl, tZ ⟨HT2.out.1, HR9.out⟩⟩
   case round =>
    obtain ⟨s, t, hs1, hst, hgk, rfl, HI⟩ := hrel
    cases t with
    | succ t =>
     obtain ⟨hd1, hd2, hd3, hd4, hd5⟩ := bk_u1 hs1 hst hgk
     obtain ⟨hr1, hr2, hr3⟩ := bk_u2 hd2 hN6
     have HD := tZ (HI.out.1.up hd1)
     have HUP := tZ (And.intro hd4 hd5)
     have HEQ := tZ hd3
     have HRN := tZ hd2
     clear hd1 hd2 hd3 hd4 hd5 hst hgk
     go_wp2_with (first | (go_at_call 19; refine (oneD HI.out.1.sts HE.out HL.out isLn_redo HD.out rfl).mono ?_; rintro rv w10 ⟨rfl, h1⟩; have H10 := tZ (And.intro (HI.out.1.kt h1) ((h1.1.block q HTq.out).trans HI.out.2)); clear h1; refine Hid.out ?_))
     refine tZ ?_
     obtain ⟨tx, htx⟩ : ∃ tx, lsA (H.getD t []) = tx := ⟨_, rfl⟩
     have hc10 := H10.out.1.cell s HRN.out
     rw [HEQ.out, htx] at hc10
     have HTD : Hid (∀ W, Below w10.heap.size w10 W → Calls Tryz.prog 30 #[.pointer (some ⟨e, 0, none⟩)] W fun r w' => r = .returned (.string ⟨tx.toArray⟩) ∧ BkT W0 e M N g o w' H T2 t ∧ w'.heap[q]? = some (.cells #[.int .i64 11, .int .i64 0, .string ⟨#[]⟩, .slice bn 0 cn, .int .i64 0, .int .i64 0] 39 (0, 0))) := tZ fun W hW => by
      refine (oneT (H10.out.1.next hW).sts HE.out HL.out rfl).mono ?_
      rintro rv w' ⟨rfl, h1⟩
      exact ⟨by rw [← htx]; rfl, (H10.out.1.next hW).kt h1, (h1.1.block q HTq.out).trans ((hW.block q (H10.out.1.sts.tlt q HTq.out)).trans H10.out.2)⟩
     have HTX := tZ htx
     clear htx
     have htt : (tx == tx) = true := by simp
     go_wp2_with fail
     go_cut [135] (fun s wc => s = .bool false ∧ Hid (BkT W0 e M N g o wc H T2 t ∧ wc.heap[q]? = some (.cells #[.int .i64 11, .int .i64 0, .string ⟨#[]⟩, .slice bn 0 cn, .int .i64 0, .int .i64 0] 39 (0, 0))))
     case first =>
      go_region_held3 (fun w' => w'.cell? ⟨g, o + s, none⟩ = some (.string ⟨tx.toArray⟩)) (first | go_keep | exact hc11 | exact hc10) (first | (go_at_call 30; refine (HTD.out _ (Below.refl _ _).drew).mono ?_; rintro rv w11 ⟨rfl, h11⟩; have C11 := tZ h11; have hc11 := h11.1.cell s HRN.out; rw [HEQ.out, HTX.out] at hc11; clear h11))
      all_goals (go_wp2_with fail; go_meet; exact ⟨rfl, C11⟩)
     case rest =>
      obtain ⟨rfl, HC11⟩ := hcut
      go_wp2_with fail
      go_roundg t
      case measure => exact HUP.out.2
      case rel => exact ⟨s + 1, t, Nat.le_add_left _ _, HUP.out.1, Nat.le_refl _, by simp, HC11⟩
    | zero =>
     have hz3 := bk_u3 hst
     have HU := tZ (bk_noUp (M := M) H)
     clear hst hgk
     go_wp2_with (first | (go_at_call 20; refine (oneE 0 HI.out.1.sts HE.out HL.out isLn_redo HU.out rfl rfl).mono ?_; rintro rv w11 ⟨bn2, cn2, rfl, h1, h3, h4⟩; have H11 := tZ (And.intro (HI.out.1.kt h3) ((h3.1.block q HTq.out).trans HI.out.2)); clear h1 h3 h4; refine Hid.out ?_))
     refine tZ ?_
     have H12 := tZ (H11.out.1.add (o' := .cells #[.int .i64 11, .int .i64 0, .string ⟨#[]⟩, .slice bn2 0 cn2, .int .i64 0, .int .i64 0] 39))
     have HR12 := tZ (heap_alloc_new w11 (.cells #[.int .i64 11, .int .i64 0, .string ⟨#[]⟩, .slice bn2 0 cn2, .int .i64 0, .int .i64 0] 39))
     obtain ⟨⟨m0, m1, m2, m3, m4, m5⟩, _, hsz⟩ := row6 (((bZ (.cells #[.int .i64 11, .int .i64 0, .string ⟨#[]⟩, .slice bn2 0 cn2, .int .i64 0, .int .i64 0] 39)).block q (H11.out.1.sts.tlt q HTq.out)).trans H11.out.2)
     obtain ⟨⟨n0, n1, n2, n3, n4, n5⟩, _, hsz2⟩ := row6 HR12.out
     rcases Nat.eq_zero_or_pos N with h0 | h0
     ·subst h0
      go_wp2_with fail
      exact bodyPost_ret (v := .bool true) (by simp [results, Tryz.results11, go_sem]) (by simp [go_sem]) ⟨rfl, H12.out.sts.low⟩
     ·have hN0 := bk_n0 h0
      have HD := tZ (H12.out.down h0)
      obtain ⟨fs', nm, hy1, hy2⟩ := H12.out.sety (Nat.ne_of_gt h0)
      have HY := tZ hy1
      have HV := tZ hy2
      clear hy1 hy2
      go_wp2_with (first | (go_at_call 19; refine (oneD H12.out.sts HE.out HL.out isLn_undo HD.out rfl).mono ?_; rintro rv w13 ⟨rfl, h1⟩; have H13 := tZ h1.2; clear h1; refine Hid.out ?_))
      refine tZ ?_
      clear m0 m1 m2 m3 m4 m5 n0 n1 n2 n3 n4 n5 hsz hsz2
      go_wp2_with (first | (go_at_call 19; refine (oneD H13.out HE.out HL.out (isLn_y 9 (by decide)) HY.out rfl).mono ?_; rintro rv w14 ⟨rfl, h1⟩; have H14 := tZ h1.2; clear h1; refine Hid.out ?_))
      refine tZ ?_
      go_wp2_with (first | (go_at_call 20; refine (oneE 0 H14.out HE.out HL.out isLn_redo bk_noFut rfl rfl).mono ?_; rintro rv w15 ⟨bn3, cn3, rfl, h1, h3, h4⟩; have H15 := tZ h3; clear h1 h3 h4; refine Hid.out ?_))
      refine tZ ?_
      have H16 := tZ (H15.out.add1 (o := .cells #[.int .i64 11, .int .i64 0, .string ⟨#[]⟩, .slice bn3 0 cn3, .int .i64 0, .int .i64 0] 39))
      have HR16 := tZ (heap_alloc_new w15 (.cells #[.int .i64 11, .int .i64 0, .string ⟨#[]⟩, .slice bn3 0 cn3, .int .i64 0, .int .i64 0] 39))
      obtain ⟨⟨m0, m1, m2, m3, m4, m5⟩, _, hsz⟩ := row6 HR16.out
      go_wp2_with (first | (go_at_call 26; refine (oneI H16.out HE.out HL.out rfl nm_y nmo_y HV.out).mono ?_; rintro rv w17 ⟨rfl, h1⟩; have H17 := tZ h1.2.low; clear h1; refine Hid.out ?_))
      refine tZ ?_
      go_wp2
      exact bodyPost_ret (v := .bool true) (by simp [results, Tryz.results11, go_sem]) (by simp [go_sem]) ⟨rfl, H17.out⟩
end
end Go.Proofs.YtihgojcfpnhelaaGreatDoor
