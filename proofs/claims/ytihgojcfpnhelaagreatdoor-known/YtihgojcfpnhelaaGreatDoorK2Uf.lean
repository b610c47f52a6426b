import Derived.Test.YtihgojcfpnhelaaGreatDoorR2Ii
import Derived.Test.YtihgojcfpnhelaaGreatDoorR2Nh
set_option maxRecDepth 100000
set_option maxHeartbeats 4000000
set_option linter.unusedVariables false
set_option linter.unusedSimpArgs false
namespace Go.Proofs.YtihgojcfpnhelaaGreatDoor
open Go.RowKit
section
attribute [local go_sem] idx_eq app_eq ext_eq
theorem valD_snoc (t : By) (x : UInt8) : valD (t ++ [x]) = 10 * valD t + (x.toNat - 48) := by simp [valD]
end
section
theorem Der.two {ts : List (By × Nat)} {i j j' k n : Nat} {a b : Pt} (h1 : 1 ≤ n) (h5 : n ≤ 5) (ha : Der ts 6 i j a) (hs : inB (tAt ts j) (sgn n) = true) (hc : Cls (tAt ts j) k) (hb : Der ts 6 (j + 1) j' b) : Der ts 1 i j' (.bin k a b) := by
 have h : Der ts n i j' (.bin k a b) := .more n i j j' k a b h1 h5 (by split <;> exact ha.at6 _ (by omega) (by omega)) hs hc (hb.at6 _ (by omega) (by omega))
 have e : 1 + (n - 1) = n := by omega
 exact Der.ups (n - 1) 1 (by rw [e]; exact h) (by omega) (by omega)
end
section
theorem RIp.le {n m m' : Nat} {s : By} {p : Pt} (h : RIp n s m p) (hm : m ≤ m') : RIp n s m' p := by
 obtain ⟨its, a, b, c, d, e, f⟩ := h
 exact ⟨its, a, b, c, d, e, by omega⟩
end
section
theorem dd_len : ∀ (k u : Nat), u < 10 ^ (k + 1) → (Lib.decDigits u).length ≤ k + 1
 | 0, u, h => by rw [Lib.decDigits, dif_pos (by omega)]; simp
 | k + 1, u, h => by
  rw [Lib.decDigits]
  split
  ·simp
  ·have := dd_len k (u / 10) (by rw [Nat.pow_succ] at h; omega)
   simp
   exact this
theorem dig_ofNat (d : Nat) (h : d < 10) : isD (UInt8.ofNat (48 + d)) = true ∧ (UInt8.ofNat (48 + d)).toNat - 48 = d := by
 rcases (show d = 0 ∨ d = 1 ∨ d = 2 ∨ d = 3 ∨ d = 4 ∨ d = 5 ∨ d = 6 ∨ d = 7 ∨ d = 8 ∨ d = 9 by omega) with rfl | rfl | rfl | rfl | rfl | rfl | rfl | rfl | rfl | rfl <;> decide
theorem dd_facts (n : Nat) : AllD (Lib.decDigits n) ∧ valD (Lib.decDigits n) = n ∧ Lib.decDigits n ≠ [] := by
 induction n using Nat.strongRecOn with
 | ind n ih =>
  rw [Lib.decDigits]
  split
  ·rename_i h
   obtain ⟨h1, h2⟩ := dig_ofNat n h
   refine ⟨fun x hx => ?_, ?_, by simp⟩
   ·rw [List.mem_singleton.1 hx]
    exact h1
   ·simp only [valD, List.foldl_cons, List.foldl_nil]
    omega
  ·rename_i h
   obtain ⟨a1, a2, a3⟩ := ih (n / 10) (by omega)
   obtain ⟨h1, h2⟩ := dig_ofNat (n % 10) (by omega)
   refine ⟨fun x hx => ?_, ?_, by simp⟩
   ·rcases List.mem_append.1 hx with hx | hx
    ·exact a1 x hx
    ·rw [List.mem_singleton.1 hx]
     exact h1
   ·rw [valD_snoc, a2, h2]
    omega
end
section
attribute [local go_sem] idx_eq app_eq
theorem is_ok (e : Nat) (s : By) (w : World) (Q : World → Prop) (n : Int)
  (hD : Calls Tryz.prog 24 #[.pointer (some ⟨e, 0, none⟩), .string ⟨s.toArray⟩] w fun r w' => r = .returned (.tuple #[.int .i64 1, .int .i64 n]) ∧ Q w') :
  Calls Tryz.prog 26 #[.pointer (some ⟨e, 0, none⟩), .string ⟨s.toArray⟩, .int .i64 n] w fun r w' => r = .returned (.bool true) ∧ Q w' := by
 have HD := tZ hD
 have hnb : (n == n) = true := by simp
 clear hD
 go_enter Tryz.func26, Tryz.ntmps26
 go_wp2_with (first | (go_at_call 24; refine HD.out.mono ?_; rintro r w1 ⟨rfl, hq⟩; have HQ := tZ hq; clear hq))
 go_ret
 exact ⟨rfl, HQ.out⟩
theorem itoaI (n : Int) (h0 : -9223372036854775808 ≤ n) (h1 : n ≤ 9223372036854775807) (w : World) (hE : Env w) :
  Calls Tryz.prog 73 #[.int .i64 n] w fun e w' => e = .returned (.string ⟨(Lib.itoa n).toArray⟩) ∧ Below w.heap.size w w' := by
 have H := tZ (show Calls Tryz.prog 108 #[.int .i64 n, .int .i64 10] w fun e w' => e = .returned (.string ⟨(Lib.itoa n).toArray⟩) ∧ ∃ k os, w' = Go.Sort.grow (w.drewN k) os from Any.internal_strconv_FormatInt_10 { Tryz.laysM173 with } n h0 h1 w hE.pow)
 clear hE
 go_enter Tryz.func73, Tryz.ntmps73
 go_wp2_with (first | (go_at_call 108; refine H.out.mono ?_; rintro e w1 ⟨rfl, k, os, rfl⟩))
 go_ret
 exact ⟨rfl, below_growN w k os⟩
theorem itoaB (n : Int) (h0 : -9223372036854775808 ≤ n) (h1 : n ≤ 9223372036854775807) (w : World) (hE : Env w) :
  Calls Tryz.prog 50 #[.int .i64 n] w fun e w' => e = .returned (.string ⟨(Lib.itoa n).toArray⟩) ∧ Below w.heap.size w w' := by
 have H := tZ (itoaI n h0 h1 w hE)
 clear hE
 go_enter Tryz.func50, Tryz.ntmps50
 go_wp2_with (first | (go_at_call 73; refine H.out.mono ?_; rintro e w1 ⟨rfl, hb1⟩))
 go_ret
 exact ⟨rfl, hb1⟩
theorem num22 (m : Nat) (hm : m ≤ top63) (w : World) (hE : Env w) :
  Calls Tryz.prog 23 #[.int .i64 (m : Int)] w fun e w' => e = .returned (.string ⟨(Lib.decDigits m).toArray⟩) ∧ Below w.heap.size w w' := by
 have H := tZ (itoaB (m : Int) (by omega) (by unfold top63 at hm; omega) w hE)
 rw [Lib.itoa_nonneg] at H
 clear hE
 go_enter Tryz.func23, Tryz.ntmps23
 go_wp2_with (first | (go_at_call 50; refine H.out.mono ?_; rintro e w1 ⟨rfl, hb1⟩))
 go_ret
 exact ⟨rfl, hb1⟩
end
section
theorem der3 (x op y : By) (q1 q2 q3 kx ky ko n : Nat) (h1 : 1 ≤ n) (h5 : n ≤ 5) (hx : Cls x kx) (hkx : kx = 1 ∨ kx = 2 ∨ kx = 7 ∨ kx = 8) (hy : Cls y ky) (hky : ky = 1 ∨ ky = 2 ∨ ky = 7 ∨ ky = 8) (hs : inB op (sgn n) = true) (hc : Cls op ko) :
  Der [(x, q1), (op, q2), (y, q3)] 1 0 3 (.bin ko (.atom kx (nmB x) (nuB x)) (.atom ky (nmB y) (nuB y))) :=
 Der.two (j := 1) h1 h5 (Der.atom (ts := [(x, q1), (op, q2), (y, q3)]) 0 kx (by simp) hx hkx) hs hc (Der.atom (ts := [(x, q1), (op, q2), (y, q3)]) 2 ky (by simp) hy hky)
theorem cls_fN (i : Nat) (h : i < 10) : Cls (fN i) 2 := Or.inr (Or.inl ⟨(fN_facts i h).2.2.2.1, (fN_facts i h).2.2.2.2.1, rfl⟩)
theorem atom_fN (i : Nat) (h : i < 10) : Pt.atom 2 (nmB (fN i)) (nuB (fN i)) = nmP i := by
 obtain ⟨_, h2, h3, _⟩ := fN_facts i h
 rw [h2, h3]
 rfl
theorem toks_add : ∀ j, j < 10 → toks ((fN j ++ [32, 43, 32, 49]).length + 2 + 1) (fN j ++ [32, 43, 32, 49]) (4 + 2 + 3) = ([(fN j, 9), ([43], 12), ([49], 14)], none) := by decide
theorem isLn_add (i j : Nat) (hi : i < 10) (hj : j < 10) : IsLn (setN (fN i) (fN j ++ [32, 43, 32, 49])) (.set (fN i) (.bin 12 (nmP j) (dgP 1))) :=
 isLn_set (fN_ok i hi) (fN_o i) (by simp [fN]) (toks_add j hj) (by
  rw [← atom_fN j hj, ← atom_dg 1 (by omega)]
  exact der3 (fN j) [43] (dg 1) 9 12 14 2 1 12 4 (by omega) (by omega) (cls_fN j hj) (by omega) (cls_dg 1 (by omega)) (by omega) (by decide) (Or.inr (Or.inr (Or.inr (by decide))))) (by simp [nmP, dgP, opn]) (txt_small j hj).2.1
end
section
theorem RIp.reads {s : By} {m : Nat} {p : Pt} (h : RIp 1 s m p) (f k : Nat) (hf : s.length ≤ f) : ∃ ts, toks f s k = (ts, none) ∧ Der ts 1 0 ts.length p := by
 obtain ⟨its, rfl, hg, ho, hD, ht, hop⟩ := h
 refine ⟨_, toks_items its f k (ho [] (Or.inl rfl)) hf, ?_⟩
 have hlen : (tokI its k).length = (tks its).length := by rw [← tokI_fst its k, List.length_map]
 rw [hlen]
 have := hD.like (ts' := tokI its k) 0 (fun i _ _ => ?_) (by omega)
 ·exact this
 ·rw [tAt_z0, tAt_fst, tokI_fst]
  exact Or.inl rfl
theorem RIp.facts {n m : Nat} {s : By} {p : Pt} (h : RIp n s m p) : txt p = s ∧ opn p ≤ m := by
 obtain ⟨its, _, _, _, _, ht, hop⟩ := h
 exact ⟨ht, hop⟩
end
section
def OwB (w : World) (v : Value) (nm : List By) (w' : World) : Prop := w'.ownsRow (w.heap.size + 2) 9 1 v nm.length (strs nm) ∧ Below w.heap.size w w'
theorem OwB.set {w w' : World} {v : Value} {nm : List By} (h : OwB w v nm w') {q : Nat} (hq : w.heap.size ≤ q ∧ q < w.heap.size + 2) (j : Nat) (u : Value) : OwB w v nm (w'.setCell ⟨q, j, none⟩ u) := ⟨own_set h.1 hq.2, h.2.setCell hq.1 u⟩
theorem tellOrder (e : Nat) (an0 : Option Addr) (ln0 cn0 : Nat) (nm : List By) (w : World)
  (hS : ∀ W, Below w.heap.size w W → Calls Tryz.prog 105 #[.pointer (some ⟨e, 0, none⟩)] W fun r w' => ∃ bn ln cn, r = .returned (.slice bn ln cn) ∧ w'.ownsRow W.heap.size 9 1 (.slice bn ln cn) nm.length (strs nm) ∧ Below W.heap.size W w') :
  Calls Tryz.prog 70 #[.pointer (some ⟨e, 0, none⟩), .agg #[.int .i64 12, .slice an0 ln0 cn0, .int .i64 0, .string ⟨#[]⟩, .int .i64 0, .slice none 0 0]] w fun r w' => ∃ bn ln cn, r = .returned (.agg #[.int .i64 0, .int .i64 0, .string ⟨#[]⟩, .slice bn ln cn, .int .i64 0, .int .i64 0]) ∧ w'.ownsRow w.heap.size 9 1 (.slice bn ln cn) nm.length (strs nm) ∧ Below w.heap.size w w' := by
 have HS2 := tZ (hS ((w.alloc (.cells #[.int .i64 12, .slice an0 ln0 cn0, .int .i64 0, .string ⟨#[]⟩, .int .i64 0, .slice none 0 0] 97)).alloc (.cells #[.int .i64 0, .int .i64 0, .string ⟨#[]⟩, .slice none 0 0, .int .i64 0, .int .i64 0] 39)) (below2 _ _ _))
 clear hS
 go_enter Tryz.func70, Tryz.ntmps70
 go_wp2_with (first | (go_at_call 105; refine HS2.out.mono ?_; rintro r w3 ⟨bn, ln, cn, rfl, hown, hb3⟩; refine Hid.out ?_))
 have hr : w3.heap[w.heap.size + 1]? = some (.cells #[.int .i64 0, .int .i64 0, .string ⟨#[]⟩, .slice none 0 0, .int .i64 0, .int .i64 0] 39 (0, 0)) := (hb3.block _ (by simp)).trans (alloc2_new' w _ _ _)
 obtain ⟨⟨k0, k1, k2, k3, k4, k5⟩, ⟨f0, f1, f2, f3, f4, f5⟩, hsz⟩ := row6 hr
 have hF := setCell_block (setCell_block (setCell_block (setCell_block (setCell_block (setCell_block (setCell_block hr 3 (.slice bn ln cn)) 0 (.int .i64 0)) 1 (.int .i64 0)) 2 (.string ⟨#[]⟩)) 3 (.slice bn ln cn)) 4 (.int .i64 0)) 5 (.int .i64 0)
 obtain ⟨⟨F0, F1, F2, F3, F4, F5⟩, _, Fs⟩ := row6 (show _ = some (Obj.cells #[.int .i64 0, .int .i64 0, .string ⟨#[]⟩, .slice bn ln cn, .int .i64 0, .int .i64 0] 39 (0, 0)) from hF)
 have HF := tZ (And.intro F0 (And.intro F1 (And.intro F2 (And.intro F3 (And.intro F4 (And.intro F5 Fs))))))
 have HBF := tZ (show OwB w (.slice bn ln cn) nm (((((((w3.setCell ⟨w.heap.size + 1, 3, none⟩ (.slice bn ln cn)).setCell ⟨w.heap.size + 1, 0, none⟩ (.int .i64 0)).setCell ⟨w.heap.size + 1, 1, none⟩ (.int .i64 0)).setCell ⟨w.heap.size + 1, 2, none⟩ (.string ⟨#[]⟩)).setCell ⟨w.heap.size + 1, 3, none⟩ (.slice bn ln cn)).setCell ⟨w.heap.size + 1, 4, none⟩ (.int .i64 0)).setCell ⟨w.heap.size + 1, 5, none⟩ (.int .i64 0)) from by
  have hB : Below w.heap.size w w3 := (below2 _ _ _).trans (hb3.mono (by simp; omega))
  have e2 : ((w.alloc (.cells #[.int .i64 12, .slice an0 ln0 cn0, .int .i64 0, .string ⟨#[]⟩, .int .i64 0, .slice none 0 0] 97)).alloc (.cells #[.int .i64 0, .int .i64 0, .string ⟨#[]⟩, .slice none 0 0, .int .i64 0, .int .i64 0] 39)).heap.size = w.heap.size + 2 := by simp
  rw [e2] at hown
  iterate 7 refine OwB.set ?_ (by omega) _ _
  exact ⟨hown, hB⟩)
 clear F0 F1 F2 F3 F4 F5 Fs hF hr hb3 HS2 hown
 refine tZ ?_
 go_wp2
 generalize (((((((w3.setCell ⟨w.heap.size + 1, 3, none⟩ (.slice bn ln cn)).setCell ⟨w.heap.size + 1, 0, none⟩ (.int .i64 0)).setCell ⟨w.heap.size + 1, 1, none⟩ (.int .i64 0)).setCell ⟨w.heap.size + 1, 2, none⟩ (.string ⟨#[]⟩)).setCell ⟨w.heap.size + 1, 3, none⟩ (.slice bn ln cn)).setCell ⟨w.heap.size + 1, 4, none⟩ (.int .i64 0)).setCell ⟨w.heap.size + 1, 5, none⟩ (.int .i64 0)) = WF at *
 obtain ⟨F0, F1, F2, F3, F4, F5, Fs⟩ := HF.out
 refine bodyPost_ret (v := .agg #[.int .i64 0, .int .i64 0, .string ⟨#[]⟩, .slice bn ln cn, .int .i64 0, .int .i64 0]) (by simp [results, Tryz.results70, go_sem, F0, F1, F2, F3, F4, F5]) (by simp [go_sem]) ?_
 exact ⟨bn, ln, cn, rfl, own_base HBF.out.1 (by omega), HBF.out.2⟩
theorem tellList (e : Nat) (an0 : Option Addr) (ln0 cn0 : Nat) (tx : By) (w : World)
  (hS : ∀ W, Below w.heap.size w W → Calls Tryz.prog 104 #[.pointer (some ⟨e, 0, none⟩)] W fun r w' => r = .returned (.string ⟨tx.toArray⟩) ∧ Below W.heap.size W w') :
  Calls Tryz.prog 70 #[.pointer (some ⟨e, 0, none⟩), .agg #[.int .i64 11, .slice an0 ln0 cn0, .int .i64 0, .string ⟨#[]⟩, .int .i64 0, .slice none 0 0]] w fun r w' => r = .returned (.agg #[.int .i64 0, .int .i64 0, .string ⟨tx.toArray⟩, .slice none 0 0, .int .i64 0, .int .i64 0]) ∧ Below w.heap.size w w' := by
 have HS2 := tZ (hS ((w.alloc (.cells #[.int .i64 11, .slice an0 ln0 cn0, .int .i64 0, .string ⟨#[]⟩, .int .i64 0, .slice none 0 0] 97)).alloc (.cells #[.int .i64 0, .int .i64 0, .string ⟨#[]⟩, .slice none 0 0, .int .i64 0, .int .i64 0] 39)) (below2 _ _ _))
 clear hS
 go_enter Tryz.func70, Tryz.ntmps70
 go_wp2_with (first | (go_at_call 104; refine HS2.out.mono ?_; rintro r w3 ⟨rfl, hb3⟩; refine Hid.out ?_))
 have hr : w3.heap[w.heap.size + 1]? = some (.cells #[.int .i64 0, .int .i64 0, .string ⟨#[]⟩, .slice none 0 0, .int .i64 0, .int .i64 0] 39 (0, 0)) := (hb3.block _ (by simp)).trans (alloc2_new' w _ _ _)
 obtain ⟨⟨k0, k1, k2, k3, k4, k5⟩, ⟨f0, f1, f2, f3, f4, f5⟩, hsz⟩ := row6 hr
 have hF := setCell_block (setCell_block (setCell_block (setCell_block (setCell_block (setCell_block (setCell_block hr 2 (.string ⟨tx.toArray⟩)) 0 (.int .i64 0)) 1 (.int .i64 0)) 2 (.string ⟨tx.toArray⟩)) 3 (.slice none 0 0)) 4 (.int .i64 0)) 5 (.int .i64 0)
 obtain ⟨⟨F0, F1, F2, F3, F4, F5⟩, _, Fs⟩ := row6 (show _ = some (Obj.cells #[.int .i64 0, .int .i64 0, .string ⟨tx.toArray⟩, .slice none 0 0, .int .i64 0, .int .i64 0] 39 (0, 0)) from hF)
 have HF := tZ (And.intro F0 (And.intro F1 (And.intro F2 (And.intro F3 (And.intro F4 (And.intro F5 Fs))))))
 have HBF := tZ (show Below w.heap.size w (((((((w3.setCell ⟨w.heap.size + 1, 2, none⟩ (.string ⟨tx.toArray⟩)).setCell ⟨w.heap.size + 1, 0, none⟩ (.int .i64 0)).setCell ⟨w.heap.size + 1, 1, none⟩ (.int .i64 0)).setCell ⟨w.heap.size + 1, 2, none⟩ (.string ⟨tx.toArray⟩)).setCell ⟨w.heap.size + 1, 3, none⟩ (.slice none 0 0)).setCell ⟨w.heap.size + 1, 4, none⟩ (.int .i64 0)).setCell ⟨w.heap.size + 1, 5, none⟩ (.int .i64 0)) from by
  have hB : Below w.heap.size w w3 := (below2 _ _ _).trans (hb3.mono (by simp; omega))
  iterate 7 refine Below.setCell ?_ (by show w.heap.size ≤ w.heap.size + 1; omega) _
  exact hB)
 clear F0 F1 F2 F3 F4 F5 Fs hF hr hb3 HS2
 refine tZ ?_
 go_wp2
 generalize (((((((w3.setCell ⟨w.heap.size + 1, 2, none⟩ (.string ⟨tx.toArray⟩)).setCell ⟨w.heap.size + 1, 0, none⟩ (.int .i64 0)).setCell ⟨w.heap.size + 1, 1, none⟩ (.int .i64 0)).setCell ⟨w.heap.size + 1, 2, none⟩ (.string ⟨tx.toArray⟩)).setCell ⟨w.heap.size + 1, 3, none⟩ (.slice none 0 0)).setCell ⟨w.heap.size + 1, 4, none⟩ (.int .i64 0)).setCell ⟨w.heap.size + 1, 5, none⟩ (.int .i64 0)) = WF at *
 obtain ⟨F0, F1, F2, F3, F4, F5, Fs⟩ := HF.out
 refine bodyPost_ret (v := .agg #[.int .i64 0, .int .i64 0, .string ⟨tx.toArray⟩, .slice none 0 0, .int .i64 0, .int .i64 0]) (by simp [results, Tryz.results70, go_sem, F0, F1, F2, F3, F4, F5]) (by simp [go_sem]) ?_
 exact ⟨rfl, HBF.out⟩
end
section
theorem followTellQ (e : Nat) (vb : Int) (hvb : vb = 9 ∨ vb = 10 ∨ vb = 11 ∨ vb = 12) (an : Option Addr) (ln cn : Nat) (k : Int) (nm : By) (n : Int) (ar : Option Addr) (lr cr : Nat) (w : World) (er at_ : Int) (tx : By) (kd nn : Int) (Q : Option Addr → Nat → Nat → World → Prop) (hQ : ∀ a l c w1 j u, Q a l c w1 → Q a l c (w1.setCell ⟨w.heap.size + 1, j, none⟩ u))
  (hT : ∀ W, Below w.heap.size w W → w.heap.size + 1 < W.heap.size → Calls Tryz.prog 70 #[.pointer (some ⟨e, 0, none⟩), .agg #[.int .i64 vb, .slice an ln cn, .int .i64 k, .string ⟨nm.toArray⟩, .int .i64 n, .slice ar lr cr]] W fun r w' => ∃ bn ln' cn', r = .returned (.agg #[.int .i64 er, .int .i64 at_, .string ⟨tx.toArray⟩, .slice bn ln' cn', .int .i64 kd, .int .i64 nn]) ∧ (∀ q, q = w.heap.size + 1 → w'.heap[q]? = W.heap[q]?) ∧ Q bn ln' cn' w') :
  Calls Tryz.prog 47 #[.pointer (some ⟨e, 0, none⟩), .agg #[.int .i64 vb, .slice an ln cn, .int .i64 k, .string ⟨nm.toArray⟩, .int .i64 n, .slice ar lr cr]] w fun r w' => ∃ bn ln' cn', r = .returned (.agg #[.int .i64 er, .int .i64 at_, .string ⟨tx.toArray⟩, .slice bn ln' cn', .int .i64 kd, .int .i64 nn]) ∧ Q bn ln' cn' w' := by
 have HT := tZ hT
 have b1 : (vb == 1) = false := by simp; omega
 have b2 : (vb == 2) = false := by simp; omega
 have b3 : (vb == 3) = false := by simp; omega
 have b4 : (vb == 4) = false := by simp; omega
 have b5 : (vb == 5) = false := by simp; omega
 have b6 : (vb == 6) = false := by simp; omega
 have b7 : (vb == 7) = false := by simp; omega
 have b8 : (vb == 8) = false := by simp; omega
 clear hT hvb
 go_enter Tryz.func47, Tryz.ntmps47
 have HT2 := tZ (HT.out ((w.alloc (.cells #[.int .i64 vb, .slice an ln cn, .int .i64 k, .string ⟨nm.toArray⟩, .int .i64 n, .slice ar lr cr] 97)).alloc (.cells #[.int .i64 0, .int .i64 0, .string ⟨#[]⟩, .slice none 0 0, .int .i64 0, .int .i64 0] 39)) (below2 _ _ _) (by simp))
 have HROW := tZ (alloc2_new' w (.cells #[.int .i64 vb, .slice an ln cn, .int .i64 k, .string ⟨nm.toArray⟩, .int .i64 n, .slice ar lr cr] 97) #[.int .i64 0, .int .i64 0, .string ⟨#[]⟩, .slice none 0 0, .int .i64 0, .int .i64 0] 39)
 clear HT
 go_wp2_with (first | (go_at_call 70; refine HT2.out.mono ?_; rintro r w1 ⟨bn, ln', cn', rfl, hk1, hq⟩; refine Hid.out ?_))
 obtain ⟨⟨k0, k1, k2, k3, k4, k5⟩, ⟨f0, f1, f2, f3, f4, f5⟩, hsz⟩ := row6 ((hk1 (w.heap.size + 1) rfl).trans HROW.out)
 have HQ := tZ hq
 clear hk1 hq HT2
 refine tZ ?_
 go_wp2
 refine bodyPost_ret (v := .agg #[.int .i64 er, .int .i64 at_, .string ⟨tx.toArray⟩, .slice bn ln' cn', .int .i64 kd, .int .i64 nn]) (by simp [results, Tryz.results47, go_sem, k0, k1, k2, k3, k4, k5, hsz]) rfl ?_
 exact ⟨bn, ln', cn', rfl, hQ _ _ _ _ _ _ (hQ _ _ _ _ _ _ (hQ _ _ _ _ _ _ (hQ _ _ _ _ _ _ (hQ _ _ _ _ _ _ (hQ _ _ _ _ _ _ HQ.out)))))⟩
variable {e k : Nat} {F : Nat → Prop} {w w' W w1 w2 w3 W0 : World} {a : Ab} {nm : List By} {bn : Option Addr} {ln cn : Nat}
def TlPost (er : Int) (tx : By) (kd nn : Int) (nm : List By) (W : World) (r : Ending) (w' : World) : Prop := ∃ bn ln cn, r = .returned (.agg #[.int .i64 er, .int .i64 0, .string ⟨tx.toArray⟩, .slice bn ln cn, .int .i64 kd, .int .i64 nn]) ∧ ln = nm.length ∧ w'.ownsRow W.heap.size 9 1 (.slice bn ln cn) ln (strs nm) ∧ Below W.heap.size W w'
theorem EdA.doTell (h : EdA w e F k a) (s : By) (vb : Int) (hvb : vb = 9 ∨ vb = 10 ∨ vb = 11 ∨ vb = 12) (er : Int) (tx : By) (kd nn : Int) (nm : List By)
  (hR : Calls Tryz.prog 46 #[.string ⟨s.toArray⟩] (w.alloc zRep) fun r w1 => Below (w.heap.size + 1) (w.alloc zRep) w1 ∧ ∃ an ln cn, r = .returned (.tuple #[lineV vb an ln cn 0 [] 0 none 0 0, .int .i64 0, .int .i64 0]) ∧ ∀ W, Below w1.heap.size w1 W → EdA W e F k a → Calls Tryz.prog 70 #[.pointer (some ⟨e, 0, none⟩), lineV vb an ln cn 0 [] 0 none 0 0] W (TlPost er tx kd nn nm W)) :
  Calls Tryz.prog 20 #[.pointer (some ⟨e, 0, none⟩), .string ⟨s.toArray⟩] w fun r w' => ∃ bn ln cn, r = .returned (rpV er 0 tx bn ln cn kd nn) ∧ Res F (fun _ => False) e k a nm w bn ln cn w' := by
 have hF := h.lt
 have hed : edV vb = false := by rcases hvb with rfl | rfl | rfl | rfl <;> rfl
 refine (doFol e s w (fun er' at_ tx' bn ln cn kd' nn' w' => er' = er ∧ at_ = 0 ∧ tx' = tx ∧ kd' = kd ∧ nn' = nn ∧ Res F (fun q => q = w.heap.size) e k a nm w bn ln cn w') (hR.mono ?_)).mono ?_
 rotate_left
 ·rintro r w' ⟨er', at_, tx', bn, ln, cn, kd', nn', rfl, rfl, rfl, rfl, rfl, rfl, h7⟩
  exact ⟨bn, ln, cn, rfl, h7.less fun _ h => h.elim⟩
 rintro r w1 ⟨hb1, an, ln0, cn0, rfl, hC⟩
 refine ⟨hb1, vb, an, ln0, cn0, 0, [], 0, none, 0, 0, rfl, ?_⟩
 have hs1 : w.heap.size + 1 ≤ w1.heap.size := by have := hb1.size; simpa using this
 have hb01 : Below w.heap.size w w1 := ((Below.refl _ _).alloc (Nat.le_refl _) zRep).trans (hb1.mono (by omega))
 generalize hw2 : (w1.alloc (lineO vb an ln0 cn0 0 [] 0 none 0 0)).alloc zRep = w2
 have hsz2 : w2.heap.size = w1.heap.size + 2 := by rw [← hw2]; simp
 have hb12 : Below w1.heap.size w1 w2 := by rw [← hw2]; exact below2 _ _ _
 have z0 : w2.heap[w.heap.size]? = some zRep := by
  rw [hb12.block _ (by omega), hb1.block _ (by omega)]
  exact heap_alloc_new w zRep
 have z1 : w2.heap[w1.heap.size + 1]? = some zRep := by
  rw [← hw2]
  exact alloc2_new' w1 _ _ _
 have z2 : w2.heap[w1.heap.size]? = some (lineO vb an ln0 cn0 0 [] 0 none 0 0) := by
  rw [← hw2]
  exact alloc2_old w1 _ _ _
 have hb02 : Below w.heap.size w w2 := hb01.trans (hb12.mono (by omega))
 refine (followTellQ e vb hvb an ln0 cn0 0 [] 0 none 0 0 w2 er 0 tx kd nn (fun bn ln cn w' => Res F (fun q => q = w.heap.size ∨ q = w1.heap.size ∨ q = w1.heap.size + 1 ∨ q = w2.heap.size + 1) e k a nm w2 bn ln cn w') ?_ ?_).mono ?_
 ·intro a' l c w' j u h2
  exact h2.set (by simp) (by omega) j u
 ·intro W hW hWs
  have hsW := hW.size
  have hEW := h.next (hb02.trans (hW.mono (by omega)))
  refine (hC W (hb12.trans (hW.mono (by omega))) hEW).mono ?_
  rintro r w3 ⟨bn, ln, cn, rfl, hln, hown, hb3⟩
  refine ⟨bn, ln, cn, rfl, fun q hq => hb3.block q (by omega), hln, (Ks.of hW).trans (Ks.of hb3), own_base hown hsW, F, hEW.next hb3, fun q hq => Or.inl hq, fun q hq => ⟨fun hf => ?_, fun ht => ?_⟩, fun q hq hf => ?_⟩
  ·have := hF q hf; have := (hown.lt q hq).1; omega
  ·have := (hown.lt q hq).1; omega
  ·have := hF q hf; omega
 ·rintro r w3 ⟨bn, ln, cn, rfl, h2⟩
  have hks := h2.2.1
  refine ⟨er, 0, tx, bn, ln, cn, kd, nn, fun W => Res F (fun q => q = w.heap.size ∨ q = w1.heap.size + 1) e k a nm w bn ln cn W, rfl, ?_, ?_, ?_, ⟨?_, ?_⟩, ?_, ?_, ?_⟩
  ·exact (hks.block _ (by omega) fun hp => by have := hF _ hp; omega).trans z0
  ·exact (hks.block _ (by omega) fun hp => by have := hF _ hp; omega).trans z1
  ·exact (hks.block _ (by omega) fun hp => by have := hF _ hp; omega).trans z2
  ·intro W j u h4
   exact h4.set (by simp) (by omega) j u
  ·intro W j u h4
   exact h4.set (by simp) (by omega) j u
  ·refine (h2.base hb02 fun q hq => Or.inl hq).less ?_
   rintro q (h3 | h3)
   ·exact Or.inl h3
   ·exact Or.inr (Or.inr (Or.inl h3))
  ·rintro W j u ⟨h3, h4, h5, h6, h7, h9⟩
   exact ⟨h3, h4, h5, h6, h7, h9.set rfl (Nat.le_refl _) j u⟩
  ·rw [if_neg (by rintro ⟨_, h3⟩; rw [hed] at h3; cases h3)]
   intro W h4
   exact ⟨rfl, rfl, rfl, rfl, rfl, h4.less fun q hq => Or.inl hq⟩
theorem EdA.doErr (h : EdA w e F k a) (hk : k < 1000000000000) (s : By) (vb er at_ : Int) (her : er ≠ 0)
  (hR : Calls Tryz.prog 46 #[.string ⟨s.toArray⟩] (w.alloc zRep) fun r w1 => Below (w.heap.size + 1) (w.alloc zRep) w1 ∧ r = .returned (.tuple #[lineV vb none 0 0 0 [] 0 none 0 0, .int .i64 er, .int .i64 at_])) :
  Calls Tryz.prog 20 #[.pointer (some ⟨e, 0, none⟩), .string ⟨s.toArray⟩] w fun r w' => r = .returned (rpV er at_ [] none 0 0 0 0) ∧ Res F (fun _ => False) e k (if edV vb = true then failA a else a) [] w none 0 0 w' := by
 have hF := h.lt
 refine (Go.Proofs.YtihgojcfpnhelaaGreatDoor.doErr e s w (fun er' at' w' => er' = er ∧ at' = at_ ∧ Res F (fun q => q = w.heap.size) e k (if edV vb = true then failA a else a) [] w none 0 0 w') (hR.mono ?_)).mono ?_
 rotate_left
 ·rintro r w' ⟨er', at', rfl, rfl, rfl, h7⟩
  exact ⟨rfl, h7.less fun _ h => h.elim⟩
 rintro r w1 ⟨hb1, rfl⟩
 have hs1 : w.heap.size + 1 ≤ w1.heap.size := by have := hb1.size; simpa using this
 have hb01 : Below w.heap.size w w1 := ((Below.refl _ _).alloc (Nat.le_refl _) zRep).trans (hb1.mono (by omega))
 have hb02 : Below w.heap.size w ((w1.alloc (lineO vb none 0 0 0 [] 0 none 0 0)).alloc (erRep er at_)) := hb01.trans ((below2 w1 _ _).mono (by omega))
 have hres : ∀ w2, Below w.heap.size w w2 → Res F (fun q => q = w.heap.size ∨ q = w1.heap.size + 1) e k a [] w none 0 0 w2 := fun w2 hb => ⟨rfl, Ks.of hb, World.ownsRow_nil _ _ _ _, F, h.next hb, fun q hq => Or.inl hq, fun q hq => by simp [Value.ownBlock] at hq, fun q hq hf => by have := hF q hf; omega⟩
 refine ⟨hb1, vb, er, at_, fun W => w1.heap.size + 2 ≤ W.heap.size ∧ Res F (fun q => q = w.heap.size ∨ q = w1.heap.size + 1) e k a [] w none 0 0 W, her, rfl, ?_, ⟨by simp, hres _ hb02⟩, ?_, ?_⟩
 ·rintro W j u ⟨h3, h4⟩
  exact ⟨by simpa using h3, h4.set (by simp) (by omega) j u⟩
 ·rintro W j u ⟨h3, h4, h5⟩
  exact ⟨h3, h4, h5.set rfl (Nat.le_refl _) j u⟩
 ·by_cases hv : edV vb = true
  ·rw [if_pos ⟨her, hv⟩]
   rintro W ⟨h3, h4⟩
   refine (h4.cancel hk (by rintro q (rfl | rfl) <;> omega)).mono ?_
   rintro r w' ⟨k1, k2, k3⟩
   rw [if_pos hv]
   exact ⟨k1, k2 _ (Or.inl rfl), k2 _ (Or.inr rfl), rfl, rfl, k3.less fun q hq => Or.inl hq⟩
  ·rw [if_neg (fun h => hv h.2)]
   rintro W ⟨h3, h4⟩
   rw [if_neg hv]
   exact ⟨rfl, rfl, h4.less fun q hq => Or.inl hq⟩
end
section
variable {e k : Nat} {F : Nat → Prop} {w w' W w1 w2 w3 W0 : World} {a : Ab} {nm : List By} {bn : Option Addr} {ln cn : Nat} {x : By}
def valA (fs : List Fd) (x : By) : Int × Int × Int := match fs.find? (fun f => f.nm == x) with
 | some f => (0, f.v.1, f.v.2)
 | none => (5, 0, 0)
def rulA (fs : List Fd) (x : By) : Int × By := match fs.find? (fun f => f.nm == x) with
 | some f => (0, txt f.p)
 | none => (5, [])
theorem find_snd (fs : List (Nat × Fd)) (x : By) : (fs.map Prod.snd).find? (fun f => f.nm == x) = (findF fs x).map Prod.snd := by
 rw [List.find?_map]
 rfl
theorem EdA.sheet (h : EdA w e F k a) : ∃ S ad c fs, Sh w S ad fs ∧ fs.map Prod.snd = a.fs ∧ fs.length ≤ 10 ∧ w.cell? ⟨e, 0, none⟩ = some (.slice ad fs.length c) ∧ e < w.heap.size := by
 obtain ⟨S, D, σ, dv, uv, gv, dn, ud, gr, h1, h2, h3, h4, h5⟩ := h
 obtain ⟨ad, c, hs, _, _, hrow⟩ := h1.ph.sh
 exact ⟨S, ad, c, σ.fs, hs, h2.fs.symm, by have := h2.gs.len; simpa [Sta.fs] using this, (row6 hrow).1.1, h1.ph.lt⟩
theorem EdA.value (h : EdA W e F k a) {gn cn : Nat} (hc : W.cell? ⟨gn, 0, none⟩ = some (.string ⟨x.toArray⟩)) (hg : gn < W.heap.size) : Calls Tryz.prog 70 #[.pointer (some ⟨e, 0, none⟩), lineV 9 (some ⟨gn, 0, none⟩) 1 cn 0 [] 0 none 0 0] W (TlPost (valA a.fs x).1 [] (valA a.fs x).2.1 (valA a.fs x).2.2 [] W) := by
 refine (tellValueE e gn cn x (valA a.fs x).2.1 (valA a.fs x).2.2 (valA a.fs x).1 W hc hg fun W' hW' => ?_).mono ?_
 ·obtain ⟨S, ad, c, fs, h1, h2, h3, h4, h5⟩ := (h.next hW').sheet
  refine (value68 x e c ad fs W' h1 h4 h5 (by omega)).mono ?_
  rintro r w' ⟨rfl, hb⟩
  refine ⟨?_, hb⟩
  unfold valA
  rw [← h2, find_snd]
  cases findF fs x <;> rfl
 ·rintro r w' ⟨rfl, hb⟩
  exact ⟨none, 0, 0, rfl, rfl, World.ownsRow_nil _ _ _ _, hb⟩
theorem EdA.rule (h : EdA W e F k a) (hE : Env W) {gn cn : Nat} (hc : W.cell? ⟨gn, 0, none⟩ = some (.string ⟨x.toArray⟩)) (hg : gn < W.heap.size) : Calls Tryz.prog 70 #[.pointer (some ⟨e, 0, none⟩), lineV 10 (some ⟨gn, 0, none⟩) 1 cn 0 [] 0 none 0 0] W (TlPost (rulA a.fs x).1 (rulA a.fs x).2 0 0 [] W) := by
 refine (tellRuleE e gn cn x (rulA a.fs x).2 (rulA a.fs x).1 W hc hg fun W' hW' => ?_).mono ?_
 ·obtain ⟨S, ad, c, fs, h1, h2, h3, h4, h5⟩ := (h.next hW').sheet
  refine (rule69 x e c ad fs W' h1 (hE.next hW') h4 h5 (by omega)).mono ?_
  rintro r w' ⟨hb, hr⟩
  refine ⟨?_, hb⟩
  unfold rulA
  rw [← h2, find_snd]
  cases hf : findF fs x with
  | none => rw [hf] at hr; exact hr
  | some f => rw [hf] at hr; exact hr
 ·rintro r w' ⟨rfl, hb⟩
  exact ⟨none, 0, 0, rfl, rfl, World.ownsRow_nil _ _ _ _, hb⟩
theorem EdA.order (h : EdA W e F k a) (an0 : Option Addr) (ln0 cn0 : Nat) : Calls Tryz.prog 70 #[.pointer (some ⟨e, 0, none⟩), lineV 12 an0 ln0 cn0 0 [] 0 none 0 0] W (TlPost 0 [] 0 0 (a.fs.map fun f => f.nm) W) := by
 refine (tellOrder e an0 ln0 cn0 (a.fs.map fun f => f.nm) W fun W' hW' => ?_).mono ?_
 ·obtain ⟨S, ad, c, fs, h1, h2, h3, h4, h5⟩ := (h.next hW').sheet
  refine (order71 e c ad fs W' h1 h4 (by omega)).mono ?_
  rintro r w' ⟨v, rfl, hown, hb⟩
  obtain ⟨bn, ln, cn, rfl⟩ := own_slice hown
  have e1 : nmsF fs = a.fs.map fun f => f.nm := by
   rw [← h2, List.map_map]
   rfl
  have e2 : fs.length = (a.fs.map fun f => f.nm).length := by rw [← h2]; simp
  rw [e1, e2] at hown
  exact ⟨bn, ln, cn, rfl, hown, hb⟩
 ·rintro r w' ⟨bn, ln, cn, rfl, hown, hb⟩
  have hln : ln = (a.fs.map fun f => f.nm).length := by
   rcases hown.2 with h1 | ⟨g, cap, cur, h1, _⟩
   ·have := h1.1
    cases this
    exact h1.2.symm
   ·cases h1
    rfl
  rw [← hln] at hown
  exact ⟨bn, ln, cn, rfl, hln, hown, hb⟩
theorem edANew (M : Nat) (hM : M ≤ 6) (w : World) : Calls Tryz.prog 45 #[.int .i64 (M : Int)] w fun r w' => ∃ e, r = .returned (.tuple #[.pointer (some ⟨e, 0, none⟩), .int .i64 0]) ∧ Below w.heap.size w w' ∧ EdA w' e (fun q => w.heap.size ≤ q ∧ q < w'.heap.size) 0 ⟨M, [], [], [], none⟩ := by
 refine (new44 M hM w).mono ?_
 rintro r w' ⟨rfl, rfl⟩
 have hrow := heap_alloc_new w (.cells #[.slice none 0 0, .int .i64 (M : Int), .slice none 0 0, .slice none 0 0, .bool false, .slice none 0 0] 108)
 refine ⟨w.heap.size, rfl, (Below.refl _ _).alloc (Nat.le_refl _) _, fun _ => False, fun _ => False, ⟨[], fun _ => ⟨[], .atom 0 [] 0, (0, 0)⟩⟩, .slice none 0 0, .slice none 0 0, .slice none 0 0, [], [], [], ⟨⟨fun _ h => h.elim, fun h => h, fun h => h, fun _ h => h.elim, fun b hb => by simp at hb, none, 0, fun j hj => by simp at hj, Nat.le_refl _, fun _ => rfl, hrow⟩, ⟨_, _, RowB.nil _ _ _ _⟩, ⟨_, _, RowB.nil _ _ _ _⟩, ⟨_, _, RowB.nil _ _ _ _⟩, fun q hq => by simp [Value.ownBlock] at hq, fun q hq => by simp [Value.ownBlock] at hq, fun q hq => by simp [Value.ownBlock] at hq, hM, by simp⟩, ⟨⟨by simp, fun b hb => by simp at hb, ?_, by simp, fun f hf => by simp [Sta.fs] at hf⟩, rfl, fun u hu => by simp [gall] at hu, rfl, trivial, trivial⟩, Nat.le_refl _, ?_, fun q hq => hq.2⟩
 ·exact ⟨by simp [Sta.fs, enumF], by simp [Sta.fs, enumF], by simp [Sta.fs, enumF, Topo], by simp [Sta.fs, enumF], by simp [Sta.fs, enumF]⟩
 ·rintro q (h | h | h | h | h | h)
  ·exact h.elim
  ·subst h; exact ⟨Nat.le_refl _, by simp⟩
  ·exact h.elim
  ·simp [Value.ownBlock] at h
  ·simp [Value.ownBlock] at h
  ·simp [Value.ownBlock] at h
end
section
def keyF (f : Fd) : By × By := (f.nm, txt f.p)
def keyB (k : By × By) : By := k.1 ++ [32, 61, 32] ++ k.2 ++ [10]
theorem fst_inj : ∀ {l : List (By × By)}, (l.map Prod.fst).Nodup → ∀ {a b : By × By}, a ∈ l → b ∈ l → a.1 = b.1 → a = b
 | [], _, _, _, h, _, _ => by simp at h
 | c :: r, hn, a, b, ha, hb, e => by
  simp only [List.map_cons, List.nodup_cons] at hn
  rcases List.mem_cons.1 ha with rfl | ha
  ·rcases List.mem_cons.1 hb with rfl | hb
   ·rfl
   ·exact absurd (e ▸ List.mem_map_of_mem hb) hn.1
  ·rcases List.mem_cons.1 hb with hb' | hb
   ·exact absurd (hb' ▸ e ▸ List.mem_map_of_mem ha) hn.1
   ·exact fst_inj hn.2 ha hb e
theorem srt_uniq {A B : List (By × By)} (hp : A.Perm B) (hA : A.Pairwise fun f g => ¬ g.1 < f.1) (hB : B.Pairwise fun f g => ¬ g.1 < f.1) (hn : (A.map Prod.fst).Nodup) : A = B :=
 List.Perm.eq_of_pairwise (le := fun f g => ¬ g.1 < f.1) (fun a b ha hb h1 h2 => fst_inj hn ha (hp.mem_iff.2 hb) (List.le_antisymm (List.not_lt.1 h1) (List.not_lt.1 h2))) hA hB hp
theorem lstB_eq (fs : List (Nat × Fd)) : lstB fs = ((srtL fs).map fun g => keyF g.2).flatMap keyB := by
 unfold lstB
 rw [List.flatMap_map]
 rfl
theorem lstB_key {fs fs' : List (Nat × Fd)} (hn : (fs.map fun g => g.2.nm).Nodup) (hp : (fs.map fun g => keyF g.2).Perm (fs'.map fun g => keyF g.2)) : lstB fs = lstB fs' := by
 obtain ⟨p1, s1⟩ := srtL_facts fs
 obtain ⟨p2, s2⟩ := srtL_facts fs'
 have q1 := p1.map fun g => keyF g.2
 have q2 := p2.map fun g => keyF g.2
 rw [lstB_eq, lstB_eq]
 congr 1
 refine srt_uniq ((q1.trans hp).trans q2.symm) ?_ ?_ ?_
 ·rw [List.pairwise_map]; exact s1
 ·rw [List.pairwise_map]; exact s2
 ·have : ((srtL fs).map fun g => g.2.nm).Nodup := ((p1.map fun g => g.2.nm).nodup_iff).2 hn
  rw [List.map_map]
  exact this
noncomputable def lsA (fs : List Fd) : By := lstB (enumF fs)
theorem enum_map {β : Type} (f : Fd → β) (fs : List Fd) : (enumF fs).map (fun g => f g.2) = fs.map f := by
 have := congrArg (List.map f) (enumF_snd fs)
 rw [List.map_map] at this
 exact this
theorem lsA_of {gs : List (Nat × Fd)} (hn : (gs.map fun g => g.2.nm).Nodup) : lstB gs = lsA (gs.map Prod.snd) := by
 refine lstB_key hn (List.Perm.of_eq ?_)
 rw [enum_map keyF, List.map_map]
 rfl
variable {e k : Nat} {F : Nat → Prop} {w w' W w1 w2 w3 W0 : World} {a : Ab}
theorem EdA.fsOk (h : EdA w e F k a) : FsOk a.fs := by
 obtain ⟨S, D, σ, dv, uv, gv, dn, ud, gr, h1, h2, h3, h4, h5⟩ := h
 rw [h2.fs]
 exact ⟨h2.gs.gf, by have := h2.gs.len; simpa [Sta.fs] using this, h2.gs.nmo⟩
theorem FsOk.nd {fs : List Fd} (h : FsOk fs) : (fs.map fun g => g.nm).Nodup := by
 exact h.gf.nn
theorem EdA.list (h : EdA W e F k a) (hE : Env W) (an0 : Option Addr) (ln0 cn0 : Nat) : Calls Tryz.prog 70 #[.pointer (some ⟨e, 0, none⟩), lineV 11 an0 ln0 cn0 0 [] 0 none 0 0] W (TlPost 0 (lsA a.fs) 0 0 [] W) := by
 refine (tellList e an0 ln0 cn0 (lsA a.fs) W fun W' hW' => ?_).mono ?_
 ·have hok := h.fsOk
  obtain ⟨S, ad, c, fs, h1, h2, h3, h4, h5⟩ := (h.next hW').sheet
  refine (listS e c ad fs W' h1 (hE.next hW') h4 h5 (by omega) fun f hf => ?_).mono ?_
  ·have := (hok.nmo f.2 (h2 ▸ List.mem_map_of_mem hf)).2
   omega
  ·rintro r w' ⟨rfl, hb⟩
   have hn := hok.nd
   rw [← h2, List.map_map] at hn
   rw [lsA_of hn, h2]
   exact ⟨rfl, hb⟩
 ·rintro r w' ⟨rfl, hb⟩
  exact ⟨none, 0, 0, rfl, rfl, World.ownsRow_nil _ _ _ _, hb⟩
end
section
structure Rp where
 er : Int
 at_ : Int
 tx : By
 nm : List By
 kd : Int
 nn : Int
def edR (a : Ab) (ar : AR) : Rp × Ab := (⟨(ar.code : Int), 0, [], ar.names, 0, 0⟩, editA a ar)
def hsR (x : Nat × Ab) : Rp × Ab := (⟨(x.1 : Int), 0, [], [], 0, 0⟩, x.2)
noncomputable def lnA (a : Ab) : Ln → Rp × Ab
 | .err vb er p => (⟨er, p, [], [], 0, 0⟩, if edV vb = true then failA a else a)
 | .set x p => edR a (setA a.fs x p)
 | .del x => edR a (delA a.fs x)
 | .ren x y => edR a (renA a.fs x y)
 | .begin => hsR (beginA a)
 | .commit => hsR (commitA a)
 | .cancel => hsR (cancelA a)
 | .undo => hsR (undoA a)
 | .redo => hsR (redoA a)
 | .value x => (⟨(valA a.fs x).1, 0, [], [], (valA a.fs x).2.1, (valA a.fs x).2.2⟩, a)
 | .rule x => (⟨(rulA a.fs x).1, 0, (rulA a.fs x).2, [], 0, 0⟩, a)
 | .list => (⟨0, 0, lsA a.fs, [], 0, 0⟩, a)
 | .order => (⟨0, 0, [], a.fs.map fun f => f.nm, 0, 0⟩, a)
variable {e k : Nat} {F T : Nat → Prop} {w w' W w1 w2 w3 W0 : World} {a : Ab} {nm : List By} {bn : Option Addr} {ln cn : Nat} {s : By}
theorem Res.more {k' : Nat} (h : Res F T e k a nm w bn ln cn w') (hk : k ≤ k') : Res F T e k' a nm w bn ln cn w' := by
 obtain ⟨h1, h2, h3, F', h4, h5⟩ := h
 exact ⟨h1, h2, h3, F', h4.more hk, h5⟩
def DoPost (F : Nat → Prop) (e k : Nat) (a : Ab) (l : Ln) (w : World) (r : Ending) (w' : World) : Prop :=
 ∃ bn ln cn, r = .returned (rpV (lnA a l).1.er (lnA a l).1.at_ (lnA a l).1.tx bn ln cn (lnA a l).1.kd (lnA a l).1.nn) ∧ Res F (fun _ => False) e (k + 1) (lnA a l).2 (lnA a l).1.nm w bn ln cn w'
theorem EdA.doLn (h : EdA w e F k a) (hk : k + 1 < 1000000000000) (hE0 : Env W0) (hL0 : EnvL W0) (hlow : Below W0.heap.size W0 w) (hF : ∀ q, F q → W0.heap.size ≤ q) (s : By) (l : Ln) (hok : l.Ok) (hs : ∀ r, LineP s r → r = l.r) :
  Calls Tryz.prog 20 #[.pointer (some ⟨e, 0, none⟩), .string ⟨s.toArray⟩] w (DoPost F e k a l w) := by
 have hfs := h.fsOk
 have hE := hE0.next hlow
 have hEL := hL0.next hE0 hlow
 have hb0 : Below w.heap.size w (w.alloc zRep) := (Below.refl _ _).alloc (Nat.le_refl _) zRep
 have e1 : (w.alloc zRep).heap.size = w.heap.size + 1 := by simp
 have hread : Calls Tryz.prog 46 #[.string ⟨s.toArray⟩] (w.alloc zRep) fun r w1 => RetL l.r (w.alloc zRep) r w1 ∧ Below (w.alloc zRep).heap.size (w.alloc zRep) w1 := by
  refine (linesRead s (w.alloc zRep) (hE.next hb0) (hEL.next hE hb0)).mono ?_
  rintro r w1 ⟨r', h1, h2, h3⟩
  rw [hs r' h1] at h2
  exact ⟨h2, h3⟩
 have hEw : ∀ {w1 W : World}, Below (w.alloc zRep).heap.size (w.alloc zRep) w1 → Below w1.heap.size w1 W → Env W := fun h1 h2 => ((hE.next hb0).next h1).next h2
 have edit : ∀ (ar : AR) (he : lnA a l = edR a ar), (∀ fs n, ar = .ok fs n → FsOk fs) → (∀ c n, ar = .err c n → c ≠ 0) → (∀ r w1, RetL l.r (w.alloc zRep) r w1 → Below (w.alloc zRep).heap.size (w.alloc zRep) w1 → EdLine e F a ar w r w1) → Calls Tryz.prog 20 #[.pointer (some ⟨e, 0, none⟩), .string ⟨s.toArray⟩] w (DoPost F e k a l w) := fun ar he h1 h2 h3 => by
  refine (h.doEdit hk s ar h1 h2 (hread.mono fun r w1 hr => h3 r w1 hr.1 hr.2)).mono ?_
  rintro r w' ⟨bn, ln, cn, rfl, hres⟩
  unfold DoPost
  rw [he]
  exact ⟨bn, ln, cn, rfl, hres⟩
 have hist : ∀ (vb : Int) (N : Nat) (x : Nat × Ab), l.r = .ok vb [] none → lnA a l = hsR x → edV vb = false → FollowH vb N → (∀ W, EdA W e F k a → Calls Tryz.prog N #[.pointer (some ⟨e, 1, none⟩)] W (HPost e k F x W)) → Calls Tryz.prog 20 #[.pointer (some ⟨e, 0, none⟩), .string ⟨s.toArray⟩] w (DoPost F e k a l w) := fun vb N x hl he hv hf hX => by
  refine (h.doHist s vb hv N hf x hX (hread.mono ?_)).mono ?_
  ·rintro r w1 ⟨h1, h2⟩
   rw [hl] at h1
   obtain ⟨an, ln, cn, rfl, _⟩ := h1
   exact ⟨by rw [← e1]; exact h2, an, ln, cn, rfl⟩
  ·rintro r w' ⟨rfl, hres⟩
   unfold DoPost
   rw [he]
   exact ⟨none, 0, 0, rfl, hres.more (by omega)⟩
 have tell : ∀ (vb : Int) (ns : List By) (er : Int) (tx : By) (kd nn : Int) (nm : List By), l.r = .ok vb ns none → lnA a l = (⟨er, 0, tx, nm, kd, nn⟩, a) → (vb = 9 ∨ vb = 10 ∨ vb = 11 ∨ vb = 12) → (∀ w1 an ln cn, w1.ownsRow (w.alloc zRep).heap.size 9 1 (.slice an ln cn) ns.length (strs ns) → Below (w.alloc zRep).heap.size (w.alloc zRep) w1 → ∀ W, Below w1.heap.size w1 W → EdA W e F k a → Calls Tryz.prog 70 #[.pointer (some ⟨e, 0, none⟩), lineV vb an ln cn 0 [] 0 none 0 0] W (TlPost er tx kd nn nm W)) → Calls Tryz.prog 20 #[.pointer (some ⟨e, 0, none⟩), .string ⟨s.toArray⟩] w (DoPost F e k a l w) := fun vb ns er tx kd nn nm hl he hv hT => by
  refine (h.doTell s vb hv er tx kd nn nm (hread.mono ?_)).mono ?_
  ·rintro r w1 ⟨h1, h2⟩
   rw [hl] at h1
   obtain ⟨an, ln, cn, rfl, hown⟩ := h1
   exact ⟨by rw [← e1]; exact h2, an, ln, cn, rfl, hT w1 an ln cn hown h2⟩
  ·rintro r w' ⟨bn, ln, cn, rfl, hres⟩
   unfold DoPost
   rw [he]
   exact ⟨bn, ln, cn, rfl, hres.more (by omega)⟩
 have one : ∀ (x : By) (w1 : World) (an : Option Addr) (ln cn : Nat), w1.ownsRow (w.alloc zRep).heap.size 9 1 (.slice an ln cn) [x].length (strs [x]) → ∃ g, an = some ⟨g, 0, none⟩ ∧ ln = 1 ∧ g < w1.heap.size ∧ w1.cell? ⟨g, 0, none⟩ = some (.string ⟨x.toArray⟩) := fun x w1 an ln cn hown => by
  obtain ⟨g, cap, hv, hg, hgl⟩ := hown.form (by simp)
  simp at hv
  obtain ⟨rfl, rfl, rfl⟩ := hv
  have hc := hown.cellAt 0 (by simp)
  exact ⟨g, rfl, rfl, hgl, by simpa [strs] using hc⟩
 cases l with
 | err vb er p =>
  refine (h.doErr (by omega) s vb er p hok (hread.mono ?_)).mono ?_
  ·rintro r w1 ⟨h1, h2⟩
   exact ⟨by rw [← e1]; exact h2, h1⟩
  ·rintro r w' ⟨rfl, hres⟩
   exact ⟨none, 0, 0, rfl, hres.more (by omega)⟩
 | set x p =>
  obtain ⟨h1, h2, h3, h4⟩ := hok
  exact edit _ rfl (fun fs n he => hfs.set h2 h1 he) (fun c n he => setA_err he) fun r w1 hr hb => edLine_set hr hb h2 h3 h4
 | del x => exact edit _ rfl (fun fs n he => hfs.del he) (fun c n he => delA_err he) fun r w1 hr hb => edLine_del hr hb
 | ren x y =>
  obtain ⟨h1, h2⟩ := hok
  exact edit _ rfl (fun fs n he => hfs.ren h2 he) (fun c n he => renA_err he) fun r w1 hr hb => edLine_ren hE0 hlow hF hr hb h1.1 (by have := h2.2; omega)
 | begin => exact hist 4 _ _ rfl rfl rfl followBegin fun W hW => hW.beginH
 | commit => exact hist 5 _ _ rfl rfl rfl followCommit fun W hW => hW.commitH (by omega)
 | cancel => exact hist 6 _ _ rfl rfl rfl followCancel fun W hW => hW.cancelH (by omega)
 | undo => exact hist 7 _ _ rfl rfl rfl followUndo fun W hW => hW.undo
 | redo => exact hist 8 _ _ rfl rfl rfl followRedo fun W hW => hW.redo
 | value x =>
  refine tell 9 [x] _ _ _ _ _ rfl rfl (Or.inl rfl) fun w1 an ln cn hown hb W hW hEd => ?_
  obtain ⟨g, rfl, rfl, hg, hc⟩ := one x w1 an ln cn hown
  exact hEd.value ((World.cell?_of_block (a := ⟨g, 0, none⟩) (hW.block g hg)).trans hc) (by have := hW.size; omega)
 | rule x =>
  refine tell 10 [x] _ _ _ _ _ rfl rfl (Or.inr (Or.inl rfl)) fun w1 an ln cn hown hb W hW hEd => ?_
  obtain ⟨g, rfl, rfl, hg, hc⟩ := one x w1 an ln cn hown
  exact hEd.rule (hEw hb hW) ((World.cell?_of_block (a := ⟨g, 0, none⟩) (hW.block g hg)).trans hc) (by have := hW.size; omega)
 | list => exact tell 11 [] _ _ _ _ _ rfl rfl (Or.inr (Or.inr (Or.inl rfl))) fun w1 an ln cn hown hb W hW hEd => hEd.list (hEw hb hW) an ln cn
 | order => exact tell 12 [] _ _ _ _ _ rfl rfl (Or.inr (Or.inr (Or.inr rfl))) fun w1 an ln cn hown hb W hW hEd => hEd.order an ln cn
end
section
structure En where
 e : Nat
 k : Nat
 a : Ab
structure Sts (W0 : World) (T : Nat → Prop) (E : List En) (w : World) : Prop where
 low : Below W0.heap.size W0 w
 tlt : ∀ q, T q → q < w.heap.size
 eds : ∃ F : Nat → Nat → Prop, (∀ i (h : i < E.length), EdA w E[i].e (F i) E[i].k E[i].a) ∧ (∀ i j q, F i q → F j q → i = j) ∧ ∀ i q, F i q → W0.heap.size ≤ q ∧ ¬ T q ∧ q < w.heap.size
structure Kt (T : Nat → Prop) (w w' : World) : Prop where
 size : w.heap.size ≤ w'.heap.size
 block : ∀ q, T q → w'.heap[q]? = w.heap[q]?
variable {W0 w w' W w1 w2 : World} {T T' : Nat → Prop} {E : List En} {e k i : Nat} {a : Ab} {s : By} {l : Ln}
theorem Kt.refl (T : Nat → Prop) (w : World) : Kt T w w := ⟨Nat.le_refl _, fun _ _ => rfl⟩
theorem Kt.trans (h : Kt T w w1) (h' : Kt T w1 w2) : Kt T w w2 := ⟨Nat.le_trans h.size h'.size, fun q hq => (h'.block q hq).trans (h.block q hq)⟩
theorem Sts.empty (W0 : World) : Sts W0 (fun _ => False) [] W0 := ⟨Below.refl _ _, fun _ h => h.elim, fun _ _ => False, fun i h => by simp at h, fun _ _ _ h => h.elim, fun _ _ h => h.elim⟩
theorem Sts.keep {P : Nat → Prop} (h : Sts W0 T E w) (hk : Ks P w w') (hP : ∀ q, P q → T q ∨ w.heap.size ≤ q) (h0 : ∀ q, P q → W0.heap.size ≤ q) : Sts W0 T E w' := by
 obtain ⟨hl, ht, F, h1, h2, h3⟩ := h
 refine ⟨hl.trans (hk.low h0 hl.size), fun q hq => Nat.lt_of_lt_of_le (ht q hq) hk.size, F, fun i hi => (h1 i hi).keep hk fun q hq hp => ?_, h2, fun i q hq => ⟨(h3 i q hq).1, (h3 i q hq).2.1, Nat.lt_of_lt_of_le (h3 i q hq).2.2 hk.size⟩⟩
 rcases hP q hp with h4 | h4
 ·exact (h3 i q hq).2.1 h4
 ·have := (h3 i q hq).2.2; omega
theorem Sts.next (h : Sts W0 T E w) (hb : Below w.heap.size w w') : Sts W0 T E w' := h.keep (P := fun _ => False) (Ks.of hb) (fun _ h => h.elim) fun _ h => h.elim
theorem Sts.grow (h : Sts W0 T E w) (hb : Below w.heap.size w w') : Sts W0 (fun q => T q ∨ (w.heap.size ≤ q ∧ q < w'.heap.size)) E w' := by
 obtain ⟨hl, ht, F, h1, h2, h3⟩ := h
 refine ⟨hl.trans (hb.mono hl.size), fun q hq => ?_, F, fun i hi => (h1 i hi).next hb, h2, fun i q hq => ⟨(h3 i q hq).1, fun h4 => ?_, Nat.lt_of_lt_of_le (h3 i q hq).2.2 hb.size⟩⟩
 ·rcases hq with h4 | h4
  ·exact Nat.lt_of_lt_of_le (ht q h4) hb.size
  ·exact h4.2
 ·rcases h4 with h4 | h4
  ·exact (h3 i q hq).2.1 h4
  ·have := (h3 i q hq).2.2; omega
theorem Sts.less (h : Sts W0 T E w) (hT : ∀ q, T' q → T q) : Sts W0 T' E w := by
 obtain ⟨hl, ht, F, h1, h2, h3⟩ := h
 exact ⟨hl, fun q hq => ht q (hT q hq), F, h1, h2, fun i q hq => ⟨(h3 i q hq).1, fun h4 => (h3 i q hq).2.1 (hT q h4), (h3 i q hq).2.2⟩⟩
theorem set_at {α : Type} (l : List α) (i : Nat) (x : α) (j : Nat) (h : j < (l.set i x).length) : (l.set i x)[j] = if i = j then x else l[j]'(by simpa using h) := List.getElem_set ..
theorem Sts.res {F : Nat → Nat → Prop} {nm : List By} {bn : Option Addr} {ln cn : Nat} (h : Sts W0 T E w) (hi : i < E.length) (h1 : ∀ i (h : i < E.length), EdA w E[i].e (F i) E[i].k E[i].a) (h2 : ∀ i j q, F i q → F j q → i = j) (h3 : ∀ i q, F i q → W0.heap.size ≤ q ∧ ¬ T q ∧ q < w.heap.size) (hr : Res (F i) (fun _ => False) E[i].e k a nm w bn ln cn w') :
  ln = nm.length ∧ w'.ownsRow w.heap.size 9 1 (.slice bn ln cn) ln (strs nm) ∧ Kt T w w' ∧ Sts W0 (fun q => T q ∨ (Value.slice bn ln cn).ownBlock = some q) (E.set i ⟨E[i].e, k, a⟩) w' := by
 obtain ⟨g1, g2, g3, F', g4, g5, g6, g7⟩ := hr
 have hsz := g2.size
 refine ⟨g1, g3, ⟨hsz, fun q hq => g2.block q (h.tlt q hq) fun hf => (h3 i q hf).2.1 hq⟩, h.low.trans (g2.low (fun q hq => (h3 i q hq).1) h.low.size), fun q hq => ?_, fun j q => if j = i then F' q else F j q, fun j hj => ?_, fun j j' q hq hq' => ?_, fun j q hq => ?_⟩
 ·rcases hq with hq | hq
  ·exact Nat.lt_of_lt_of_le (h.tlt q hq) hsz
  ·exact (g3.lt q hq).2
 ·have hj' : j < E.length := by simpa using hj
  rw [set_at]
  by_cases hij : i = j
  ·subst hij
   simp only [if_true]
   exact g4
  ·rw [if_neg hij]
   simp only [if_neg (Ne.symm hij)]
   exact (h1 j hj').keep g2 fun q hq hf => hij (h2 i j q hf hq)
 ·by_cases e1 : j = i
  ·by_cases e2 : j' = i
   ·rw [e1, e2]
   ·simp only [if_pos e1, if_neg e2] at hq hq'
    rcases g5 q hq with h5 | h5
    ·exact absurd (h2 i j' q h5 hq') (Ne.symm e2)
    ·have := (h3 j' q hq').2.2; omega
  ·by_cases e2 : j' = i
   ·simp only [if_neg e1, if_pos e2] at hq hq'
    rcases g5 q hq' with h5 | h5
    ·exact absurd (h2 i j q h5 hq) (Ne.symm e1)
    ·have := (h3 j q hq).2.2; omega
   ·simp only [if_neg e1, if_neg e2] at hq hq'
    exact h2 j j' q hq hq'
 ·by_cases e1 : j = i
  ·simp only [if_pos e1] at hq
   refine ⟨?_, fun ht => ?_, g4.lt q hq⟩
   ·rcases g5 q hq with h5 | h5
    ·exact (h3 i q h5).1
    ·exact Nat.le_trans h.low.size h5
   ·rcases ht with ht | ht
    ·rcases g5 q hq with h5 | h5
     ·exact (h3 i q h5).2.1 ht
     ·have := h.tlt q ht; omega
    ·exact (g6 q ht).1 hq
  ·simp only [if_neg e1] at hq
   refine ⟨(h3 j q hq).1, fun ht => ?_, Nat.lt_of_lt_of_le (h3 j q hq).2.2 hsz⟩
   rcases ht with ht | ht
   ·exact (h3 j q hq).2.1 ht
   ·have := (g3.lt q ht).1; have := (h3 j q hq).2.2; omega
def DoS (W0 : World) (T : Nat → Prop) (E : List En) (i : Nat) (hi : i < E.length) (l : Ln) (w : World) (r : Ending) (w' : World) : Prop :=
 ∃ bn ln cn, r = .returned (.agg #[.int .i64 (lnA E[i].a l).1.er, .int .i64 (lnA E[i].a l).1.at_, .string ⟨(lnA E[i].a l).1.tx.toArray⟩, .slice bn ln cn, .int .i64 (lnA E[i].a l).1.kd, .int .i64 (lnA E[i].a l).1.nn]) ∧ ln = (lnA E[i].a l).1.nm.length ∧ w'.ownsRow w.heap.size 9 1 (.slice bn ln cn) ln (strs (lnA E[i].a l).1.nm) ∧ Kt T w w' ∧ Sts W0 (fun q => T q ∨ (Value.slice bn ln cn).ownBlock = some q) (E.set i ⟨E[i].e, E[i].k + 1, (lnA E[i].a l).2⟩) w'
theorem Sts.do (h : Sts W0 T E w) (hE : Env W0) (hL : EnvL W0) (hi : i < E.length) (hk : E[i].k + 1 < 1000000000000) (hl : IsLn s l) :
  Calls Tryz.prog 20 #[.pointer (some ⟨E[i].e, 0, none⟩), .string ⟨s.toArray⟩] w (DoS W0 T E i hi l w) := by
 obtain ⟨F, h1, h2, h3⟩ := h.eds
 refine ((h1 i hi).doLn hk hE hL h.low (fun q hq => (h3 i q hq).1) s l hl.1 hl.2).mono ?_
 rintro r w' ⟨bn, ln, cn, rfl, hres⟩
 obtain ⟨g1, g2, g3, g4⟩ := h.res hi h1 h2 h3 hres
 exact ⟨bn, ln, cn, rfl, g1, g2, g3, g4⟩
theorem EdA.shut {F : Nat → Prop} (h : EdA w e F k a) (hg : a.grp = none) (k' : Nat) : EdA w e F k' a := by
 obtain ⟨S, D, σ, dv, uv, gv, dn, ud, gr, h1, h2, h3, h4, h5⟩ := h
 have hok := h2.ok
 rw [hg] at hok
 exact ⟨S, D, σ, dv, uv, gv, dn, ud, gr, h1, h2, by rw [hok.1]; simp, h4, h5⟩
theorem Sts.re {x y : En} (h : Sts W0 T (E.set i x) w) (h1 : y.e = x.e) (h2 : y.a = x.a) (hk : x.k ≤ y.k ∨ x.a.grp = none) : Sts W0 T (E.set i y) w := by
 obtain ⟨hl, ht, F, g1, g2, g3⟩ := h
 refine ⟨hl, ht, F, fun j hj => ?_, g2, g3⟩
 have hj' : j < (E.set i x).length := by simpa using hj
 have := g1 j hj'
 rw [set_at] at this ⊢
 by_cases e1 : i = j
 ·rw [if_pos e1] at this ⊢
  rw [h1, h2]
  rcases hk with hk | hk
  ·exact this.more hk
  ·exact this.shut hk _
 ·rw [if_neg e1] at this ⊢
  exact this
theorem Sts.new (h : Sts W0 T E w) (M : Nat) (hM : M ≤ 6) : Calls Tryz.prog 45 #[.int .i64 (M : Int)] w fun r w' => ∃ e, r = .returned (.tuple #[.pointer (some ⟨e, 0, none⟩), .int .i64 0]) ∧ Kt T w w' ∧ Sts W0 T (E ++ [⟨e, 0, ⟨M, [], [], [], none⟩⟩]) w' := by
 refine (edANew M hM w).mono ?_
 rintro r w' ⟨e, rfl, hb, hed⟩
 obtain ⟨F, h1, h2, h3⟩ := h.eds
 have hsz := hb.size
 refine ⟨e, rfl, ⟨hsz, fun q hq => hb.block q (h.tlt q hq)⟩, h.low.trans (hb.mono h.low.size), fun q hq => Nat.lt_of_lt_of_le (h.tlt q hq) hsz, fun j q => if j < E.length then F j q else if j = E.length then (w.heap.size ≤ q ∧ q < w'.heap.size) else False, fun j hj => ?_, fun j j' q hq hq' => ?_, fun j q hq => ?_⟩
 ·rcases Nat.lt_or_ge j E.length with e1 | e1
  ·rw [List.getElem_append_left e1]
   simp only [if_pos e1]
   exact (h1 j e1).next hb
  ·have e2 : j = E.length := by simp at hj; omega
   subst e2
   simp only [Nat.lt_irrefl, if_false, if_true]
   simpa using hed
 ·by_cases e1 : j < E.length
  ·simp only [if_pos e1] at hq
   by_cases e2 : j' < E.length
   ·simp only [if_pos e2] at hq'
    exact h2 j j' q hq hq'
   ·simp only [if_neg e2] at hq'
    by_cases e3 : j' = E.length
    ·rw [if_pos e3] at hq'
     have := (h3 j q hq).2.2; omega
    ·rw [if_neg e3] at hq'
     exact hq'.elim
  ·simp only [if_neg e1] at hq
   by_cases e3 : j = E.length
   ·rw [if_pos e3] at hq
    by_cases e2 : j' < E.length
    ·simp only [if_pos e2] at hq'
     have := (h3 j' q hq').2.2; omega
    ·simp only [if_neg e2] at hq'
     by_cases e4 : j' = E.length
     ·rw [e3, e4]
     ·rw [if_neg e4] at hq'
      exact hq'.elim
   ·rw [if_neg e3] at hq
    exact hq.elim
 ·by_cases e1 : j < E.length
  ·simp only [if_pos e1] at hq
   exact ⟨(h3 j q hq).1, (h3 j q hq).2.1, Nat.lt_of_lt_of_le (h3 j q hq).2.2 hsz⟩
  ·simp only [if_neg e1] at hq
   by_cases e3 : j = E.length
   ·rw [if_pos e3] at hq
    exact ⟨Nat.le_trans h.low.size hq.1, fun ht => by have := h.tlt q ht; omega, hq.2⟩
   ·rw [if_neg e3] at hq
    exact hq.elim
end
section
attribute [local go_sem] idx_eq app_eq
def pickN (c : Int) (n : Nat) : Nat := (if c < 0 then -(c + 1) else c).toNat % n
theorem pickN_lt (c : Int) (n : Nat) (h : 0 < n) : pickN c n < n := Nat.mod_lt _ h
theorem pick_ok (c : Int) (n : Nat) (h0 : -9223372036854775808 ≤ c) (h1 : c ≤ 9223372036854775807) (hn : 0 < n) (hn1 : n ≤ 1000) (w : World) :
  Calls Tryz.prog 25 #[.int .i64 c, .int .i64 (n : Int)] w fun r w' => r = .returned (.int .i64 (pickN c n : Int)) ∧ w' = w := by
 have hn0 : ((n : Int) == 0) = false := by simp; omega
 have hn2 : ¬ (n : Int) = 0 := by omega
 by_cases hc : c < 0
 ·obtain ⟨m, rfl⟩ : ∃ m : Nat, c = -(m : Int) - 1 := ⟨(-(c + 1)).toNat, by omega⟩
  have e1 : wrap64 (-(m : Int) - 1 + 1) = -(m : Int) := by rw [show -(m : Int) - 1 + 1 = -(m : Int) by omega]; unfold wrap64; omega
  have e2 : pickN (-(m : Int) - 1) n = m % n := by
   unfold pickN
   rw [if_pos hc]
   congr 1
   omega
  rw [e2]
  go_enter Tryz.func25, Tryz.ntmps25
  go_wp2
  go_ret
  exact ⟨by simp, rfl⟩
 ·obtain ⟨m, rfl⟩ : ∃ m : Nat, c = (m : Int) := ⟨c.toNat, by omega⟩
  have e2 : pickN (m : Int) n = m % n := by
   unfold pickN
   rw [if_neg hc]
   simp
  rw [e2]
  go_enter Tryz.func25, Tryz.ntmps25
  go_wp2
  go_ret
  exact ⟨by simp, rfl⟩
end
section
variable {W0 w w' W w1 w2 : World} {T T' : Nat → Prop} {E : List En} {e k i : Nat} {a : Ab} {s : By} {l : Ln}
theorem Kt.below (h : Kt T w w1) (hT : ∀ q, T q → q < w1.heap.size) (hb : Below w1.heap.size w1 w2) : Kt T w w2 := h.trans ⟨hb.size, fun q hq => hb.block q (hT q hq)⟩
def Lv (W0 : World) (T : Nat → Prop) (E : List En) (w w' : World) : Prop := Kt T w w' ∧ Sts W0 T E w'
theorem Lv.next (h : Lv W0 T E w w1) (hb : Below w1.heap.size w1 w2) : Lv W0 T E w w2 := ⟨h.1.below h.2.tlt hb, h.2.next hb⟩
theorem Sts.doA {rp : Rp} {a' : Ab} (k' : Nat) (h : Sts W0 T E w) (hE : Env W0) (hL : EnvL W0) (hi : i < E.length) (hk : E[i].k + 1 < 1000000000000) (hl : IsLn s l) (hr : lnA E[i].a l = (rp, a')) (hk' : E[i].k + 1 ≤ k' ∨ a'.grp = none) :
  Calls Tryz.prog 20 #[.pointer (some ⟨E[i].e, 0, none⟩), .string ⟨s.toArray⟩] w fun r w' => ∃ bn cn, r = .returned (.agg #[.int .i64 rp.er, .int .i64 rp.at_, .string ⟨rp.tx.toArray⟩, .slice bn rp.nm.length cn, .int .i64 rp.kd, .int .i64 rp.nn]) ∧ w'.ownsRow w.heap.size 9 1 (.slice bn rp.nm.length cn) rp.nm.length (strs rp.nm) ∧ Kt T w w' ∧ Sts W0 (fun q => T q ∨ (Value.slice bn rp.nm.length cn).ownBlock = some q) (E.set i ⟨E[i].e, k', a'⟩) w' := by
 refine (h.do hE hL hi hk hl).mono ?_
 rintro r w' ⟨bn, ln, cn, rfl, h1, h2, h3, h4⟩
 rw [hr] at h1 h2 h4
 rw [hr]
 subst h1
 exact ⟨bn, cn, rfl, h2, h3, h4.re rfl rfl hk'⟩
theorem Sts.doesA {rp : Rp} {a' : Ab} (k' : Nat) (h : Sts W0 T E w) (hE : Env W0) (hL : EnvL W0) (hi : i < E.length) (hk : E[i].k + 1 < 1000000000000) (hl : IsLn s l) (hr : lnA E[i].a l = (rp, a')) (hk' : E[i].k + 1 ≤ k' ∨ a'.grp = none) (h0 : rp.er = 0) (h1 : rp.at_ = 0) :
  Calls Tryz.prog 19 #[.pointer (some ⟨E[i].e, 0, none⟩), .string ⟨s.toArray⟩] w fun r w' => r = .returned (.bool true) ∧ Lv W0 T (E.set i ⟨E[i].e, k', a'⟩) w w' := by
 refine does_ok E[i].e s w (Lv W0 T (E.set i ⟨E[i].e, k', a'⟩) w) (fun w1 w2 h hb => h.next hb) ((h.doA k' hE hL hi hk hl hr hk').mono ?_)
 rintro r w' ⟨bn, cn, rfl, _, h3, h4⟩
 rw [h0, h1]
 exact ⟨⟨rp.tx, bn, _, cn, rp.kd, rp.nn, rfl⟩, h3, h4.less fun q hq => Or.inl hq⟩
theorem Sts.worthA {nm : By} (h : Sts W0 T E w) (hE : Env W0) (hL : EnvL W0) (hi : i < E.length) (hk : E[i].k + 1 < 1000000000000) (hg : E[i].a.grp = none) (hn : NmOk nm) (ho : NmO nm) :
  Calls Tryz.prog 24 #[.pointer (some ⟨E[i].e, 0, none⟩), .string ⟨nm.toArray⟩] w fun r w' => r = .returned (.tuple #[.int .i64 (valA E[i].a.fs nm).2.1, .int .i64 (valA E[i].a.fs nm).2.2]) ∧ Lv W0 T E w w' := by
 refine worth_ok E[i].e nm w (by have := ho.2; omega) (Lv W0 T E w) (fun w1 w2 h hb => h.next hb) _ _ ((h.doA E[i].k hE hL hi hk (isLn_value nm hn ho) rfl (Or.inr hg)).mono ?_)
 rintro r w' ⟨bn, cn, rfl, _, h3, h4⟩
 have e1 : E.set i ⟨E[i].e, E[i].k, E[i].a⟩ = E := List.set_getElem_self hi
 rw [e1] at h4
 exact ⟨⟨_, _, _, bn, _, cn, rfl⟩, h3, h4.less fun q hq => Or.inl hq⟩
theorem Sts.isA {nm : By} {n : Int} (h : Sts W0 T E w) (hE : Env W0) (hL : EnvL W0) (hi : i < E.length) (hk : E[i].k + 1 < 1000000000000) (hg : E[i].a.grp = none) (hn : NmOk nm) (ho : NmO nm) (hv : (valA E[i].a.fs nm).2 = (1, n)) :
  Calls Tryz.prog 26 #[.pointer (some ⟨E[i].e, 0, none⟩), .string ⟨nm.toArray⟩, .int .i64 n] w fun r w' => r = .returned (.bool true) ∧ Lv W0 T E w w' := by
 refine is_ok E[i].e nm w (Lv W0 T E w) n ((h.worthA hE hL hi hk hg hn ho).mono ?_)
 rintro r w' ⟨rfl, h1⟩
 rw [hv]
 exact ⟨rfl, h1⟩
theorem Sts.beginA (h : Sts W0 T E w) (M : Nat) (hM : M ≤ 6) : Calls Tryz.prog 18 #[.int .i64 (M : Int)] w fun r w' => ∃ e, r = .returned (.tuple #[.pointer (some ⟨e, 0, none⟩), .bool true]) ∧ Lv W0 T (E ++ [⟨e, 0, ⟨M, [], [], [], none⟩⟩]) w w' :=
 begin_ok (M : Int) w (fun e w' => Lv W0 T (E ++ [⟨e, 0, ⟨M, [], [], [], none⟩⟩]) w w') ((h.new M hM).mono fun r w' ⟨e, h1, h2, h3⟩ => ⟨e, h1, h2, h3⟩)
theorem lnA_ok {x : By} {p : Pt} {fs : List Fd} {nm : List By} (hg : a.grp = none) (h : setA a.fs x p = .ok fs nm) : lnA a (.set x p) = (⟨0, 0, [], nm, 0, 0⟩, ⟨a.M, fs, (a.fs :: a.past).take a.M, [], none⟩) := by
 simp [lnA, edR, h, editA, doneA, hg, AR.code, AR.names]
end
section
attribute [local go_sem] idx_eq app_eq
variable {W0 w w' W w1 w2 : World} {T T' : Nat → Prop} {E : List En} {e k i : Nat} {a : Ab} {s : By} {l : Ln}
theorem KeepB.over {o : Obj} (h : KeepB w.heap.size (w.alloc o) w') : Below w.heap.size w w' := by
 have hb := h.below
 have h0 : Below w.heap.size w (w.alloc o) := (Below.refl _ _).alloc (Nat.le_refl _) o
 exact h0.trans hb
theorem feed_new (s : By) (hs : s.length ≤ 9223372036854775807) (w : World) : FeedAt (w.alloc (.cells #[.string ⟨s.toArray⟩, .int .i64 0] 28)) w.heap.size s :=
 ⟨s, 0, heap_alloc_new w _, Nat.zero_le _, rfl, hs⟩
end
section
variable {a b : Ab} {fs fs' : List Fd} {x y : By} {p : Pt} {nms : List By}
theorem lstM_nil (h : ∀ x, mentP x p = false) : ∀ fs : List (Nat × Fd), lstM p fs = none
 | [] => rfl
 | g :: r => by simp [lstM, lstM_nil h r, h]
theorem settle_const (i : Nat) (f : Fd) (h : ∀ x, mentP x f.p = false) : ∃ fs' nm, settleA fs i f = .ok fs' nm := by
 unfold settleA mendF behindF
 rw [lstM_nil (p := (i, f).2.p) h]
 exact ⟨_, _, rfl⟩
theorem set_const (h : ∀ x, mentP x p = false) (hl : (∃ f, f ∈ fs ∧ f.nm = x) ∨ fs.length ≠ 10) : ∃ fs' nm, setA fs x p = .ok fs' nm := by
 unfold setA
 cases hf : fs.findIdx? (fun f => f.nm == x) with
 | some i =>
  obtain ⟨hi, _⟩ := List.findIdx?_eq_some_iff_getElem.1 hf
  simp only
  rw [List.getElem?_eq_getElem hi]
  exact settle_const _ _ h
 | none =>
  simp only
  rcases hl with ⟨f, h1, h2⟩ | hl
  ·have := List.findIdx?_eq_none_iff.1 hf f h1
   simp [h2] at this
  ·rw [if_neg hl]
   exact settle_const _ _ h
variable {X : By → Prop}
theorem len_sub : ∀ {l r : List By}, l.Nodup → (∀ x, x ∈ l → x ∈ r) → l.length ≤ r.length
 | [], _, _, _ => Nat.zero_le _
 | c :: l, r, hn, h => by
  rw [List.nodup_cons] at hn
  have hc := h c (by simp)
  have := len_sub (l := l) (r := r.erase c) hn.2 fun x hx => (List.mem_erase_of_ne (by rintro rfl; exact hn.1 hx)).2 (h x (by simp [hx]))
  rw [List.length_erase_of_mem hc] at this
  have hp := List.length_pos_of_mem hc
  simp only [List.length_cons]
  omega
def fewL : List By := (List.range 8).map fN
end
section
variable {fs fs' : List Fd} {x y : By} {p : Pt} {nms : List By}
theorem mend_id {gs : List (Nat × Fd)} (h : Topo gs) (i : Nat) (hi : i < gs.length) : mendF gs i gs[i] = .ok gs := by
 have ha : aheadF gs i gs[i] = (gs, i) := by
  unfold aheadF
  cases hf : fstM gs[i].2.nm (gs.take i) with
  | none => rfl
  | some j =>
   obtain ⟨hj, h1, _⟩ := fstM_some hf
   have hj' : j < i ∧ j < gs.length := by simp at hj; omega
   have := List.pairwise_iff_getElem.1 h.1 j i hj'.2 hi hj'.1
   unfold NM at this
   rw [List.getElem_take] at h1
   rw [this] at h1
   cases h1
 unfold mendF
 rw [ha]
 unfold behindF
 cases hl : lstM gs[i].2.p gs with
 | none => rfl
 | some l =>
  obtain ⟨hl1, h1, _⟩ := lstM_some hl
  simp only
  have : l < i := by
   rcases Nat.lt_trichotomy l i with h2 | h2 | h2
   ·exact h2
   ·subst h2
    have := h.2 _ (List.getElem_mem hi)
    unfold NM at this
    rw [this] at h1
    cases h1
   ·have := List.pairwise_iff_getElem.1 h.1 i l hi hl1 h2
    unfold NM at this
    rw [this] at h1
    cases h1
  rw [if_pos this]
end
section
theorem isD_ex {d : UInt8} (h : isD d = true) : ∃ i : Fin 10, d = UInt8.ofNat (48 + i.1) := by
 have key : ∀ n : Fin 256, isD (UInt8.ofNat n.1) = true → ∃ i : Fin 10, UInt8.ofNat n.1 = UInt8.ofNat (48 + i.1) := by decide +kernel
 have := key ⟨d.toNat, d.toNat_lt⟩ (by simpa using h)
 simpa using this
theorem fdig_facts {d : UInt8} (h : isD d = true) : headD [102, d] = false ∧ nameB [102, d] = true ∧ nmB [102, d] = [102, d] ∧ nuB [102, d] = 0 := by
 obtain ⟨i, rfl⟩ := isD_ex h
 clear h
 revert i
 decide +kernel
theorem RIp.f {d : UInt8} (h : isD d = true) : RIp 6 [102, d] 0 (.atom 2 [102, d] 0) := by
 obtain ⟨h1, h2, h3, h4⟩ := fdig_facts h
 have := RIp.one [102, d] 2 (Or.inr (Or.inr (Or.inr (Or.inr ⟨d, rfl, h⟩)))) (by simp) (Or.inr (Or.inl ⟨h1, h2, rfl⟩)) (by omega) (by
  rw [h3, h4]
  simp [txt, ahd, bhd, btw, ahdW, bhdW, btwW, numT, jn])
 rwa [h3, h4] at this
end
section
variable {W0 w w' W w1 w2 : World} {T T' : Nat → Prop} {E : List En} {e g k kb i : Nat} {a b a' : Ab} {s : By} {l : Ln} {rp : Rp} {fs fs' : List Fd} {nms : List By} {X : By → Prop}
theorem fsOk_nil : FsOk [] := ⟨⟨by simp [enumF], by simp [enumF], by simp [enumF, Topo], by simp [enumF], by simp [enumF]⟩, by simp, fun f hf => by simp at hf⟩
theorem nmOk_w {x : By} (h : x ≠ [] ∧ (∀ y, y ∈ x → isL y = true) ∧ x.length ≤ 6) (h2 : kindB x = 2) (h3 : nmB x = x) : NmOk x := ⟨GI.ti (Or.inr (Or.inr (Or.inr (Or.inl h)))) (by rintro rfl; exact absurd (h.2.1 32 (by simp)) (by decide)), h2, h3⟩
theorem nm_z : NmOk [122] := nmOk_w ⟨by simp, by decide, by simp⟩ (by decide) (by decide)
theorem nmo_z : NmO [122] := ⟨by simp, by simp⟩
theorem dg_none (d : Nat) : ∀ x, mentP x (dgP d) = false := fun x => by simp [mentP, dgP]
end
section
variable {fs fs' : List Fd} {x y : By} {p : Pt} {nms : List By}
theorem val_at (h : GF fs) {f : Fd} (hf : f ∈ fs) : valA fs f.nm = (0, f.v) ∧ rho (enumF fs) f.nm = f.v := by
 have hf2 : f ∈ (enumF fs).map Prod.snd := by rw [enumF_snd]; exact hf
 obtain ⟨q, hq, rfl⟩ := List.mem_map.1 hf2
 have hfq := findF_nn (fs := enumF fs) (by rw [enum_map fun g => g.nm]; exact h.nn) hq
 refine ⟨?_, ?_⟩
 ·have hfs : fs.find? (fun f => f.nm == q.2.nm) = some q.2 := by
   have := find_snd (enumF fs) q.2.nm
   rw [enumF_snd, hfq] at this
   exact this
  unfold valA
  rw [hfs]
 ·unfold rho
  rw [hfq]
end
section
variable {a b : Ab} {fs fs' A B : List Fd} {x y z : By} {p : Pt} {nms : List By} {f : Fd}
def TopF (fs : List Fd) : Prop := fs.Pairwise (fun g h => mentP h.nm g.p = false) ∧ ∀ g, g ∈ fs → mentP g.nm g.p = false
theorem topo_iff (fs : List Fd) : Topo (enumF fs) ↔ TopF fs := by
 have e1 : (enumF fs).Pairwise NM ↔ fs.Pairwise (fun g h => mentP h.nm g.p = false) := by
  have := List.pairwise_map (f := Prod.snd) (R := fun g h : Fd => mentP h.nm g.p = false) (l := enumF fs)
  rw [enumF_snd] at this
  exact this.symm
 constructor
 ·rintro ⟨h1, h2⟩
  refine ⟨e1.1 h1, fun g hg => ?_⟩
  have : g ∈ (enumF fs).map Prod.snd := by rw [enumF_snd]; exact hg
  obtain ⟨q, hq, rfl⟩ := List.mem_map.1 this
  exact h2 q hq
 ·rintro ⟨h1, h2⟩
  refine ⟨e1.2 h1, fun g hg => ?_⟩
  have := List.mem_map_of_mem (f := Prod.snd) hg
  rw [enumF_snd] at this
  exact h2 _ this
theorem GF.valsF (h : GF fs) (hf : f ∈ fs) : f.v = valP (rhoF fs) f.p := h.vals f hf
end
section
def num0 (r : By) : (By × Int) × By :=
 (if (nextB (nextB r 8).2 3).1 = 0 then (numB (nextB r 8).1, ((nextB r 8).1 : Int)) else (102 :: numB (nextB r 8).1, ((nextB r 8).1 : Int)), (nextB (nextB r 8).2 3).2)
def bitI (b : Bool) : Int := if b then 1 else 0
def truC (a b c : By × Int) (k : Nat) : By × Int :=
 if k = 0 then ([110, 111, 116, 32, 40] ++ c.1 ++ [41], 1 - c.2)
 else if k = 1 then (if c.2 = 0 then ([40] ++ c.1 ++ [41, 32, 97, 110, 100, 32, 110, 111, 98, 111, 100, 121], 0) else ([40] ++ c.1 ++ [41, 32, 97, 110, 100, 32] ++ a.1 ++ [32, 60, 32] ++ b.1, bitI (decide (a.2 < b.2))))
 else if k = 2 then (if c.2 = 1 then ([40] ++ c.1 ++ [41, 32, 111, 114, 32, 49, 32, 47, 32, 48, 32, 61, 32, 50], 1) else ([40] ++ c.1 ++ [41, 32, 111, 114, 32] ++ a.1 ++ [32, 61, 32] ++ b.1, bitI (a.2 == b.2)))
 else c
def truK : Nat → By → (By × Int) × By
 | 0, r => (if (nextB (num0 (num0 r).2).2 2).1 = 1 then ((num0 r).1.1 ++ [32, 60, 32] ++ (num0 (num0 r).2).1.1, bitI (decide ((num0 r).1.2 < (num0 (num0 r).2).1.2))) else ((num0 r).1.1 ++ [32, 61, 32] ++ (num0 (num0 r).2).1.1, bitI ((num0 r).1.2 == (num0 (num0 r).2).1.2)), (nextB (num0 (num0 r).2).2 2).2)
 | d + 1, r => (truC (num0 r).1 (num0 (num0 r).2).1 (truK d (num0 (num0 r).2).2).1 (nextB (truK d (num0 (num0 r).2).2).2 4).1, (nextB (truK d (num0 (num0 r).2).2).2 4).2)
def numC (a : By × Int) (n k : Nat) : By × Int :=
 if k = 0 then ([40] ++ a.1 ++ [41, 32, 45, 32] ++ (102 :: numB n), wrap64 (a.2 - (n : Int)))
 else if k = 1 then ([40] ++ a.1 ++ [41, 32, 42, 32] ++ (102 :: numB n), wrap64 (a.2 * (n : Int)))
 else if k = 2 then ([40] ++ a.1 ++ [41, 32, 47, 32, 51], a.2.tdiv 3)
 else if k = 3 then ([40] ++ a.1 ++ [41, 32, 37, 32, 51], a.2.tmod 3)
 else if k = 4 then ([45, 40] ++ a.1 ++ [41], wrap64 (-a.2))
 else ([40] ++ a.1 ++ [41, 32, 43, 32] ++ (102 :: numB n), wrap64 (a.2 + (n : Int)))
def numI (b : By × Int) (n : Nat) : By × Int :=
 if b.2 = 1 then ([105, 102, 40] ++ b.1 ++ [44, 32] ++ (102 :: numB n) ++ [44, 32, 110, 111, 98, 111, 100, 121, 41], (n : Int)) else ([105, 102, 40] ++ b.1 ++ [44, 32, 49, 32, 47, 32, 48, 44, 32] ++ (102 :: numB n) ++ [41], (n : Int))
def numK : Nat → By → (By × Int) × By
 | 0, r => num0 r
 | d + 1, r => if (nextB (nextB (numK d r).2 8).2 7).1 = 5 then (numI (truK d (nextB (nextB (numK d r).2 8).2 7).2).1 (nextB (numK d r).2 8).1, (truK d (nextB (nextB (numK d r).2 8).2 7).2).2)
  else (numC (numK d r).1 (nextB (numK d r).2 8).1 (nextB (nextB (numK d r).2 8).2 7).1, (nextB (nextB (numK d r).2 8).2 7).2)
theorem numB_8 : ∀ n : Fin 8, (numB n.1).length = 1 := by decide +kernel
theorem numB_1 (r : By) : (numB (nextB r 8).1).length = 1 := numB_8 ⟨_, nextB_lt r 8 (by decide)⟩
theorem num0_len (r : By) : (num0 r).1.1.length ≤ 2 := by
 have h := numB_1 r
 unfold num0
 simp only
 split <;> simp <;> omega
theorem truK_len : ∀ (d : Nat) (r : By), (truK d r).1.1.length ≤ 16 * d + 7
 | 0, r => by
  have h1 := num0_len r
  have h2 := num0_len (num0 r).2
  unfold truK
  simp only
  split <;> simp <;> omega
 | d + 1, r => by
  have h1 := num0_len r
  have h2 := num0_len (num0 r).2
  have h3 := truK_len d (num0 (num0 r).2).2
  unfold truK truC
  simp only
  repeat' split
  all_goals (simp <;> omega)
theorem numK_len : ∀ (d : Nat) (r : By), (numK d r).1.1.length ≤ 16 * d + 30
 | 0, r => by
  have := num0_len r
  unfold numK
  omega
 | d + 1, r => by
  have h1 := numK_len d r
  have h2 := numB_1 (numK d r).2
  have h3 := truK_len d (nextB (nextB (numK d r).2 8).2 7).2
  unfold numK numI numC
  repeat' split
  all_goals (simp <;> omega)
theorem num0_int (r : By) : 0 ≤ (num0 r).1.2 ∧ (num0 r).1.2 < 8 := by
 have h := nextB_lt r 8 (by decide)
 unfold num0
 simp only
 split <;> simp <;> omega
theorem bitI_01 (b : Bool) : bitI b = 0 ∨ bitI b = 1 := by cases b <;> simp [bitI]
theorem truK_01 : ∀ (d : Nat) (r : By), (truK d r).1.2 = 0 ∨ (truK d r).1.2 = 1
 | 0, r => by
  unfold truK
  simp only
  split <;> exact bitI_01 _
 | d + 1, r => by
  have h := truK_01 d (num0 (num0 r).2).2
  unfold truK truC
  simp only
  repeat' split
  ·simp only; omega
  ·exact Or.inl rfl
  ·exact bitI_01 _
  ·exact Or.inr rfl
  ·exact bitI_01 _
  ·exact h
theorem wrap64_in (z : Int) : -9223372036854775808 ≤ wrap64 z ∧ wrap64 z ≤ 9223372036854775807 := by unfold wrap64; omega
theorem numK_in : ∀ (d : Nat) (r : By), -9223372036854775808 ≤ (numK d r).1.2 ∧ (numK d r).1.2 ≤ 9223372036854775807
 | 0, r => by
  have := num0_int r
  unfold numK
  omega
 | d + 1, r => by
  have h := numK_in d r
  have h2 := nextB_lt (numK d r).2 8 (by decide)
  unfold numK numI numC
  repeat' split
  all_goals simp only
  all_goals first | exact wrap64_in _ | omega | skip
  all_goals
   have h3 := Int.tmod_lt_of_pos (numK d r).1.2 (b := 3) (by decide)
   have h4 := Int.lt_tmod_of_pos (numK d r).1.2 (b := 3) (by decide)
   have h5 := Int.mul_tdiv_add_tmod (numK d r).1.2 3
   omega
end
section
def nobodyB : By := [110, 111, 98, 111, 100, 121]
def MK (p : Pt) : Prop := ∀ x, mentP x p = true → (∃ n, n < 8 ∧ x = 102 :: numB n) ∨ x = nobodyB
def Rg (ρ : By → Vl) : Prop := (∀ n, n < 8 → ρ (102 :: numB n) = (1, (n : Int))) ∧ ρ nobodyB = (3, 3)
def NK (n : Nat) (s : By) (m : Nat) (v : Vl) : Prop := ∃ p, RIp n s m p ∧ MK p ∧ ∀ ρ, Rg ρ → valP ρ p = v
variable {n m k ma mb mc : Nat} {s a b c op : By} {v va vb vc : Vl} {z : Int}
theorem NK.up (h : NK n s m v) (k : Nat) (h1 : 1 ≤ k) (h2 : k ≤ n) (h6 : n ≤ 6) : NK k s m v := by
 obtain ⟨p, h, r⟩ := h
 exact ⟨p, h.up k h1 h2 h6, r⟩
theorem NK.le (h : NK n s m v) {m' : Nat} (hm : m ≤ m') : NK n s m' v := by
 obtain ⟨p, h, r⟩ := h
 exact ⟨p, h.le hm, r⟩
theorem NK.as (h : NK n s m v) {t : By} (e : s = t) : NK n t m v := e ▸ h
theorem NK.val (h : NK n s m v) {u : Vl} (e : v = u) : NK n s m u := e ▸ h
theorem NK.br (h : NK 1 s m v) : NK 6 ([40] ++ s ++ [41]) (m + 1) v := by
 obtain ⟨p, h, h1, h2⟩ := h
 refine ⟨_, h.br, fun x hx => h1 x (by simpa [mentP] using hx), fun ρ hρ => ?_⟩
 rw [← h2 ρ hρ]
 simp [valP]
theorem NK.neg (h : NK 6 s m (1, z)) : NK 6 ([45] ++ s) (m + 1) (1, wrap64 (-z)) := by
 obtain ⟨p, h, h1, h2⟩ := h
 refine ⟨_, h.neg, fun x hx => h1 x (by simpa [mentP] using hx), fun ρ hρ => ?_⟩
 simp [valP, h2 ρ hρ, vOnly, vMinus]
theorem NK.nots (h : NK 3 s m (2, z)) : NK 3 ([110, 111, 116, 32] ++ s) (m + 1) (vTruth (z == 0)) := by
 obtain ⟨p, h, h1, h2⟩ := h
 refine ⟨_, h.nots, fun x hx => h1 x (by simpa [mentP] using hx), fun ρ hρ => ?_⟩
 simp [valP, h2 ρ hρ, vOnly, vOpp]
def vBin (k : Nat) (a b : Vl) : Vl := if k = 4 then vUnless (2, 0) a b else if k = 5 then vUnless (2, 1) a b else vTwo k a b
theorem NK.two (h1 : 1 ≤ n) (h5 : n ≤ 5) (ha : NK (if n = 3 then 4 else n) a ma va) (hb : NK (n + 1) b mb vb) (hg : GI op) (h32 : op ≠ [32]) (hs : inB op (sgn n) = true) (hc : Cls op k) (hk : k ≠ 2) (hbt : btw k = 32 :: op ++ [32] ∧ ahd k = [] ∧ bhd k = [] ∧ k ≠ 1) : NK n (a ++ [32] ++ op ++ [32] ++ b) (max ma mb) (vBin k va vb) := by
 obtain ⟨pa, ha, a1, a2⟩ := ha
 obtain ⟨pb, hb, b1, b2⟩ := hb
 refine ⟨_, by simpa using RIp.two h1 h5 ha hb hg h32 hs hc hbt, fun x hx => ?_, fun ρ hρ => ?_⟩
 ·simp [mentP, hk] at hx
  rcases hx with hx | hx
  ·exact a1 x hx
  ·exact b1 x hx
 ·simp only [valP, a2 ρ hρ, b2 ρ hρ, vBin]
theorem NK.ifs (ha : NK 1 a ma va) (hb : NK 1 b mb vb) (hc : NK 1 c mc vc) : NK 6 ([105, 102, 40] ++ a ++ [44, 32] ++ b ++ [44, 32] ++ c ++ [41]) (max ma (max mb mc) + 1) (vChoice va vb vc) := by
 obtain ⟨pa, ha, a1, a2⟩ := ha
 obtain ⟨pb, hb, b1, b2⟩ := hb
 obtain ⟨pc, hc, c1, c2⟩ := hc
 refine ⟨_, RIp.ifs ha hb hc, fun x hx => ?_, fun ρ hρ => ?_⟩
 ·simp [mentP] at hx
  rcases hx with hx | hx | hx
  ·exact a1 x hx
  ·exact b1 x hx
  ·exact c1 x hx
 ·simp only [valP, a2 ρ hρ, b2 ρ hρ, c2 ρ hρ]
theorem NK.num (n : Nat) (hn : n < 10) : NK 6 (numB n) 0 (1, (n : Int)) := by
 obtain ⟨a1, a2, a3, a4, a5⟩ := num_facts ⟨n, hn⟩
 simp only at a1 a2 a3 a4 a5
 have h := RIp.one (numB n) 1 (Or.inr (Or.inr (Or.inl ⟨_, a1, a2⟩))) (by intro e; rw [e] at a3; revert a3; decide) (Or.inl ⟨a3, rfl⟩) (by omega) (by
  rw [a4, a5]
  simp [txt, ahd, bhd, btw, ahdW, bhdW, btwW, numT, jn, numB])
 rw [a4, a5] at h
 exact ⟨_, h, fun x hx => by simp [mentP] at hx, fun ρ _ => by simp [valP]⟩
theorem NK.f (n : Nat) (hn : n < 8) : NK 6 (102 :: numB n) 0 (1, (n : Int)) := by
 obtain ⟨a1, a2, a3, a4, a5, a6⟩ := few_facts ⟨n, hn⟩
 simp only at a1 a2 a3 a4 a5 a6
 have h := RIp.one (102 :: numB n) 2 (Or.inr (Or.inr (Or.inr (Or.inr ⟨_, by rw [a1], a2⟩)))) (by rw [a1]; simp) (Or.inr (Or.inl ⟨a3, a4, rfl⟩)) (by omega) (by
  rw [a5, a6]
  simp [txt, ahd, bhd, btw, ahdW, bhdW, btwW, numT, jn])
 rw [a5, a6] at h
 refine ⟨_, h, fun x hx => ?_, fun ρ hρ => ?_⟩
 ·simp [mentP] at hx
  exact Or.inl ⟨n, hn, hx.symm⟩
 ·simp [valP, hρ.1 n hn]
theorem NK.nobody : NK 6 nobodyB 0 (3, 3) := by
 have h := RIp.one nobodyB 2 (gword ⟨by decide, by decide, by decide⟩) (by decide) (Or.inr (Or.inl ⟨by decide, by decide, rfl⟩)) (by omega) (by decide +kernel)
 have e1 : nmB nobodyB = nobodyB := by decide +kernel
 have e2 : nuB nobodyB = 0 := by decide +kernel
 rw [e1, e2] at h
 refine ⟨_, h, fun x hx => ?_, fun ρ hρ => ?_⟩
 ·simp [mentP] at hx
  exact Or.inr hx.symm
 ·simp [valP, hρ.2]
theorem num0_nk (r : By) : NK 6 (num0 r).1.1 0 (1, (num0 r).1.2) := by
 have h := nextB_lt r 8 (by decide)
 unfold num0
 simp only
 split
 ·exact NK.num _ (by omega)
 ·exact NK.f _ h
theorem lt_nk (r q : By) : NK 3 ((num0 r).1.1 ++ [32, 60, 32] ++ (num0 q).1.1) 0 (2, bitI (decide ((num0 r).1.2 < (num0 q).1.2))) := by
 have h := NK.two (n := 3) (k := 19) (op := [60]) (by decide) (by decide) ((num0_nk r).up 4 (by decide) (by decide) (by decide)) ((num0_nk q).up 4 (by decide) (by decide) (by decide)) (gsign (by decide)) (by decide) (by decide) (cmean (by decide)) (by decide) (by decide)
 exact (h.as (by simp)).val (by simp [vBin, vTwo, vInts, vTruth, bitI])
theorem eq_nk (r q : By) : NK 3 ((num0 r).1.1 ++ [32, 61, 32] ++ (num0 q).1.1) 0 (2, bitI ((num0 r).1.2 == (num0 q).1.2)) := by
 have h := NK.two (n := 3) (k := 18) (op := [61]) (by decide) (by decide) ((num0_nk r).up 4 (by decide) (by decide) (by decide)) ((num0_nk q).up 4 (by decide) (by decide) (by decide)) (gsign (by decide)) (by decide) (by decide) (cmean (by decide)) (by decide) (by decide)
 exact (h.as (by simp)).val (by simp [vBin, vTwo, vInts, vTruth, bitI])
theorem NK.dig (d : Nat) (hd : d < 10) {x : By} (hx : numB d = x) : NK 6 x 0 (1, (d : Int)) := (NK.num d hd).as hx
theorem div0_nk : NK 5 [49, 32, 47, 32, 48] 0 (3, 1) := by
 have h := NK.two (n := 5) (k := 16) (op := [47]) (by decide) (by decide) ((NK.dig 1 (by decide) (x := [49]) (by decide +kernel)).up 5 (by decide) (by decide) (by decide)) (NK.dig 0 (by decide) (x := [48]) (by decide +kernel)) (gsign (by decide)) (by decide) (by decide) (cmean (by decide)) (by decide) (by decide)
 exact (h.as (by simp)).val (by simp [vBin, vTwo, vInts, vFail])
theorem div2_nk : NK 3 [49, 32, 47, 32, 48, 32, 61, 32, 50] 0 (3, 1) := by
 have h := NK.two (n := 3) (k := 18) (op := [61]) (by decide) (by decide) (div0_nk.up 4 (by decide) (by decide) (by decide)) ((NK.dig 2 (by decide) (x := [50]) (by decide +kernel)).up 4 (by decide) (by decide) (by decide)) (gsign (by decide)) (by decide) (by decide) (cmean (by decide)) (by decide) (by decide)
 exact (h.as (by simp)).val (by simp [vBin, vTwo])
theorem truK_nk : ∀ (d : Nat) (r : By), NK 1 (truK d r).1.1 (2 * d) (2, (truK d r).1.2)
 | 0, r => by
  unfold truK
  simp only
  split
  ·exact (lt_nk _ _).up 1 (by decide) (by decide) (by decide)
  ·exact (eq_nk _ _).up 1 (by decide) (by decide) (by decide)
 | d + 1, r => by
  have ic := truK_nk d (num0 (num0 r).2).2
  have h01 := truK_01 d (num0 (num0 r).2).2
  have hl := lt_nk r (num0 r).2
  have he := eq_nk r (num0 r).2
  unfold truK truC
  simp only
  rcases hC : truK d (num0 (num0 r).2).2 with ⟨⟨tc, nc⟩, rc⟩
  rw [hC] at ic h01
  simp only at ic h01 ⊢
  have hand : ∀ (x : By) (m : Nat) (v : Vl), NK 3 x m v → m ≤ 2 * d + 2 → NK 1 ([40] ++ tc ++ [41, 32, 97, 110, 100, 32] ++ x) (2 * (d + 1)) (vUnless (2, 0) (2, nc) v) := fun x m v hx hm => by
   have h := NK.two (n := 2) (k := 4) (op := [97, 110, 100]) (by decide) (by decide) (ic.br.up 2 (by decide) (by decide) (by decide)) hx (gword ⟨by simp, by decide, by simp⟩) (by decide) (by decide) (cmean (by decide)) (by decide) (by decide)
   exact (((h.up 1 (by decide) (by decide) (by decide)).as (by simp)).le (by omega)).val (by simp [vBin])
  have hor : ∀ (x : By) (m : Nat) (v : Vl), NK 3 x m v → m ≤ 2 * d + 2 → NK 1 ([40] ++ tc ++ [41, 32, 111, 114, 32] ++ x) (2 * (d + 1)) (vUnless (2, 1) (2, nc) v) := fun x m v hx hm => by
   have h := NK.two (n := 1) (k := 5) (op := [111, 114]) (by decide) (by decide) (ic.br.up 1 (by decide) (by decide) (by decide)) (hx.up 2 (by decide) (by decide) (by decide)) (gword ⟨by simp, by decide, by simp⟩) (by decide) (by decide) (cmean (by decide)) (by decide) (by decide)
   exact ((h.as (by simp)).le (by omega)).val (by simp [vBin])
  split
  ·have h := ((ic.br.up 3 (by decide) (by decide) (by decide)).nots).up 1 (by decide) (by decide) (by decide)
   refine ((h.as (by simp)).le (by omega)).val ?_
   rcases h01 with rfl | rfl <;> simp [vTruth]
  ·split
   ·split
    ·rename_i hc
     refine ((hand nobodyB 0 (3, 3) (NK.nobody.up 3 (by decide) (by decide) (by decide)) (by omega)).as (by simp [nobodyB])).val ?_
     rw [hc]
     simp [vUnless, vOnly]
    ·rename_i hc
     obtain rfl : nc = 1 := by omega
     exact ((hand _ 0 _ hl (by omega)).as (by simp)).val (by simp [vUnless, vOnly])
   ·split
    ·split
     ·rename_i hc
      refine ((hor _ 0 (3, 1) div2_nk (by omega)).as (by simp)).val ?_
      rw [hc]
      simp [vUnless, vOnly]
     ·rename_i hc
      obtain rfl : nc = 0 := by omega
      exact ((hor _ 0 _ he (by omega)).as (by simp)).val (by simp [vUnless, vOnly])
    ·exact ic.le (m' := 2 * (d + 1)) (by omega)
theorem wrap64_id {z : Int} (h : -9223372036854775808 ≤ z ∧ z ≤ 9223372036854775807) : wrap64 z = z := by unfold wrap64; omega
theorem tdiv_in {z : Int} (h : -9223372036854775808 ≤ z ∧ z ≤ 9223372036854775807) : -9223372036854775808 ≤ z.tdiv 3 ∧ z.tdiv 3 ≤ 9223372036854775807 := by
 have h3 := Int.tmod_lt_of_pos z (b := 3) (by decide)
 have h4 := Int.lt_tmod_of_pos z (b := 3) (by decide)
 have h5 := Int.mul_tdiv_add_tmod z 3
 omega
theorem numK_nk : ∀ (d : Nat) (r : By), NK 1 (numK d r).1.1 (2 * d) (1, (numK d r).1.2)
 | 0, r => by
  unfold numK
  exact (num0_nk r).up 1 (by decide) (by decide) (by decide)
 | d + 1, r => by
  have ia := numK_nk d r
  have hin := numK_in d r
  have hn := nextB_lt (numK d r).2 8 (by decide)
  have ib := truK_nk d (nextB (nextB (numK d r).2 8).2 7).2
  have b01 := truK_01 d (nextB (nextB (numK d r).2 8).2 7).2
  unfold numK
  rcases hK : numK d r with ⟨⟨ta, na⟩, ra⟩
  rw [hK] at ia hin hn ib b01
  simp only at ia hin hn ib b01 ⊢
  generalize (nextB ra 8).1 = n at *
  rcases hT : truK d (nextB (nextB ra 8).2 7).2 with ⟨⟨tb, nb⟩, rt⟩
  rw [hT] at ib b01
  simp only at ib b01 ⊢
  have hf := NK.f n hn
  have h4 : ∀ (k : Nat) (op : By), (op = [45] ∧ k = 13) ∨ (op = [43] ∧ k = 12) → NK 1 ([40] ++ ta ++ [41] ++ [32] ++ op ++ [32] ++ (102 :: numB n)) (2 * (d + 1)) (vTwo k (1, na) (1, (n : Int))) := fun k op hk => by
   rcases hk with ⟨rfl, rfl⟩ | ⟨rfl, rfl⟩
   ·have h := NK.two (n := 4) (k := 13) (op := [45]) (by decide) (by decide) (ia.br.up 4 (by decide) (by decide) (by decide)) (hf.up 5 (by decide) (by decide) (by decide)) (gsign (by decide)) (by decide) (by decide) (cmean (by decide)) (by decide) (by decide)
    exact (((h.up 1 (by decide) (by decide) (by decide)).as (by simp)).le (by omega)).val (by simp [vBin])
   ·have h := NK.two (n := 4) (k := 12) (op := [43]) (by decide) (by decide) (ia.br.up 4 (by decide) (by decide) (by decide)) (hf.up 5 (by decide) (by decide) (by decide)) (gsign (by decide)) (by decide) (by decide) (cmean (by decide)) (by decide) (by decide)
    exact (((h.up 1 (by decide) (by decide) (by decide)).as (by simp)).le (by omega)).val (by simp [vBin])
  have h5 : ∀ (k : Nat) (op x : By) (j : Int), NK 6 x 0 (1, j) → (op = [42] ∧ k = 15) ∨ (op = [47] ∧ k = 16) ∨ (op = [37] ∧ k = 17) → NK 1 ([40] ++ ta ++ [41] ++ [32] ++ op ++ [32] ++ x) (2 * (d + 1)) (vTwo k (1, na) (1, j)) := fun k op x j hx hk => by
   rcases hk with ⟨rfl, rfl⟩ | ⟨rfl, rfl⟩ | ⟨rfl, rfl⟩
   ·have h := NK.two (n := 5) (k := 15) (op := [42]) (by decide) (by decide) (ia.br.up 5 (by decide) (by decide) (by decide)) hx (gsign (by decide)) (by decide) (by decide) (cmean (by decide)) (by decide) (by decide)
    exact (((h.up 1 (by decide) (by decide) (by decide)).as (by simp)).le (by omega)).val (by simp [vBin])
   ·have h := NK.two (n := 5) (k := 16) (op := [47]) (by decide) (by decide) (ia.br.up 5 (by decide) (by decide) (by decide)) hx (gsign (by decide)) (by decide) (by decide) (cmean (by decide)) (by decide) (by decide)
    exact (((h.up 1 (by decide) (by decide) (by decide)).as (by simp)).le (by omega)).val (by simp [vBin])
   ·have h := NK.two (n := 5) (k := 17) (op := [37]) (by decide) (by decide) (ia.br.up 5 (by decide) (by decide) (by decide)) hx (gsign (by decide)) (by decide) (by decide) (cmean (by decide)) (by decide) (by decide)
    exact (((h.up 1 (by decide) (by decide) (by decide)).as (by simp)).le (by omega)).val (by simp [vBin])
  have h3 := NK.dig 3 (by decide) (x := [51]) (by decide +kernel)
  split
  ·unfold numI
   split
   ·rename_i hb
    have h := (NK.ifs ib (hf.up 1 (by decide) (by decide) (by decide)) (NK.nobody.up 1 (by decide) (by decide) (by decide))).up 1 (by decide) (by decide) (by decide)
    refine ((h.as (by simp [nobodyB])).le (by omega)).val ?_
    have hb' : nb = 1 := hb
    rw [hb']
    simp [vChoice, vOnly]
   ·rename_i hb
    have hb' : ¬ nb = 1 := hb
    obtain rfl : nb = 0 := by omega
    have h := (NK.ifs ib (div0_nk.up 1 (by decide) (by decide) (by decide)) (hf.up 1 (by decide) (by decide) (by decide))).up 1 (by decide) (by decide) (by decide)
    refine ((h.as (by simp)).le (by omega)).val ?_
    simp [vChoice, vOnly]
  ·unfold numC
   simp only
   split
   ·exact ((h4 13 [45] (Or.inl ⟨rfl, rfl⟩)).as (by simp)).val (by simp [vTwo, vInts])
   ·split
    ·exact ((h5 15 [42] _ _ hf (Or.inl ⟨rfl, rfl⟩)).as (by simp)).val (by simp [vTwo, vInts])
    ·split
     ·exact ((h5 16 [47] _ _ h3 (Or.inr (Or.inl ⟨rfl, rfl⟩))).as (by simp)).val (by simp [vTwo, vInts, wrap64_id (tdiv_in hin)])
     ·split
      ·exact ((h5 17 [37] _ _ h3 (Or.inr (Or.inr ⟨rfl, rfl⟩))).as (by simp)).val (by simp [vTwo, vInts])
      ·split
       ·exact ((ia.br.neg.up 1 (by decide) (by decide) (by decide)).as (by simp)).le (by omega)
       ·exact ((h4 12 [43] (Or.inr ⟨rfl, rfl⟩)).as (by simp)).val (by simp [vTwo, vInts])
end
section
variable {fs fs' A B : List Fd} {x y z s : By} {p : Pt} {nms : List By} {f : Fd} {i n m : Nat} {zp : Option Pt}
theorem lstM_free : ∀ gs : List (Nat × Fd), (∀ g, g ∈ gs → mentP g.2.nm p = false) → lstM p gs = none
 | [], _ => rfl
 | g :: r, h => by simp [lstM, lstM_free r fun x hx => h x (by simp [hx]), h g (by simp)]
theorem find_nox (hx : ∀ f, f ∈ fs → f.nm ≠ x) : fs.findIdx? (fun g => g.nm == x) = none := by
 rw [List.findIdx?_eq_none_iff]
 intro g hg
 simpa using hx g hg
theorem set_free (hx : ∀ f, f ∈ fs → f.nm ≠ x) (hl : fs.length ≠ 10) (hm : ∀ f, f ∈ fs → mentP f.nm p = false) (hs : mentP x p = false) : ∃ fs' nm, setA fs x p = .ok fs' nm := by
 unfold setA
 rw [find_nox hx]
 simp only
 rw [if_neg hl]
 unfold settleA mendF behindF
 have : ∀ at_ f0, f0.2.p = p → (∀ g, g ∈ (aheadF (enumF (fs ++ [⟨x, p, (0, 0)⟩])) at_ f0).1 → mentP g.2.nm p = false) → lstM f0.2.p (aheadF (enumF (fs ++ [⟨x, p, (0, 0)⟩])) at_ f0).1 = none := fun at_ f0 he h => by
  rw [he]
  exact lstM_free _ h
 rw [this _ _ rfl]
 ·exact ⟨_, _, rfl⟩
 ·intro g hg
  have h1 := List.mem_map_of_mem (f := Prod.snd) (aheadF_mem _ _ _ g hg)
  rw [enumF_snd] at h1
  rcases List.mem_append.1 h1 with h | h
  ·exact hm _ h
  ·rw [List.mem_singleton.1 h]
   exact hs
theorem set_new (hok : FsOk fs) (hx : ∀ f, f ∈ fs → f.nm ≠ x) (hl : fs.length ≠ 10) (hm : ∀ f, f ∈ fs → mentP x f.p = false) (hs : mentP x p = false) : ∃ fs' nm, setA fs x p = .ok fs' nm := by
 obtain ⟨t1, t2⟩ := (topo_iff _).1 hok.gf.topo
 have htop : Topo (enumF (fs ++ [⟨x, p, (0, 0)⟩])) := by
  refine (topo_iff _).2 ⟨?_, fun g hg => ?_⟩
  ·rw [List.pairwise_append]
   refine ⟨t1, by simp, fun g hg h hh => ?_⟩
   rw [List.mem_singleton.1 hh]
   exact hm g hg
  ·rcases List.mem_append.1 hg with h | h
   ·exact t2 g h
   ·rw [List.mem_singleton.1 h]
    exact hs
 have hgl : fs.length < (enumF (fs ++ [(⟨x, p, (0, 0)⟩ : Fd)])).length := by rw [enumF_length]; simp
 have hgi : (enumF (fs ++ [(⟨x, p, (0, 0)⟩ : Fd)]))[fs.length] = (fs.length, ⟨x, p, (0, 0)⟩) := by
  have := enumF_at (fs ++ [(⟨x, p, (0, 0)⟩ : Fd)]) fs.length (by simp)
  rw [List.getElem?_eq_getElem hgl] at this
  simpa using this
 have hmd := mend_id htop fs.length hgl
 rw [hgi] at hmd
 unfold setA
 rw [find_nox hx]
 simp only
 rw [if_neg hl]
 unfold settleA
 rw [hmd]
 exact ⟨_, _, rfl⟩
def prs (fs : List Fd) : List (By × Pt) := fs.map fun g => (g.nm, g.p)
theorem prs_mem (h : f ∈ fs) : (f.nm, f.p) ∈ prs fs := List.mem_map.2 ⟨f, h, rfl⟩
theorem set_prs (hG : GF fs) (hsh : Shape p) (hx : ∀ f, f ∈ fs → f.nm ≠ x) (h : setA fs x p = .ok fs' nms) (q : By × Pt) : q ∈ prs fs' ↔ q ∈ prs fs ∨ q = (x, p) := by
 rcases (setA_right hG hsh h).2 with ⟨A, f, B, rfl, e, _⟩ | ⟨_, _, hp⟩
 ·exact absurd e (hx f (by simp))
 ·unfold prs
  rw [hp.mem_iff]
  simp
theorem set_old (hG : GF fs) (hsh : Shape p) (hn : (fs.map fun g => g.nm).Nodup) (hx : x ∈ fs.map fun g => g.nm) (h : setA fs x p = .ok fs' nms) : (x, p) ∈ prs fs' ∧ ∀ q, q ∈ prs fs → q.1 ≠ x → q ∈ prs fs' := by
 rcases (setA_right hG hsh h).2 with ⟨A, f, B, rfl, e, hp⟩ | ⟨hno, _, _⟩
 ·refine ⟨?_, fun q hq hne => ?_⟩
  ·unfold prs
   rw [hp.mem_iff]
   simp
  ·unfold prs at hq ⊢
   rw [hp.mem_iff]
   simp only [List.map_append, List.map_cons, List.mem_append, List.mem_cons] at hq ⊢
   rcases hq with h | h | h
   ·exact Or.inl h
   ·exact absurd (by rw [h]; exact e) hne
   ·exact Or.inr (Or.inr h)
 ·obtain ⟨g, hg, he⟩ := List.mem_map.1 hx
  exact absurd he (hno g hg)
theorem prs_val (hG : GF fs) (h : (x, p) ∈ prs fs) : valA fs x = (0, valP (rhoF fs) p) ∧ rhoF fs x = valP (rhoF fs) p := by
 obtain ⟨f, hf, he⟩ := List.mem_map.1 h
 simp only [Prod.mk.injEq] at he
 obtain ⟨h1, h2⟩ := val_at hG hf
 rw [rho_rhoF, enumF_snd] at h2
 have h3 := hG.valsF hf
 rw [he.1] at h1 h2
 rw [he.2] at h3
 rw [← h3]
 exact ⟨h1, h2⟩
theorem prs_no (h : ∀ q, q ∈ prs fs → q.1 ≠ x) : rhoF fs x = (3, 3) := by
 have hf : fs.find? (fun f => f.nm == x) = none := by
  rw [List.find?_eq_none]
  intro f hf
  simpa using h _ (prs_mem hf)
 unfold rhoF
 rw [hf]
def kRl (i : Nat) : Pt := if i % 3 = 2 then .bin 12 (nmP (i - 1)) (dgP 1) else dgP i
theorem kRl_shape (i : Nat) : Shape (kRl i) := by
 unfold kRl
 split <;> simp [nmP, dgP, Shape]
theorem kRl_ment (i : Nat) (x : By) (h : mentP x (kRl i) = true) : i % 3 = 2 ∧ x = fN (i - 1) := by
 unfold kRl at h
 split at h
 ·rename_i hi
  simp [mentP, nmP, dgP] at h
  exact ⟨hi, h.symm⟩
 ·simp [mentP, dgP] at h
theorem fN_i : ∀ i, i < 10 → ∀ j, j < 10 → fN i = fN j → i = j := by decide
theorem fN_zy : ∀ i, i < 10 → fN i ≠ [122] ∧ fN i ≠ [121] ∧ fN i ≠ nobodyB := by decide
theorem fN_numB : ∀ i, i < 8 → 102 :: numB i = fN i := by decide +kernel
structure KI (fs : List Fd) (i : Nat) (zp : Option Pt) : Prop where
 ok : FsOk fs
 mem : ∀ j, i ≤ j → j < 8 → (fN j, kRl j) ∈ prs fs
 zed : ∀ p, zp = some p → ([122], p) ∈ prs fs
 only : ∀ q, q ∈ prs fs → (∃ j, i ≤ j ∧ j < 8 ∧ q = (fN j, kRl j)) ∨ (∃ p, zp = some p ∧ q = ([122], p))
theorem KI.len (h : KI fs i zp) : fs.length ≤ 9 := by
 have := len_sub (l := fs.map fun g => g.nm) (r := fewL ++ [[122]]) h.ok.nd fun x hx => by
  obtain ⟨f, hf, rfl⟩ := List.mem_map.1 hx
  rcases h.only _ (prs_mem hf) with ⟨j, _, hj, he⟩ | ⟨p, _, he⟩
  ·rw [show f.nm = fN j from congrArg Prod.fst he]
   exact List.mem_append_left _ (List.mem_map.2 ⟨j, List.mem_range.2 hj, rfl⟩)
  ·rw [show f.nm = [122] from congrArg Prod.fst he]
   simp
 simpa [fewL] using this
theorem KI.step (h : KI fs (i + 1) zp) (hi : i < 8) : ∃ fs' nm, setA fs (fN i) (kRl i) = .ok fs' nm ∧ KI fs' i zp := by
 have hx : ∀ f, f ∈ fs → f.nm ≠ fN i := fun f hf e => by
  rcases h.only _ (prs_mem hf) with ⟨j, h1, h2, he⟩ | ⟨p, _, he⟩
  ·have := fN_i j (by omega) i (by omega) ((congrArg Prod.fst he).symm.trans e)
   omega
  ·exact (fN_zy i (by omega)).1 (e.symm.trans (congrArg Prod.fst he))
 have hm : ∀ f, f ∈ fs → mentP f.nm (kRl i) = false := fun f hf => by
  cases hc : mentP f.nm (kRl i) with
  | false => rfl
  | true =>
   obtain ⟨h1, h2⟩ := kRl_ment i _ hc
   rcases h.only _ (prs_mem hf) with ⟨j, h3, h4, he⟩ | ⟨p, _, he⟩
   ·have := fN_i j (by omega) (i - 1) (by omega) ((congrArg Prod.fst he).symm.trans h2)
    omega
   ·exact absurd (h2.symm.trans (congrArg Prod.fst he)) (fN_zy _ (by omega)).1
 have hs : mentP (fN i) (kRl i) = false := by
  cases hc : mentP (fN i) (kRl i) with
  | false => rfl
  | true =>
   obtain ⟨h1, h2⟩ := kRl_ment i _ hc
   have := fN_i i (by omega) (i - 1) (by omega) h2
   omega
 obtain ⟨fs', nm, he⟩ := set_free hx (by have := h.len; omega) hm hs
 have hp := set_prs h.ok.gf (kRl_shape i) hx he
 refine ⟨fs', nm, he, h.ok.set (kRl_shape i) (fN_o i) he, fun j h1 h2 => ?_, fun p h1 => (hp _).2 (Or.inl (h.zed p h1)), fun q hq => ?_⟩
 ·rcases Nat.lt_or_ge i j with h3 | h3
  ·exact (hp _).2 (Or.inl (h.mem j h3 h2))
  ·obtain rfl : j = i := by omega
   exact (hp _).2 (Or.inr rfl)
 ·rcases (hp q).1 hq with h1 | rfl
  ·rcases h.only q h1 with ⟨j, h2, h3⟩ | h2
   ·exact Or.inl ⟨j, by omega, h3⟩
   ·exact Or.inr h2
  ·exact Or.inl ⟨i, Nat.le_refl _, hi, rfl⟩
theorem mk_ne (h : MK p) (hx : x = [122] ∨ x = [121]) : mentP x p = false := by
 cases hc : mentP x p with
 | false => rfl
 | true =>
  rcases h x hc with ⟨n, hn, e⟩ | e
  ·rw [fN_numB n hn] at e
   have := fN_zy n (by omega)
   rcases hx with rfl | rfl
   ·exact absurd e.symm this.1
   ·exact absurd e.symm this.2.1
  ·rcases hx with rfl | rfl <;> revert e <;> decide
theorem ki_nil : KI [] 8 none := ⟨fsOk_nil, fun j h1 h2 => by omega, fun p h => (by cases h), fun q hq => by simp [prs] at hq⟩
theorem ki_z (h : KI fs i none) (hp : MK p) (hsh : Shape p) (hi : i = 8 ∨ i = 0) : ∃ fs' nm, setA fs [122] p = .ok fs' nm ∧ KI fs' i (some p) := by
 have hx : ∀ f, f ∈ fs → f.nm ≠ [122] := fun f hf e => by
  rcases h.only _ (prs_mem hf) with ⟨j, _, h2, he⟩ | ⟨p, h1, _⟩
  ·exact (fN_zy j (by omega)).1 ((congrArg Prod.fst he).symm.trans e)
  ·cases h1
 have hm : ∀ f, f ∈ fs → mentP [122] f.p = false := fun f hf => by
  rcases h.only _ (prs_mem hf) with ⟨j, _, h2, he⟩ | ⟨p, h1, _⟩
  ·rw [show f.p = kRl j from congrArg Prod.snd he]
   cases hc : mentP [122] (kRl j) with
   | false => rfl
   | true =>
    obtain ⟨h3, h4⟩ := kRl_ment j _ hc
    exact absurd h4.symm (fN_zy _ (by omega)).1
  ·cases h1
 obtain ⟨fs', nm, he⟩ := set_new h.ok hx (by have := h.len; omega) hm (mk_ne hp (Or.inl rfl))
 have hpr := set_prs h.ok.gf hsh hx he
 refine ⟨fs', nm, he, h.ok.set hsh nmo_z he, fun j h1 h2 => (hpr _).2 (Or.inl (h.mem j h1 h2)), fun q hq => by cases hq; exact (hpr _).2 (Or.inr rfl), fun q hq => ?_⟩
 rcases (hpr q).1 hq with h1 | rfl
 ·rcases h.only q h1 with h2 | ⟨p', h2, _⟩
  ·exact Or.inl h2
  ·cases h2
 ·exact Or.inr ⟨p, rfl, rfl⟩
theorem KI.fv (h : KI fs 0 zp) {i : Nat} (hi : i < 8) : rhoF fs (fN i) = (1, (i : Int)) := by
 have key : ∀ j, j < 8 → j % 3 ≠ 2 → rhoF fs (fN j) = (1, (j : Int)) := fun j hj hm => by
  rw [(prs_val h.ok.gf (h.mem j (Nat.zero_le _) hj)).2]
  simp [kRl, hm, valP, dgP]
 by_cases hm : i % 3 = 2
 ·rw [(prs_val h.ok.gf (h.mem i (Nat.zero_le _) hi)).2]
  have h1 := key (i - 1) (by omega) (by omega)
  simp only [kRl, if_pos hm, valP, nmP, dgP]
  simp [h1, vTwo, vInts]
  unfold wrap64
  omega
 ·exact key i hi hm
theorem KI.rg (h : KI fs 0 (some p)) : Rg (rhoF fs) := by
 refine ⟨fun n hn => by rw [fN_numB n hn]; exact h.fv hn, prs_no fun q hq e => ?_⟩
 rcases h.only q hq with ⟨j, _, h2, he⟩ | ⟨p, _, he⟩
 ·exact (fN_zy j (by omega)).2.2 ((congrArg Prod.fst he).symm.trans e)
 ·have e' : ([122] : By) = nobodyB := (congrArg Prod.fst he).symm.trans e
  exact absurd e' (by decide)
theorem ki_end (h : KI fs 0 (some p)) (hp : MK p) (n : Nat) (hn : n < 1000) : ∃ fs1 nm1 fs2 nm2, setA fs [121] (.bin 15 (nmP 1) (dgP 2)) = .ok fs1 nm1 ∧ setA fs1 (fN 1) (dgP n) = .ok fs2 nm2 ∧ (valA fs2 [121]).2 = (1, 2 * (n : Int)) ∧ (valA fs2 (fN 2)).2 = (1, (n : Int) + 1) := by
 have hx : ∀ f, f ∈ fs → f.nm ≠ [121] := fun f hf e => by
  rcases h.only _ (prs_mem hf) with ⟨j, _, h2, he⟩ | ⟨p, _, he⟩
  ·exact (fN_zy j (by omega)).2.1 ((congrArg Prod.fst he).symm.trans e)
  ·have e' : ([122] : By) = [121] := (congrArg Prod.fst he).symm.trans e
   exact absurd e' (by decide)
 have hm : ∀ f, f ∈ fs → mentP [121] f.p = false := fun f hf => by
  rcases h.only _ (prs_mem hf) with ⟨j, _, h2, he⟩ | ⟨p', h1, he⟩
  ·rw [show f.p = kRl j from congrArg Prod.snd he]
   cases hc : mentP [121] (kRl j) with
   | false => rfl
   | true =>
    obtain ⟨h3, h4⟩ := kRl_ment j _ hc
    exact absurd h4.symm (fN_zy _ (by omega)).2.1
  ·cases h1
   rw [show f.p = p from congrArg Prod.snd he]
   exact mk_ne hp (Or.inr rfl)
 have hsh : Shape (.bin 15 (nmP 1) (dgP 2)) := by simp [nmP, dgP, Shape]
 obtain ⟨fs1, nm1, h1⟩ := set_new (p := .bin 15 (nmP 1) (dgP 2)) h.ok hx (by have := h.len; omega) hm (by decide)
 have hp1 := set_prs h.ok.gf hsh hx h1
 have ok1 := h.ok.set hsh ⟨by simp, by simp⟩ h1
 have hm1 : fN 1 ∈ fs1.map fun g => g.nm := by
  obtain ⟨f, hf, he⟩ := List.mem_map.1 ((hp1 _).2 (Or.inl (h.mem 1 (by decide) (by decide))))
  exact List.mem_map.2 ⟨f, hf, congrArg Prod.fst he⟩
 have hsn : Shape (dgP n) := Or.inl rfl
 obtain ⟨fs2, nm2, h2⟩ := set_const (fs := fs1) (x := fN 1) (p := dgP n) (dg_none n) (Or.inl (by obtain ⟨f, hf, he⟩ := List.mem_map.1 hm1; exact ⟨f, hf, he⟩))
 obtain ⟨a1, a2⟩ := set_old ok1.gf hsn ok1.nd hm1 h2
 have ok2 := ok1.set hsn (fN_o 1) h2
 have b1 := (prs_val ok2.gf a1).2
 have b2 := (prs_val ok2.gf (a2 ([121], .bin 15 (nmP 1) (dgP 2)) ((hp1 _).2 (Or.inr rfl)) (by decide))).1
 have b3 := (prs_val ok2.gf (a2 (fN 2, kRl 2) ((hp1 _).2 (Or.inl (h.mem 2 (by decide) (by decide)))) (by decide))).1
 have c1 : rhoF fs2 (fN 1) = (1, (n : Int)) := by rw [b1]; simp [valP, dgP]
 refine ⟨fs1, nm1, fs2, nm2, h1, h2, ?_, ?_⟩
 ·rw [b2]
  simp only [valP, nmP, dgP]
  simp [c1, vTwo, vInts]
  unfold wrap64
  omega
 ·rw [b3]
  have e : kRl 2 = .bin 12 (nmP 1) (dgP 1) := rfl
  rw [e]
  simp only [valP, nmP, dgP]
  simp [c1, vTwo, vInts]
  unfold wrap64
  omega
theorem RIp.isLn (h : RIp 1 s m p) (hm : m ≤ 6) (hl : s.length + x.length ≤ 113 ∧ s.length ≤ 100) (hx : NmOk x) (ho : NmO x) : IsLn (setN x s) (.set x p) := by
 obtain ⟨ts, ht, hD⟩ := h.reads (s.length + x.length + 1) (4 + x.length + 3) (by omega)
 obtain ⟨e1, e2⟩ := h.facts
 exact isLn_set hx ho hl.1 ht hD (by omega) (by rw [e1]; exact hl.2)
theorem isLn_num (x : By) (hx : NmOk x) (ho : NmO x) (n : Nat) (hn : n < 1000) : IsLn (setN x (Lib.decDigits n)) (.set x (dgP n)) := by
 obtain ⟨d1, d2, d3⟩ := dd_facts n
 have hl := dd_len 2 n (by omega)
 have ho2 := ho.2
 obtain ⟨c, r, hc⟩ : ∃ c r, Lib.decDigits n = c :: r := by
  cases h : Lib.decDigits n with
  | nil => exact absurd h d3
  | cons c r => exact ⟨c, r, rfl⟩
 have hcd : isD c = true := d1 c (by rw [hc]; simp)
 have hcl : isL c = false := by
  cases hL : isL c with
  | false => rfl
  | true => rw [L_notD hL] at hcd; cases hcd
 have hD : headD (Lib.decDigits n) = true := by rw [hc]; simp [headD, hcd]
 have hti : TI (Lib.decDigits n) := ⟨c, r, hc, by rintro rfl; revert hcd; decide, by simp [tokOK, hD, d2, top63]; omega, fun h => absurd (hcl.symm.trans h) (by decide), fun _ _ y hy => d1 y (by rw [hc]; simp [hy]), fun _ h => absurd (hcd.symm.trans h) (by decide)⟩
 have h32 : Lib.decDigits n ≠ [32] := by
  rw [hc]
  intro e
  simp only [List.cons.injEq] at e
  rw [e.1] at hcd
  revert hcd
  decide
 have ht := toks_items [Lib.decDigits n] ((Lib.decDigits n).length + x.length + 1) (4 + x.length + 3) ⟨Or.inr ⟨hti, fun _ => Or.inl rfl⟩, trivial⟩ (by simp; omega)
 simp only [List.flatten_cons, List.flatten_nil, List.append_nil, tokI, if_neg h32] at ht
 refine isLn_set hx ho (by omega) ht ?_ (by simp [dgP, opn]) ?_
 ·have h := der1 (Lib.decDigits n) 1 (4 + x.length + 3) (Or.inl ⟨hD, rfl⟩) (by omega)
  have e1 : nmB (Lib.decDigits n) = [] := by simp [nmB, hD]
  have e2 : nuB (Lib.decDigits n) = n := by simp [nuB, hD, d2]
  rw [e1, e2] at h
  exact h
 ·simp [txt, dgP, ahd, bhd, btw, ahdW, bhdW, btwW, numT, jn]
  omega
theorem isLn_y2 : IsLn [115, 101, 116, 32, 121, 32, 61, 32, 102, 49, 32, 42, 32, 50] (.set [121] (.bin 15 (nmP 1) (dgP 2))) := by
 have h1 := RIp.f (d := 49) (by decide)
 have h2 := RIp.one [50] 1 (Or.inr (Or.inr (Or.inl ⟨50, rfl, by decide⟩))) (by decide) (Or.inl ⟨by decide, rfl⟩) (by omega) (by decide +kernel)
 have h := (RIp.two (n := 5) (k := 15) (op := [42]) (by decide) (by decide) (h1.up 5 (by decide) (by decide) (by decide)) h2 (gsign (by decide)) (by decide) (by decide) (cmean (by decide)) (by decide)).up 1 (by decide) (by decide) (by decide)
 have hn : NmOk [121] := nmOk_w ⟨by simp, by decide, by simp⟩ (by decide) (by decide)
 exact h.isLn (x := [121]) (by decide) (by decide) hn ⟨by simp, by simp⟩
end
section
attribute [local go_sem] idx_eq app_eq
def SumPost (b : Nat) (k : Int) (p : (By × Int) × By) (w : World) (e : Ending) (w' : World) : Prop := e = .returned (.agg #[.string ⟨p.1.1.toArray⟩, .int .i64 k, .int .i64 p.1.2]) ∧ FeedAt w' b p.2 ∧ KeepB b w w'
theorem FeedAt.keep {w : World} {b q : Nat} {r : By} (h : FeedAt w b r) (hne : q ≠ b) (j : Nat) (u : Value) : FeedAt (w.setCell ⟨q, j, none⟩ u) b r := by
 obtain ⟨s, k, h1, h2⟩ := h
 exact ⟨s, k, (Below.heap_setCell _ _ _ _ (Ne.symm hne)).trans h1, h2⟩
theorem KeepB.at {w w' : World} {b q : Nat} (h : KeepB b w w') (hq : w.heap.size ≤ q) (hb : b < w.heap.size) (j : Nat) (u : Value) : KeepB b w (w'.setCell ⟨q, j, none⟩ u) :=
 ⟨h.below.setCell (p := ⟨q, j, none⟩) (by show b ≤ q; omega) _, fun i hi hn => (Below.heap_setCell _ _ _ _ (show i ≠ q by omega)).trans (h.other i hi hn)⟩
theorem KeepB.new {w w' : World} {b : Nat} {o : Obj} (h : KeepB b (w.alloc o) w') (hb : b < w.heap.size) : KeepB b w w' := (KeepB.alloc (KeepB.refl b w) hb o).trans h
theorem rowS {w : World} {q : Nat} {v0 v1 v2 : Value} {t : TypeId} (h : w.heap[q]? = some (.cells #[v0, v1, v2] t (0, 0))) :
  (w.cell? ⟨q, 0, none⟩ = some v0 ∧ w.cell? ⟨q, 1, none⟩ = some v1 ∧ w.cell? ⟨q, 2, none⟩ = some v2) ∧ (w.frozen? ⟨q, 0, none⟩ = false ∧ w.frozen? ⟨q, 1, none⟩ = false ∧ w.frozen? ⟨q, 2, none⟩ = false) ∧ q < w.heap.size :=
 ⟨⟨(cell_of_row w q 0 _ _ _ h).trans rfl, (cell_of_row w q 1 _ _ _ h).trans rfl, (cell_of_row w q 2 _ _ _ h).trans rfl⟩, ⟨by simp [World.frozen?, h], by simp [World.frozen?, h], by simp [World.frozen?, h]⟩, (Array.getElem?_eq_some_iff.1 h).1⟩
theorem sum_fin {w w' : World} {b : Nat} {r : By} (hb : b < w.heap.size) (h : KeepB b w w') (hf : FeedAt w' b r) (v0 v1 v2 : Value) : FeedAt (((w'.setCell ⟨w.heap.size, 0, none⟩ v0).setCell ⟨w.heap.size, 1, none⟩ v1).setCell ⟨w.heap.size, 2, none⟩ v2) b r ∧ KeepB b w (((w'.setCell ⟨w.heap.size, 0, none⟩ v0).setCell ⟨w.heap.size, 1, none⟩ v1).setCell ⟨w.heap.size, 2, none⟩ v2) :=
 ⟨((hf.keep (by omega) 0 v0).keep (by omega) 1 v1).keep (by omega) 2 v2, ((h.at (Nat.le_refl _) hb 0 v0).at (Nat.le_refl _) hb 1 v1).at (Nat.le_refl _) hb 2 v2⟩
theorem number0 (b : Nat) (r : By) (w : World) (h0 : FeedAt w b r) : Calls Tryz.prog 21 #[.pointer (some ⟨b, 0, none⟩), .int .i64 0] w (SumPost b 1 (num0 r) w) := by
 unfold SumPost num0
 have hs0 := h0.size
 have hl2 : (nextB r 8).1 < 100 := by have := nextB_lt r 8 (by decide); omega
 have HF0 := tZ (h0.alloc (.cells #[.string ⟨#[]⟩, .int .i64 0, .int .i64 0] 43))
 by_cases hx : (nextB (nextB r 8).2 3).1 = 0
 ·rw [if_pos hx]
  have hx' : (((nextB (nextB r 8).2 3).1 : Int) == 0) = true := by simp [hx]
  clear hx
  go_enter Tryz.func21, Tryz.ntmps21
  go_wp2_with (first | (go_at_call 16; refine (keep_nextZ b r 8 8 _ HF0.out (by decide)).mono ?_; rintro e w1 ⟨rfl, hf1, hb1⟩; have F1 := tZ hf1; have B1 := tZ hb1; clear hf1 hb1; refine Hid.out ?_))
  refine tZ ?_
  go_wp2_with (first | (go_at_call 16; refine (keep_nextZ b _ 3 3 _ F1.out (by decide)).mono ?_; rintro e w2 ⟨rfl, hf2, hb2⟩; have F2 := tZ hf2; have B2 := tZ (B1.out.trans hb2); clear hf2 hb2; refine Hid.out ?_))
  refine tZ ?_
  have HFIN := tZ (sum_fin hs0 (B2.out.new hs0) F2.out)
  obtain ⟨⟨m0, m1, m2⟩, ⟨z0, z1, z2⟩, hsz⟩ := rowS ((B2.out.other w.heap.size (by simp) (Nat.ne_of_gt hs0)).trans (heap_alloc_new w (.cells #[.string ⟨#[]⟩, .int .i64 0, .int .i64 0] 43)))
  go_wp2_with (first | (go_at_call 23; refine (keep_num _ hl2 _).mono ?_; rintro e w3 ⟨rfl, rfl⟩))
  refine bodyPost_ret (v := .agg #[.string ⟨(numB (nextB r 8).1).toArray⟩, .int .i64 1, .int .i64 ((nextB r 8).1 : Int)]) (by simp [results, Tryz.results21, go_sem, m0, m1, m2]) rfl ?_
  exact ⟨rfl, (HFIN.out _ _ _).1, (HFIN.out _ _ _).2⟩
 ·rw [if_neg hx]
  have hx' : (((nextB (nextB r 8).2 3).1 : Int) == 0) = false := by simp; omega
  have hl3 : ¬ 9223372036854775807 < (numB (nextB r 8).1).length + 1 := by have := numB_1 r; omega
  clear hx
  go_enter Tryz.func21, Tryz.ntmps21
  go_wp2_with (first | (go_at_call 16; refine (keep_nextZ b r 8 8 _ HF0.out (by decide)).mono ?_; rintro e w1 ⟨rfl, hf1, hb1⟩; have F1 := tZ hf1; have B1 := tZ hb1; clear hf1 hb1; refine Hid.out ?_))
  refine tZ ?_
  go_wp2_with (first | (go_at_call 16; refine (keep_nextZ b _ 3 3 _ F1.out (by decide)).mono ?_; rintro e w2 ⟨rfl, hf2, hb2⟩; have F2 := tZ hf2; have B2 := tZ (B1.out.trans hb2); clear hf2 hb2; refine Hid.out ?_))
  refine tZ ?_
  have HFIN := tZ (sum_fin hs0 (B2.out.new hs0) F2.out)
  obtain ⟨⟨m0, m1, m2⟩, ⟨z0, z1, z2⟩, hsz⟩ := rowS ((B2.out.other w.heap.size (by simp) (Nat.ne_of_gt hs0)).trans (heap_alloc_new w (.cells #[.string ⟨#[]⟩, .int .i64 0, .int .i64 0] 43)))
  go_wp2_with (first | (go_at_call 23; refine (keep_num _ hl2 _).mono ?_; rintro e w3 ⟨rfl, rfl⟩))
  refine bodyPost_ret (v := .agg #[.string ⟨(102 :: numB (nextB r 8).1).toArray⟩, .int .i64 1, .int .i64 ((nextB r 8).1 : Int)]) (by simp [results, Tryz.results21, go_sem, m0, m1, m2]) rfl ?_
  exact ⟨rfl, (HFIN.out _ _ _).1, (HFIN.out _ _ _).2⟩
end
end Go.Proofs.YtihgojcfpnhelaaGreatDoor
