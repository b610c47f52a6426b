import Derived.Test.YtihgojcfpnhelabGreatDoorS2Ii
import Derived.Test.YtihgojcfpnhelabGreatDoorS2Nh
set_option maxRecDepth 100000
set_option maxHeartbeats 4000000
set_option linter.unusedVariables false
set_option linter.unusedSimpArgs false
namespace Go.Proofs.YtihgojcfpnhelabGreatDoor
open Go.RowKit
section
def OwB (w : World) (v : Value) (nm : List By) (w' : World) : Prop := w'.ownsRow (w.heap.size + 2) 9 1 v nm.length (strs nm) ∧ Below w.heap.size w w'
theorem OwB.set {w w' : World} {v : Value} {nm : List By} (h : OwB w v nm w') {q : Nat} (hq : w.heap.size ≤ q ∧ q < w.heap.size + 2) (j : Nat) (u : Value) : OwB w v nm (w'.setCell ⟨q, j, none⟩ u) := ⟨own_set h.1 hq.2, h.2.setCell hq.1 u⟩
theorem tellOrder (e : Nat) (an0 : Option Addr) (ln0 cn0 : Nat) (nm : List By) (w : World)
  (hS : ∀ W, Below w.heap.size w W → Calls Tryz.prog 43 #[.pointer (some ⟨e, 0, none⟩)] W fun r w' => ∃ bn ln cn, r = .returned (.slice bn ln cn) ∧ w'.ownsRow W.heap.size 9 1 (.slice bn ln cn) nm.length (strs nm) ∧ Below W.heap.size W w') :
  Calls Tryz.prog 29 #[.pointer (some ⟨e, 0, none⟩), .agg #[.int .i64 12, .slice an0 ln0 cn0, .int .i64 0, .string ⟨#[]⟩, .int .i64 0, .slice none 0 0]] w fun r w' => ∃ bn ln cn, r = .returned (.agg #[.int .i64 0, .int .i64 0, .string ⟨#[]⟩, .slice bn ln cn, .int .i64 0, .int .i64 0]) ∧ w'.ownsRow w.heap.size 9 1 (.slice bn ln cn) nm.length (strs nm) ∧ Below w.heap.size w w' := by
 have HS2 := tZ (hS ((w.alloc (.cells #[.int .i64 12, .slice an0 ln0 cn0, .int .i64 0, .string ⟨#[]⟩, .int .i64 0, .slice none 0 0] 53)).alloc (.cells #[.int .i64 0, .int .i64 0, .string ⟨#[]⟩, .slice none 0 0, .int .i64 0, .int .i64 0] 30)) (below2 _ _ _))
 clear hS
 go_enter Tryz.func29, Tryz.ntmps29
 go_wp2_with (first | (go_at_call 43; refine HS2.out.mono ?_; rintro r w3 ⟨bn, ln, cn, rfl, hown, hb3⟩; refine Hid.out ?_))
 have hr : w3.heap[w.heap.size + 1]? = some (.cells #[.int .i64 0, .int .i64 0, .string ⟨#[]⟩, .slice none 0 0, .int .i64 0, .int .i64 0] 30 (0, 0)) := (hb3.block _ (by simp)).trans (alloc2_new' w _ _ _)
 obtain ⟨⟨k0, k1, k2, k3, k4, k5⟩, ⟨f0, f1, f2, f3, f4, f5⟩, hsz⟩ := row6 hr
 have hF := setCell_block (setCell_block (setCell_block (setCell_block (setCell_block (setCell_block (setCell_block hr 3 (.slice bn ln cn)) 0 (.int .i64 0)) 1 (.int .i64 0)) 2 (.string ⟨#[]⟩)) 3 (.slice bn ln cn)) 4 (.int .i64 0)) 5 (.int .i64 0)
 obtain ⟨⟨F0, F1, F2, F3, F4, F5⟩, _, Fs⟩ := row6 (show _ = some (Obj.cells #[.int .i64 0, .int .i64 0, .string ⟨#[]⟩, .slice bn ln cn, .int .i64 0, .int .i64 0] 30 (0, 0)) from hF)
 have HF := tZ (And.intro F0 (And.intro F1 (And.intro F2 (And.intro F3 (And.intro F4 (And.intro F5 Fs))))))
 have HBF := tZ (show OwB w (.slice bn ln cn) nm (((((((w3.setCell ⟨w.heap.size + 1, 3, none⟩ (.slice bn ln cn)).setCell ⟨w.heap.size + 1, 0, none⟩ (.int .i64 0)).setCell ⟨w.heap.size + 1, 1, none⟩ (.int .i64 0)).setCell ⟨w.heap.size + 1, 2, none⟩ (.string ⟨#[]⟩)).setCell ⟨w.heap.size + 1, 3, none⟩ (.slice bn ln cn)).setCell ⟨w.heap.size + 1, 4, none⟩ (.int .i64 0)).setCell ⟨w.heap.size + 1, 5, none⟩ (.int .i64 0)) from by
  have hB : Below w.heap.size w w3 := (below2 _ _ _).trans (hb3.mono (by simp; omega))
  have e2 : ((w.alloc (.cells #[.int .i64 12, .slice an0 ln0 cn0, .int .i64 0, .string ⟨#[]⟩, .int .i64 0, .slice none 0 0] 53)).alloc (.cells #[.int .i64 0, .int .i64 0, .string ⟨#[]⟩, .slice none 0 0, .int .i64 0, .int .i64 0] 30)).heap.size = w.heap.size + 2 := by simp
  rw [e2] at hown
  iterate 7 refine OwB.set ?_ (by omega) _ _
  exact ⟨hown, hB⟩)
 clear F0 F1 F2 F3 F4 F5 Fs hF hr hb3 HS2 hown
 refine tZ ?_
 go_wp2
 generalize (((((((w3.setCell ⟨w.heap.size + 1, 3, none⟩ (.slice bn ln cn)).setCell ⟨w.heap.size + 1, 0, none⟩ (.int .i64 0)).setCell ⟨w.heap.size + 1, 1, none⟩ (.int .i64 0)).setCell ⟨w.heap.size + 1, 2, none⟩ (.string ⟨#[]⟩)).setCell ⟨w.heap.size + 1, 3, none⟩ (.slice bn ln cn)).setCell ⟨w.heap.size + 1, 4, none⟩ (.int .i64 0)).setCell ⟨w.heap.size + 1, 5, none⟩ (.int .i64 0)) = WF at *
 obtain ⟨F0, F1, F2, F3, F4, F5, Fs⟩ := HF.out
 refine bodyPost_ret (v := .agg #[.int .i64 0, .int .i64 0, .string ⟨#[]⟩, .slice bn ln cn, .int .i64 0, .int .i64 0]) (by simp [results, Tryz.results29, go_sem, F0, F1, F2, F3, F4, F5]) (by simp [go_sem]) ?_
 exact ⟨bn, ln, cn, rfl, own_base HBF.out.1 (by omega), HBF.out.2⟩
theorem tellList (e : Nat) (an0 : Option Addr) (ln0 cn0 : Nat) (tx : By) (w : World)
  (hS : ∀ W, Below w.heap.size w W → Calls Tryz.prog 42 #[.pointer (some ⟨e, 0, none⟩)] W fun r w' => r = .returned (.string ⟨tx.toArray⟩) ∧ Below W.heap.size W w') :
  Calls Tryz.prog 29 #[.pointer (some ⟨e, 0, none⟩), .agg #[.int .i64 11, .slice an0 ln0 cn0, .int .i64 0, .string ⟨#[]⟩, .int .i64 0, .slice none 0 0]] w fun r w' => r = .returned (.agg #[.int .i64 0, .int .i64 0, .string ⟨tx.toArray⟩, .slice none 0 0, .int .i64 0, .int .i64 0]) ∧ Below w.heap.size w w' := by
 have HS2 := tZ (hS ((w.alloc (.cells #[.int .i64 11, .slice an0 ln0 cn0, .int .i64 0, .string ⟨#[]⟩, .int .i64 0, .slice none 0 0] 53)).alloc (.cells #[.int .i64 0, .int .i64 0, .string ⟨#[]⟩, .slice none 0 0, .int .i64 0, .int .i64 0] 30)) (below2 _ _ _))
 clear hS
 go_enter Tryz.func29, Tryz.ntmps29
 go_wp2_with (first | (go_at_call 42; refine HS2.out.mono ?_; rintro r w3 ⟨rfl, hb3⟩; refine Hid.out ?_))
 have hr : w3.heap[w.heap.size + 1]? = some (.cells #[.int .i64 0, .int .i64 0, .string ⟨#[]⟩, .slice none 0 0, .int .i64 0, .int .i64 0] 30 (0, 0)) := (hb3.block _ (by simp)).trans (alloc2_new' w _ _ _)
 obtain ⟨⟨k0, k1, k2, k3, k4, k5⟩, ⟨f0, f1, f2, f3, f4, f5⟩, hsz⟩ := row6 hr
 have hF := setCell_block (setCell_block (setCell_block (setCell_block (setCell_block (setCell_block (setCell_block hr 2 (.string ⟨tx.toArray⟩)) 0 (.int .i64 0)) 1 (.int .i64 0)) 2 (.string ⟨tx.toArray⟩)) 3 (.slice none 0 0)) 4 (.int .i64 0)) 5 (.int .i64 0)
 obtain ⟨⟨F0, F1, F2, F3, F4, F5⟩, _, Fs⟩ := row6 (show _ = some (Obj.cells #[.int .i64 0, .int .i64 0, .string ⟨tx.toArray⟩, .slice none 0 0, .int .i64 0, .int .i64 0] 30 (0, 0)) from hF)
 have HF := tZ (And.intro F0 (And.intro F1 (And.intro F2 (And.intro F3 (And.intro F4 (And.intro F5 Fs))))))
 have HBF := tZ (show Below w.heap.size w (((((((w3.setCell ⟨w.heap.size + 1, 2, none⟩ (.string ⟨tx.toArray⟩)).setCell ⟨w.heap.size + 1, 0, none⟩ (.int .i64 0)).setCell ⟨w.heap.size + 1, 1, none⟩ (.int .i64 0)).setCell ⟨w.heap.size + 1, 2, none⟩ (.string ⟨tx.toArray⟩)).setCell ⟨w.heap.size + 1, 3, none⟩ (.slice none 0 0)).setCell ⟨w.heap.size + 1, 4, none⟩ (.int .i64 0)).setCell ⟨w.heap.size + 1, 5, none⟩ (.int .i64 0)) from by
  have hB : Below w.heap.size w w3 := (below2 _ _ _).trans (hb3.mono (by simp; omega))
  iterate 7 refine Below.setCell ?_ (by show w.heap.size ≤ w.heap.size + 1; omega) _
  exact hB)
 clear F0 F1 F2 F3 F4 F5 Fs hF hr hb3 HS2
 refine tZ ?_
 go_wp2
 generalize (((((((w3.setCell ⟨w.heap.size + 1, 2, none⟩ (.string ⟨tx.toArray⟩)).setCell ⟨w.heap.size + 1, 0, none⟩ (.int .i64 0)).setCell ⟨w.heap.size + 1, 1, none⟩ (.int .i64 0)).setCell ⟨w.heap.size + 1, 2, none⟩ (.string ⟨tx.toArray⟩)).setCell ⟨w.heap.size + 1, 3, none⟩ (.slice none 0 0)).setCell ⟨w.heap.size + 1, 4, none⟩ (.int .i64 0)).setCell ⟨w.heap.size + 1, 5, none⟩ (.int .i64 0)) = WF at *
 obtain ⟨F0, F1, F2, F3, F4, F5, Fs⟩ := HF.out
 refine bodyPost_ret (v := .agg #[.int .i64 0, .int .i64 0, .string ⟨tx.toArray⟩, .slice none 0 0, .int .i64 0, .int .i64 0]) (by simp [results, Tryz.results29, go_sem, F0, F1, F2, F3, F4, F5]) (by simp [go_sem]) ?_
 exact ⟨rfl, HBF.out⟩
end
section
theorem followTellQ (e : Nat) (vb : Int) (hvb : vb = 9 ∨ vb = 10 ∨ vb = 11 ∨ vb = 12) (an : Option Addr) (ln cn : Nat) (k : Int) (nm : By) (n : Int) (ar : Option Addr) (lr cr : Nat) (w : World) (er at_ : Int) (tx : By) (kd nn : Int) (Q : Option Addr → Nat → Nat → World → Prop) (hQ : ∀ a l c w1 j u, Q a l c w1 → Q a l c (w1.setCell ⟨w.heap.size + 1, j, none⟩ u))
  (hT : ∀ W, Below w.heap.size w W → w.heap.size + 1 < W.heap.size → Calls Tryz.prog 29 #[.pointer (some ⟨e, 0, none⟩), .agg #[.int .i64 vb, .slice an ln cn, .int .i64 k, .string ⟨nm.toArray⟩, .int .i64 n, .slice ar lr cr]] W fun r w' => ∃ bn ln' cn', r = .returned (.agg #[.int .i64 er, .int .i64 at_, .string ⟨tx.toArray⟩, .slice bn ln' cn', .int .i64 kd, .int .i64 nn]) ∧ (∀ q, q = w.heap.size + 1 → w'.heap[q]? = W.heap[q]?) ∧ Q bn ln' cn' w') :
  Calls Tryz.prog 15 #[.pointer (some ⟨e, 0, none⟩), .agg #[.int .i64 vb, .slice an ln cn, .int .i64 k, .string ⟨nm.toArray⟩, .int .i64 n, .slice ar lr cr]] w fun r w' => ∃ bn ln' cn', r = .returned (.agg #[.int .i64 er, .int .i64 at_, .string ⟨tx.toArray⟩, .slice bn ln' cn', .int .i64 kd, .int .i64 nn]) ∧ Q bn ln' cn' w' := by
 have HT := tZ hT
 have b1 : (vb == 1) = false := by simp; omega
 have b2 : (vb == 2) = false := by simp; omega
 have b3 : (vb == 3) = false := by simp; omega
 have b4 : (vb == 4) = false := by simp; omega
 have b5 : (vb == 5) = false := by simp; omega
 have b6 : (vb == 6) = false := by simp; omega
 have b7 : (vb == 7) = false := by simp; omega
 have b8 : (vb == 8) = false := by simp; omega
 clear hT hvb
 go_enter Tryz.func15, Tryz.ntmps15
 have HT2 := tZ (HT.out ((w.alloc (.cells #[.int .i64 vb, .slice an ln cn, .int .i64 k, .string ⟨nm.toArray⟩, .int .i64 n, .slice ar lr cr] 53)).alloc (.cells #[.int .i64 0, .int .i64 0, .string ⟨#[]⟩, .slice none 0 0, .int .i64 0, .int .i64 0] 30)) (below2 _ _ _) (by simp))
 have HROW := tZ (alloc2_new' w (.cells #[.int .i64 vb, .slice an ln cn, .int .i64 k, .string ⟨nm.toArray⟩, .int .i64 n, .slice ar lr cr] 53) #[.int .i64 0, .int .i64 0, .string ⟨#[]⟩, .slice none 0 0, .int .i64 0, .int .i64 0] 30)
 clear HT
 go_wp2_with (first | (go_at_call 29; refine HT2.out.mono ?_; rintro r w1 ⟨bn, ln', cn', rfl, hk1, hq⟩; refine Hid.out ?_))
 obtain ⟨⟨k0, k1, k2, k3, k4, k5⟩, ⟨f0, f1, f2, f3, f4, f5⟩, hsz⟩ := row6 ((hk1 (w.heap.size + 1) rfl).trans HROW.out)
 have HQ := tZ hq
 clear hk1 hq HT2
 refine tZ ?_
 go_wp2
 refine bodyPost_ret (v := .agg #[.int .i64 er, .int .i64 at_, .string ⟨tx.toArray⟩, .slice bn ln' cn', .int .i64 kd, .int .i64 nn]) (by simp [results, Tryz.results15, go_sem, k0, k1, k2, k3, k4, k5, hsz]) rfl ?_
 exact ⟨bn, ln', cn', rfl, hQ _ _ _ _ _ _ (hQ _ _ _ _ _ _ (hQ _ _ _ _ _ _ (hQ _ _ _ _ _ _ (hQ _ _ _ _ _ _ (hQ _ _ _ _ _ _ HQ.out)))))⟩
variable {e k : Nat} {F : Nat → Prop} {w w' W w1 w2 w3 W0 : World} {a : Ab} {nm : List By} {bn : Option Addr} {ln cn : Nat}
def TlPost (er : Int) (tx : By) (kd nn : Int) (nm : List By) (W : World) (r : Ending) (w' : World) : Prop := ∃ bn ln cn, r = .returned (.agg #[.int .i64 er, .int .i64 0, .string ⟨tx.toArray⟩, .slice bn ln cn, .int .i64 kd, .int .i64 nn]) ∧ ln = nm.length ∧ w'.ownsRow W.heap.size 9 1 (.slice bn ln cn) ln (strs nm) ∧ Below W.heap.size W w'
theorem EdA.doTell (h : EdA w e F k a) (s : By) (vb : Int) (hvb : vb = 9 ∨ vb = 10 ∨ vb = 11 ∨ vb = 12) (er : Int) (tx : By) (kd nn : Int) (nm : List By)
  (hR : Calls Tryz.prog 14 #[.string ⟨s.toArray⟩] (w.alloc zRep) fun r w1 => Below (w.heap.size + 1) (w.alloc zRep) w1 ∧ ∃ an ln cn, r = .returned (.tuple #[lineV vb an ln cn 0 [] 0 none 0 0, .int .i64 0, .int .i64 0]) ∧ ∀ W, Below w1.heap.size w1 W → EdA W e F k a → Calls Tryz.prog 29 #[.pointer (some ⟨e, 0, none⟩), lineV vb an ln cn 0 [] 0 none 0 0] W (TlPost er tx kd nn nm W)) :
  Calls Tryz.prog 8 #[.pointer (some ⟨e, 0, none⟩), .string ⟨s.toArray⟩] w fun r w' => ∃ bn ln cn, r = .returned (rpV er 0 tx bn ln cn kd nn) ∧ Res F (fun _ => False) e k a nm w bn ln cn w' := by
 have hF := h.lt
 have hed : edV vb = false := by rcases hvb with rfl | rfl | rfl | rfl <;> rfl
 refine (doFol e s w (fun er' at_ tx' bn ln cn kd' nn' w' => er' = er ∧ at_ = 0 ∧ tx' = tx ∧ kd' = kd ∧ nn' = nn ∧ Res F (fun q => q = w.heap.size) e k a nm w bn ln cn w') (hR.mono ?_)).mono ?_
 rotate_left
 ·rintro r w' ⟨er', at_, tx', bn, ln, cn, kd', nn', rfl, rfl, rfl, rfl, rfl, rfl, h7⟩
  exact ⟨bn, ln, cn, rfl, h7.less fun _ h => h.elim⟩
 rintro r w1 ⟨hb1, an, ln0, cn0, rfl, hC⟩
 refine ⟨hb1, vb, an, ln0, cn0, 0, [], 0, none, 0, 0, rfl, ?_⟩
 have hs1 : w.heap.size + 1 ≤ w1.heap.size := by have := hb1.size; simpa using this
 have hb01 : Below w.heap.size w w1 := ((Below.refl _ _).alloc (Nat.le_refl _) zRep).trans (hb1.mono (by omega))
 generalize hw2 : (w1.alloc (lineO vb an ln0 cn0 0 [] 0 none 0 0)).alloc zRep = w2
 have hsz2 : w2.heap.size = w1.heap.size + 2 := by rw [← hw2]; simp
 have hb12 : Below w1.heap.size w1 w2 := by rw [← hw2]; exact below2 _ _ _
 have z0 : w2.heap[w.heap.size]? = some zRep := by
  rw [hb12.block _ (by omega), hb1.block _ (by omega)]
  exact heap_alloc_new w zRep
 have z1 : w2.heap[w1.heap.size + 1]? = some zRep := by
  rw [← hw2]
  exact alloc2_new' w1 _ _ _
 have z2 : w2.heap[w1.heap.size]? = some (lineO vb an ln0 cn0 0 [] 0 none 0 0) := by
  rw [← hw2]
  exact alloc2_old w1 _ _ _
 have hb02 : Below w.heap.size w w2 := hb01.trans (hb12.mono (by omega))
 refine (followTellQ e vb hvb an ln0 cn0 0 [] 0 none 0 0 w2 er 0 tx kd nn (fun bn ln cn w' => Res F (fun q => q = w.heap.size ∨ q = w1.heap.size ∨ q = w1.heap.size + 1 ∨ q = w2.heap.size + 1) e k a nm w2 bn ln cn w') ?_ ?_).mono ?_
 ·intro a' l c w' j u h2
  exact h2.set (by simp) (by omega) j u
 ·intro W hW hWs
  have hsW := hW.size
  have hEW := h.next (hb02.trans (hW.mono (by omega)))
  refine (hC W (hb12.trans (hW.mono (by omega))) hEW).mono ?_
  rintro r w3 ⟨bn, ln, cn, rfl, hln, hown, hb3⟩
  refine ⟨bn, ln, cn, rfl, fun q hq => hb3.block q (by omega), hln, (Ks.of hW).trans (Ks.of hb3), own_base hown hsW, F, hEW.next hb3, fun q hq => Or.inl hq, fun q hq => ⟨fun hf => ?_, fun ht => ?_⟩, fun q hq hf => ?_⟩
  ·have := hF q hf; have := (hown.lt q hq).1; omega
  ·have := (hown.lt q hq).1; omega
  ·have := hF q hf; omega
 ·rintro r w3 ⟨bn, ln, cn, rfl, h2⟩
  have hks := h2.2.1
  refine ⟨er, 0, tx, bn, ln, cn, kd, nn, fun W => Res F (fun q => q = w.heap.size ∨ q = w1.heap.size + 1) e k a nm w bn ln cn W, rfl, ?_, ?_, ?_, ⟨?_, ?_⟩, ?_, ?_, ?_⟩
  ·exact (hks.block _ (by omega) fun hp => by have := hF _ hp; omega).trans z0
  ·exact (hks.block _ (by omega) fun hp => by have := hF _ hp; omega).trans z1
  ·exact (hks.block _ (by omega) fun hp => by have := hF _ hp; omega).trans z2
  ·intro W j u h4
   exact h4.set (by simp) (by omega) j u
  ·intro W j u h4
   exact h4.set (by simp) (by omega) j u
  ·refine (h2.base hb02 fun q hq => Or.inl hq).less ?_
   rintro q (h3 | h3)
   ·exact Or.inl h3
   ·exact Or.inr (Or.inr (Or.inl h3))
  ·rintro W j u ⟨h3, h4, h5, h6, h7, h9⟩
   exact ⟨h3, h4, h5, h6, h7, h9.set rfl (Nat.le_refl _) j u⟩
  ·rw [if_neg (by rintro ⟨_, h3⟩; rw [hed] at h3; cases h3)]
   intro W h4
   exact ⟨rfl, rfl, rfl, rfl, rfl, h4.less fun q hq => Or.inl hq⟩
theorem EdA.doErr (h : EdA w e F k a) (hk : k < 1000000000000) (s : By) (vb er at_ : Int) (her : er ≠ 0)
  (hR : Calls Tryz.prog 14 #[.string ⟨s.toArray⟩] (w.alloc zRep) fun r w1 => Below (w.heap.size + 1) (w.alloc zRep) w1 ∧ r = .returned (.tuple #[lineV vb none 0 0 0 [] 0 none 0 0, .int .i64 er, .int .i64 at_])) :
  Calls Tryz.prog 8 #[.pointer (some ⟨e, 0, none⟩), .string ⟨s.toArray⟩] w fun r w' => r = .returned (rpV er at_ [] none 0 0 0 0) ∧ Res F (fun _ => False) e k (if edV vb = true then failA a else a) [] w none 0 0 w' := by
 have hF := h.lt
 refine (Go.Proofs.YtihgojcfpnhelabGreatDoor.doErr e s w (fun er' at' w' => er' = er ∧ at' = at_ ∧ Res F (fun q => q = w.heap.size) e k (if edV vb = true then failA a else a) [] w none 0 0 w') (hR.mono ?_)).mono ?_
 rotate_left
 ·rintro r w' ⟨er', at', rfl, rfl, rfl, h7⟩
  exact ⟨rfl, h7.less fun _ h => h.elim⟩
 rintro r w1 ⟨hb1, rfl⟩
 have hs1 : w.heap.size + 1 ≤ w1.heap.size := by have := hb1.size; simpa using this
 have hb01 : Below w.heap.size w w1 := ((Below.refl _ _).alloc (Nat.le_refl _) zRep).trans (hb1.mono (by omega))
 have hb02 : Below w.heap.size w ((w1.alloc (lineO vb none 0 0 0 [] 0 none 0 0)).alloc (erRep er at_)) := hb01.trans ((below2 w1 _ _).mono (by omega))
 have hres : ∀ w2, Below w.heap.size w w2 → Res F (fun q => q = w.heap.size ∨ q = w1.heap.size + 1) e k a [] w none 0 0 w2 := fun w2 hb => ⟨rfl, Ks.of hb, World.ownsRow_nil _ _ _ _, F, h.next hb, fun q hq => Or.inl hq, fun q hq => by simp [Value.ownBlock] at hq, fun q hq hf => by have := hF q hf; omega⟩
 refine ⟨hb1, vb, er, at_, fun W => w1.heap.size + 2 ≤ W.heap.size ∧ Res F (fun q => q = w.heap.size ∨ q = w1.heap.size + 1) e k a [] w none 0 0 W, her, rfl, ?_, ⟨by simp, hres _ hb02⟩, ?_, ?_⟩
 ·rintro W j u ⟨h3, h4⟩
  exact ⟨by simpa using h3, h4.set (by simp) (by omega) j u⟩
 ·rintro W j u ⟨h3, h4, h5⟩
  exact ⟨h3, h4, h5.set rfl (Nat.le_refl _) j u⟩
 ·by_cases hv : edV vb = true
  ·rw [if_pos ⟨her, hv⟩]
   rintro W ⟨h3, h4⟩
   refine (h4.cancel hk (by rintro q (rfl | rfl) <;> omega)).mono ?_
   rintro r w' ⟨k1, k2, k3⟩
   rw [if_pos hv]
   exact ⟨k1, k2 _ (Or.inl rfl), k2 _ (Or.inr rfl), rfl, rfl, k3.less fun q hq => Or.inl hq⟩
  ·rw [if_neg (fun h => hv h.2)]
   rintro W ⟨h3, h4⟩
   rw [if_neg hv]
   exact ⟨rfl, rfl, h4.less fun q hq => Or.inl hq⟩
end
section
variable {e k : Nat} {F : Nat → Prop} {w w' W w1 w2 w3 W0 : World} {a : Ab} {nm : List By} {bn : Option Addr} {ln cn : Nat} {x : By}
def valA (fs : List Fd) (x : By) : Int × Int × Int := match fs.find? (fun f => f.nm == x) with
 | some f => (0, f.v.1, f.v.2)
 | none => (5, 0, 0)
def rulA (fs : List Fd) (x : By) : Int × By := match fs.find? (fun f => f.nm == x) with
 | some f => (0, txt f.p)
 | none => (5, [])
theorem find_snd (fs : List (Nat × Fd)) (x : By) : (fs.map Prod.snd).find? (fun f => f.nm == x) = (findF fs x).map Prod.snd := by
 rw [List.find?_map]
 rfl
theorem EdA.sheet (h : EdA w e F k a) : ∃ S ad c fs, Sh w S ad fs ∧ fs.map Prod.snd = a.fs ∧ fs.length ≤ 10 ∧ w.cell? ⟨e, 0, none⟩ = some (.slice ad fs.length c) ∧ e < w.heap.size := by
 obtain ⟨S, D, σ, dv, uv, gv, dn, ud, gr, h1, h2, h3, h4, h5⟩ := h
 obtain ⟨ad, c, hs, _, _, hrow⟩ := h1.ph.sh
 exact ⟨S, ad, c, σ.fs, hs, h2.fs.symm, by have := h2.gs.len; simpa [Sta.fs] using this, (row6 hrow).1.1, h1.ph.lt⟩
theorem EdA.value (h : EdA W e F k a) {gn cn : Nat} (hc : W.cell? ⟨gn, 0, none⟩ = some (.string ⟨x.toArray⟩)) (hg : gn < W.heap.size) : Calls Tryz.prog 29 #[.pointer (some ⟨e, 0, none⟩), lineV 9 (some ⟨gn, 0, none⟩) 1 cn 0 [] 0 none 0 0] W (TlPost (valA a.fs x).1 [] (valA a.fs x).2.1 (valA a.fs x).2.2 [] W) := by
 refine (tellValueE e gn cn x (valA a.fs x).2.1 (valA a.fs x).2.2 (valA a.fs x).1 W hc hg fun W' hW' => ?_).mono ?_
 ·obtain ⟨S, ad, c, fs, h1, h2, h3, h4, h5⟩ := (h.next hW').sheet
  refine (value68 x e c ad fs W' h1 h4 h5 (by omega)).mono ?_
  rintro r w' ⟨rfl, hb⟩
  refine ⟨?_, hb⟩
  unfold valA
  rw [← h2, find_snd]
  cases findF fs x <;> rfl
 ·rintro r w' ⟨rfl, hb⟩
  exact ⟨none, 0, 0, rfl, rfl, World.ownsRow_nil _ _ _ _, hb⟩
theorem EdA.rule (h : EdA W e F k a) (hE : Env W) {gn cn : Nat} (hc : W.cell? ⟨gn, 0, none⟩ = some (.string ⟨x.toArray⟩)) (hg : gn < W.heap.size) : Calls Tryz.prog 29 #[.pointer (some ⟨e, 0, none⟩), lineV 10 (some ⟨gn, 0, none⟩) 1 cn 0 [] 0 none 0 0] W (TlPost (rulA a.fs x).1 (rulA a.fs x).2 0 0 [] W) := by
 refine (tellRuleE e gn cn x (rulA a.fs x).2 (rulA a.fs x).1 W hc hg fun W' hW' => ?_).mono ?_
 ·obtain ⟨S, ad, c, fs, h1, h2, h3, h4, h5⟩ := (h.next hW').sheet
  refine (rule69 x e c ad fs W' h1 (hE.next hW') h4 h5 (by omega)).mono ?_
  rintro r w' ⟨hb, hr⟩
  refine ⟨?_, hb⟩
  unfold rulA
  rw [← h2, find_snd]
  cases hf : findF fs x with
  | none => rw [hf] at hr; exact hr
  | some f => rw [hf] at hr; exact hr
 ·rintro r w' ⟨rfl, hb⟩
  exact ⟨none, 0, 0, rfl, rfl, World.ownsRow_nil _ _ _ _, hb⟩
theorem EdA.order (h : EdA W e F k a) (an0 : Option Addr) (ln0 cn0 : Nat) : Calls Tryz.prog 29 #[.pointer (some ⟨e, 0, none⟩), lineV 12 an0 ln0 cn0 0 [] 0 none 0 0] W (TlPost 0 [] 0 0 (a.fs.map fun f => f.nm) W) := by
 refine (tellOrder e an0 ln0 cn0 (a.fs.map fun f => f.nm) W fun W' hW' => ?_).mono ?_
 ·obtain ⟨S, ad, c, fs, h1, h2, h3, h4, h5⟩ := (h.next hW').sheet
  refine (order71 e c ad fs W' h1 h4 (by omega)).mono ?_
  rintro r w' ⟨v, rfl, hown, hb⟩
  obtain ⟨bn, ln, cn, rfl⟩ := own_slice hown
  have e1 : nmsF fs = a.fs.map fun f => f.nm := by
   rw [← h2, List.map_map]
   rfl
  have e2 : fs.length = (a.fs.map fun f => f.nm).length := by rw [← h2]; simp
  rw [e1, e2] at hown
  exact ⟨bn, ln, cn, rfl, hown, hb⟩
 ·rintro r w' ⟨bn, ln, cn, rfl, hown, hb⟩
  have hln : ln = (a.fs.map fun f => f.nm).length := by
   rcases hown.2 with h1 | ⟨g, cap, cur, h1, _⟩
   ·have := h1.1
    cases this
    exact h1.2.symm
   ·cases h1
    rfl
  rw [← hln] at hown
  exact ⟨bn, ln, cn, rfl, hln, hown, hb⟩
theorem edANew (M : Nat) (hM : M ≤ 6) (w : World) : Calls Tryz.prog 13 #[.int .i64 (M : Int)] w fun r w' => ∃ e, r = .returned (.tuple #[.pointer (some ⟨e, 0, none⟩), .int .i64 0]) ∧ Below w.heap.size w w' ∧ EdA w' e (fun q => w.heap.size ≤ q ∧ q < w'.heap.size) 0 ⟨M, [], [], [], none⟩ := by
 refine (new44 M hM w).mono ?_
 rintro r w' ⟨rfl, rfl⟩
 have hrow := heap_alloc_new w (.cells #[.slice none 0 0, .int .i64 (M : Int), .slice none 0 0, .slice none 0 0, .bool false, .slice none 0 0] 65)
 refine ⟨w.heap.size, rfl, (Below.refl _ _).alloc (Nat.le_refl _) _, fun _ => False, fun _ => False, ⟨[], fun _ => ⟨[], .atom 0 [] 0, (0, 0)⟩⟩, .slice none 0 0, .slice none 0 0, .slice none 0 0, [], [], [], ⟨⟨fun _ h => h.elim, fun h => h, fun h => h, fun _ h => h.elim, fun b hb => by simp at hb, none, 0, fun j hj => by simp at hj, Nat.le_refl _, fun _ => rfl, hrow⟩, ⟨_, _, RowB.nil _ _ _ _⟩, ⟨_, _, RowB.nil _ _ _ _⟩, ⟨_, _, RowB.nil _ _ _ _⟩, fun q hq => by simp [Value.ownBlock] at hq, fun q hq => by simp [Value.ownBlock] at hq, fun q hq => by simp [Value.ownBlock] at hq, hM, by simp⟩, ⟨⟨by simp, fun b hb => by simp at hb, ?_, by simp, fun f hf => by simp [Sta.fs] at hf⟩, rfl, fun u hu => by simp [gall] at hu, rfl, trivial, trivial⟩, Nat.le_refl _, ?_, fun q hq => hq.2⟩
 ·exact ⟨by simp [Sta.fs, enumF], by simp [Sta.fs, enumF], by simp [Sta.fs, enumF, Topo], by simp [Sta.fs, enumF], by simp [Sta.fs, enumF]⟩
 ·rintro q (h | h | h | h | h | h)
  ·exact h.elim
  ·subst h; exact ⟨Nat.le_refl _, by simp⟩
  ·exact h.elim
  ·simp [Value.ownBlock] at h
  ·simp [Value.ownBlock] at h
  ·simp [Value.ownBlock] at h
end
section
def keyF (f : Fd) : By × By := (f.nm, txt f.p)
def keyB (k : By × By) : By := k.1 ++ [32, 61, 32] ++ k.2 ++ [10]
theorem fst_inj : ∀ {l : List (By × By)}, (l.map Prod.fst).Nodup → ∀ {a b : By × By}, a ∈ l → b ∈ l → a.1 = b.1 → a = b
 | [], _, _, _, h, _, _ => by simp at h
 | c :: r, hn, a, b, ha, hb, e => by
  simp only [List.map_cons, List.nodup_cons] at hn
  rcases List.mem_cons.1 ha with rfl | ha
  ·rcases List.mem_cons.1 hb with rfl | hb
   ·rfl
   ·exact absurd (e ▸ List.mem_map_of_mem hb) hn.1
  ·rcases List.mem_cons.1 hb with hb' | hb
   ·exact absurd (hb' ▸ e ▸ List.mem_map_of_mem ha) hn.1
   ·exact fst_inj hn.2 ha hb e
theorem srt_uniq {A B : List (By × By)} (hp : A.Perm B) (hA : A.Pairwise fun f g => ¬ g.1 < f.1) (hB : B.Pairwise fun f g => ¬ g.1 < f.1) (hn : (A.map Prod.fst).Nodup) : A = B :=
 List.Perm.eq_of_pairwise (le := fun f g => ¬ g.1 < f.1) (fun a b ha hb h1 h2 => fst_inj hn ha (hp.mem_iff.2 hb) (List.le_antisymm (List.not_lt.1 h1) (List.not_lt.1 h2))) hA hB hp
theorem lstB_eq (fs : List (Nat × Fd)) : lstB fs = ((srtL fs).map fun g => keyF g.2).flatMap keyB := by
 unfold lstB
 rw [List.flatMap_map]
 rfl
theorem lstB_key {fs fs' : List (Nat × Fd)} (hn : (fs.map fun g => g.2.nm).Nodup) (hp : (fs.map fun g => keyF g.2).Perm (fs'.map fun g => keyF g.2)) : lstB fs = lstB fs' := by
 obtain ⟨p1, s1⟩ := srtL_facts fs
 obtain ⟨p2, s2⟩ := srtL_facts fs'
 have q1 := p1.map fun g => keyF g.2
 have q2 := p2.map fun g => keyF g.2
 rw [lstB_eq, lstB_eq]
 congr 1
 refine srt_uniq ((q1.trans hp).trans q2.symm) ?_ ?_ ?_
 ·rw [List.pairwise_map]; exact s1
 ·rw [List.pairwise_map]; exact s2
 ·have : ((srtL fs).map fun g => g.2.nm).Nodup := ((p1.map fun g => g.2.nm).nodup_iff).2 hn
  rw [List.map_map]
  exact this
noncomputable def lsA (fs : List Fd) : By := lstB (enumF fs)
theorem enum_map {β : Type} (f : Fd → β) (fs : List Fd) : (enumF fs).map (fun g => f g.2) = fs.map f := by
 have := congrArg (List.map f) (enumF_snd fs)
 rw [List.map_map] at this
 exact this
theorem lsA_of {gs : List (Nat × Fd)} (hn : (gs.map fun g => g.2.nm).Nodup) : lstB gs = lsA (gs.map Prod.snd) := by
 refine lstB_key hn (List.Perm.of_eq ?_)
 rw [enum_map keyF, List.map_map]
 rfl
variable {e k : Nat} {F : Nat → Prop} {w w' W w1 w2 w3 W0 : World} {a : Ab}
theorem EdA.fsOk (h : EdA w e F k a) : FsOk a.fs := by
 obtain ⟨S, D, σ, dv, uv, gv, dn, ud, gr, h1, h2, h3, h4, h5⟩ := h
 rw [h2.fs]
 exact ⟨h2.gs.gf, by have := h2.gs.len; simpa [Sta.fs] using this, h2.gs.nmo⟩
theorem FsOk.nd {fs : List Fd} (h : FsOk fs) : (fs.map fun g => g.nm).Nodup := by
 exact h.gf.nn
theorem EdA.list (h : EdA W e F k a) (hE : Env W) (an0 : Option Addr) (ln0 cn0 : Nat) : Calls Tryz.prog 29 #[.pointer (some ⟨e, 0, none⟩), lineV 11 an0 ln0 cn0 0 [] 0 none 0 0] W (TlPost 0 (lsA a.fs) 0 0 [] W) := by
 refine (tellList e an0 ln0 cn0 (lsA a.fs) W fun W' hW' => ?_).mono ?_
 ·have hok := h.fsOk
  obtain ⟨S, ad, c, fs, h1, h2, h3, h4, h5⟩ := (h.next hW').sheet
  refine (listS e c ad fs W' h1 (hE.next hW') h4 h5 (by omega) fun f hf => ?_).mono ?_
  ·have := (hok.nmo f.2 (h2 ▸ List.mem_map_of_mem hf)).2
   omega
  ·rintro r w' ⟨rfl, hb⟩
   have hn := hok.nd
   rw [← h2, List.map_map] at hn
   rw [lsA_of hn, h2]
   exact ⟨rfl, hb⟩
 ·rintro r w' ⟨rfl, hb⟩
  exact ⟨none, 0, 0, rfl, rfl, World.ownsRow_nil _ _ _ _, hb⟩
end
section
structure Rp where
 er : Int
 at_ : Int
 tx : By
 nm : List By
 kd : Int
 nn : Int
def edR (a : Ab) (ar : AR) : Rp × Ab := (⟨(ar.code : Int), 0, [], ar.names, 0, 0⟩, editA a ar)
def hsR (x : Nat × Ab) : Rp × Ab := (⟨(x.1 : Int), 0, [], [], 0, 0⟩, x.2)
noncomputable def lnA (a : Ab) : Ln → Rp × Ab
 | .err vb er p => (⟨er, p, [], [], 0, 0⟩, if edV vb = true then failA a else a)
 | .set x p => edR a (setA a.fs x p)
 | .del x => edR a (delA a.fs x)
 | .ren x y => edR a (renA a.fs x y)
 | .begin => hsR (beginA a)
 | .commit => hsR (commitA a)
 | .cancel => hsR (cancelA a)
 | .undo => hsR (undoA a)
 | .redo => hsR (redoA a)
 | .value x => (⟨(valA a.fs x).1, 0, [], [], (valA a.fs x).2.1, (valA a.fs x).2.2⟩, a)
 | .rule x => (⟨(rulA a.fs x).1, 0, (rulA a.fs x).2, [], 0, 0⟩, a)
 | .list => (⟨0, 0, lsA a.fs, [], 0, 0⟩, a)
 | .order => (⟨0, 0, [], a.fs.map fun f => f.nm, 0, 0⟩, a)
variable {e k : Nat} {F T : Nat → Prop} {w w' W w1 w2 w3 W0 : World} {a : Ab} {nm : List By} {bn : Option Addr} {ln cn : Nat} {s : By}
theorem Res.more {k' : Nat} (h : Res F T e k a nm w bn ln cn w') (hk : k ≤ k') : Res F T e k' a nm w bn ln cn w' := by
 obtain ⟨h1, h2, h3, F', h4, h5⟩ := h
 exact ⟨h1, h2, h3, F', h4.more hk, h5⟩
def DoPost (F : Nat → Prop) (e k : Nat) (a : Ab) (l : Ln) (w : World) (r : Ending) (w' : World) : Prop :=
 ∃ bn ln cn, r = .returned (rpV (lnA a l).1.er (lnA a l).1.at_ (lnA a l).1.tx bn ln cn (lnA a l).1.kd (lnA a l).1.nn) ∧ Res F (fun _ => False) e (k + 1) (lnA a l).2 (lnA a l).1.nm w bn ln cn w'
theorem EdA.doLn (h : EdA w e F k a) (hk : k + 1 < 1000000000000) (hE0 : Env W0) (hL0 : EnvL W0) (hlow : Below W0.heap.size W0 w) (hF : ∀ q, F q → W0.heap.size ≤ q) (s : By) (l : Ln) (hok : l.Ok) (hs : ∀ r, LineP s r → r = l.r) :
  Calls Tryz.prog 8 #[.pointer (some ⟨e, 0, none⟩), .string ⟨s.toArray⟩] w (DoPost F e k a l w) := by
 have hfs := h.fsOk
 have hE := hE0.next hlow
 have hEL := hL0.next hE0 hlow
 have hb0 : Below w.heap.size w (w.alloc zRep) := (Below.refl _ _).alloc (Nat.le_refl _) zRep
 have e1 : (w.alloc zRep).heap.size = w.heap.size + 1 := by simp
 have hread : Calls Tryz.prog 14 #[.string ⟨s.toArray⟩] (w.alloc zRep) fun r w1 => RetL l.r (w.alloc zRep) r w1 ∧ Below (w.alloc zRep).heap.size (w.alloc zRep) w1 := by
  refine (linesRead s (w.alloc zRep) (hE.next hb0) (hEL.next hE hb0)).mono ?_
  rintro r w1 ⟨r', h1, h2, h3⟩
  rw [hs r' h1] at h2
  exact ⟨h2, h3⟩
 have hEw : ∀ {w1 W : World}, Below (w.alloc zRep).heap.size (w.alloc zRep) w1 → Below w1.heap.size w1 W → Env W := fun h1 h2 => ((hE.next hb0).next h1).next h2
 have edit : ∀ (ar : AR) (he : lnA a l = edR a ar), (∀ fs n, ar = .ok fs n → FsOk fs) → (∀ c n, ar = .err c n → c ≠ 0) → (∀ r w1, RetL l.r (w.alloc zRep) r w1 → Below (w.alloc zRep).heap.size (w.alloc zRep) w1 → EdLine e F a ar w r w1) → Calls Tryz.prog 8 #[.pointer (some ⟨e, 0, none⟩), .string ⟨s.toArray⟩] w (DoPost F e k a l w) := fun ar he h1 h2 h3 => by
  refine (h.doEdit hk s ar h1 h2 (hread.mono fun r w1 hr => h3 r w1 hr.1 hr.2)).mono ?_
  rintro r w' ⟨bn, ln, cn, rfl, hres⟩
  unfold DoPost
  rw [he]
  exact ⟨bn, ln, cn, rfl, hres⟩
 have hist : ∀ (vb : Int) (N : Nat) (x : Nat × Ab), l.r = .ok vb [] none → lnA a l = hsR x → edV vb = false → FollowH vb N → (∀ W, EdA W e F k a → Calls Tryz.prog N #[.pointer (some ⟨e, 1, none⟩)] W (HPost e k F x W)) → Calls Tryz.prog 8 #[.pointer (some ⟨e, 0, none⟩), .string ⟨s.toArray⟩] w (DoPost F e k a l w) := fun vb N x hl he hv hf hX => by
  refine (h.doHist s vb hv N hf x hX (hread.mono ?_)).mono ?_
  ·rintro r w1 ⟨h1, h2⟩
   rw [hl] at h1
   obtain ⟨an, ln, cn, rfl, _⟩ := h1
   exact ⟨by rw [← e1]; exact h2, an, ln, cn, rfl⟩
  ·rintro r w' ⟨rfl, hres⟩
   unfold DoPost
   rw [he]
   exact ⟨none, 0, 0, rfl, hres.more (by omega)⟩
 have tell : ∀ (vb : Int) (ns : List By) (er : Int) (tx : By) (kd nn : Int) (nm : List By), l.r = .ok vb ns none → lnA a l = (⟨er, 0, tx, nm, kd, nn⟩, a) → (vb = 9 ∨ vb = 10 ∨ vb = 11 ∨ vb = 12) → (∀ w1 an ln cn, w1.ownsRow (w.alloc zRep).heap.size 9 1 (.slice an ln cn) ns.length (strs ns) → Below (w.alloc zRep).heap.size (w.alloc zRep) w1 → ∀ W, Below w1.heap.size w1 W → EdA W e F k a → Calls Tryz.prog 29 #[.pointer (some ⟨e, 0, none⟩), lineV vb an ln cn 0 [] 0 none 0 0] W (TlPost er tx kd nn nm W)) → Calls Tryz.prog 8 #[.pointer (some ⟨e, 0, none⟩), .string ⟨s.toArray⟩] w (DoPost F e k a l w) := fun vb ns er tx kd nn nm hl he hv hT => by
  refine (h.doTell s vb hv er tx kd nn nm (hread.mono ?_)).mono ?_
  ·rintro r w1 ⟨h1, h2⟩
   rw [hl] at h1
   obtain ⟨an, ln, cn, rfl, hown⟩ := h1
   exact ⟨by rw [← e1]; exact h2, an, ln, cn, rfl, hT w1 an ln cn hown h2⟩
  ·rintro r w' ⟨bn, ln, cn, rfl, hres⟩
   unfold DoPost
   rw [he]
   exact ⟨bn, ln, cn, rfl, hres.more (by omega)⟩
 have one : ∀ (x : By) (w1 : World) (an : Option Addr) (ln cn : Nat), w1.ownsRow (w.alloc zRep).heap.size 9 1 (.slice an ln cn) [x].length (strs [x]) → ∃ g, an = some ⟨g, 0, none⟩ ∧ ln = 1 ∧ g < w1.heap.size ∧ w1.cell? ⟨g, 0, none⟩ = some (.string ⟨x.toArray⟩) := fun x w1 an ln cn hown => by
  obtain ⟨g, cap, hv, hg, hgl⟩ := hown.form (by simp)
  simp at hv
  obtain ⟨rfl, rfl, rfl⟩ := hv
  have hc := hown.cellAt 0 (by simp)
  exact ⟨g, rfl, rfl, hgl, by simpa [strs] using hc⟩
 cases l with
 | err vb er p =>
  refine (h.doErr (by omega) s vb er p hok (hread.mono ?_)).mono ?_
  ·rintro r w1 ⟨h1, h2⟩
   exact ⟨by rw [← e1]; exact h2, h1⟩
  ·rintro r w' ⟨rfl, hres⟩
   exact ⟨none, 0, 0, rfl, hres.more (by omega)⟩
 | set x p =>
  obtain ⟨h1, h2, h3, h4⟩ := hok
  exact edit _ rfl (fun fs n he => hfs.set h2 h1 he) (fun c n he => setA_err he) fun r w1 hr hb => edLine_set hr hb h2 h3 h4
 | del x => exact edit _ rfl (fun fs n he => hfs.del he) (fun c n he => delA_err he) fun r w1 hr hb => edLine_del hr hb
 | ren x y =>
  obtain ⟨h1, h2⟩ := hok
  exact edit _ rfl (fun fs n he => hfs.ren h2 he) (fun c n he => renA_err he) fun r w1 hr hb => edLine_ren hE0 hlow hF hr hb h1.1 (by have := h2.2; omega)
 | begin => exact hist 4 _ _ rfl rfl rfl followBegin fun W hW => hW.beginH
 | commit => exact hist 5 _ _ rfl rfl rfl followCommit fun W hW => hW.commitH (by omega)
 | cancel => exact hist 6 _ _ rfl rfl rfl followCancel fun W hW => hW.cancelH (by omega)
 | undo => exact hist 7 _ _ rfl rfl rfl followUndo fun W hW => hW.undo
 | redo => exact hist 8 _ _ rfl rfl rfl followRedo fun W hW => hW.redo
 | value x =>
  refine tell 9 [x] _ _ _ _ _ rfl rfl (Or.inl rfl) fun w1 an ln cn hown hb W hW hEd => ?_
  obtain ⟨g, rfl, rfl, hg, hc⟩ := one x w1 an ln cn hown
  exact hEd.value ((World.cell?_of_block (a := ⟨g, 0, none⟩) (hW.block g hg)).trans hc) (by have := hW.size; omega)
 | rule x =>
  refine tell 10 [x] _ _ _ _ _ rfl rfl (Or.inr (Or.inl rfl)) fun w1 an ln cn hown hb W hW hEd => ?_
  obtain ⟨g, rfl, rfl, hg, hc⟩ := one x w1 an ln cn hown
  exact hEd.rule (hEw hb hW) ((World.cell?_of_block (a := ⟨g, 0, none⟩) (hW.block g hg)).trans hc) (by have := hW.size; omega)
 | list => exact tell 11 [] _ _ _ _ _ rfl rfl (Or.inr (Or.inr (Or.inl rfl))) fun w1 an ln cn hown hb W hW hEd => hEd.list (hEw hb hW) an ln cn
 | order => exact tell 12 [] _ _ _ _ _ rfl rfl (Or.inr (Or.inr (Or.inr rfl))) fun w1 an ln cn hown hb W hW hEd => hEd.order an ln cn
end
section
structure En where
 e : Nat
 k : Nat
 a : Ab
structure Sts (W0 : World) (T : Nat → Prop) (E : List En) (w : World) : Prop where
 low : Below W0.heap.size W0 w
 tlt : ∀ q, T q → q < w.heap.size
 eds : ∃ F : Nat → Nat → Prop, (∀ i (h : i < E.length), EdA w E[i].e (F i) E[i].k E[i].a) ∧ (∀ i j q, F i q → F j q → i = j) ∧ ∀ i q, F i q → W0.heap.size ≤ q ∧ ¬ T q ∧ q < w.heap.size
structure Kt (T : Nat → Prop) (w w' : World) : Prop where
 size : w.heap.size ≤ w'.heap.size
 block : ∀ q, T q → w'.heap[q]? = w.heap[q]?
variable {W0 w w' W w1 w2 : World} {T T' : Nat → Prop} {E : List En} {e k i : Nat} {a : Ab} {s : By} {l : Ln}
theorem Kt.refl (T : Nat → Prop) (w : World) : Kt T w w := ⟨Nat.le_refl _, fun _ _ => rfl⟩
theorem Kt.trans (h : Kt T w w1) (h' : Kt T w1 w2) : Kt T w w2 := ⟨Nat.le_trans h.size h'.size, fun q hq => (h'.block q hq).trans (h.block q hq)⟩
theorem Kt.less (h : Kt T w w1) (hT : ∀ q, T' q → T q) : Kt T' w w1 := ⟨h.size, fun q hq => h.block q (hT q hq)⟩
theorem Sts.empty (W0 : World) : Sts W0 (fun _ => False) [] W0 := ⟨Below.refl _ _, fun _ h => h.elim, fun _ _ => False, fun i h => by simp at h, fun _ _ _ h => h.elim, fun _ _ h => h.elim⟩
theorem Sts.keep {P : Nat → Prop} (h : Sts W0 T E w) (hk : Ks P w w') (hP : ∀ q, P q → T q ∨ w.heap.size ≤ q) (h0 : ∀ q, P q → W0.heap.size ≤ q) : Sts W0 T E w' := by
 obtain ⟨hl, ht, F, h1, h2, h3⟩ := h
 refine ⟨hl.trans (hk.low h0 hl.size), fun q hq => Nat.lt_of_lt_of_le (ht q hq) hk.size, F, fun i hi => (h1 i hi).keep hk fun q hq hp => ?_, h2, fun i q hq => ⟨(h3 i q hq).1, (h3 i q hq).2.1, Nat.lt_of_lt_of_le (h3 i q hq).2.2 hk.size⟩⟩
 rcases hP q hp with h4 | h4
 ·exact (h3 i q hq).2.1 h4
 ·have := (h3 i q hq).2.2; omega
theorem Sts.next (h : Sts W0 T E w) (hb : Below w.heap.size w w') : Sts W0 T E w' := h.keep (P := fun _ => False) (Ks.of hb) (fun _ h => h.elim) fun _ h => h.elim
theorem Sts.grow (h : Sts W0 T E w) (hb : Below w.heap.size w w') : Sts W0 (fun q => T q ∨ (w.heap.size ≤ q ∧ q < w'.heap.size)) E w' := by
 obtain ⟨hl, ht, F, h1, h2, h3⟩ := h
 refine ⟨hl.trans (hb.mono hl.size), fun q hq => ?_, F, fun i hi => (h1 i hi).next hb, h2, fun i q hq => ⟨(h3 i q hq).1, fun h4 => ?_, Nat.lt_of_lt_of_le (h3 i q hq).2.2 hb.size⟩⟩
 ·rcases hq with h4 | h4
  ·exact Nat.lt_of_lt_of_le (ht q h4) hb.size
  ·exact h4.2
 ·rcases h4 with h4 | h4
  ·exact (h3 i q hq).2.1 h4
  ·have := (h3 i q hq).2.2; omega
theorem Sts.set (h : Sts W0 T E w) {t : Nat} (ht : T t) (h0 : W0.heap.size ≤ t) (j : Nat) (u : Value) : Sts W0 T E (w.setCell ⟨t, j, none⟩ u) :=
 h.keep (P := fun q => q = t) ((Ks.refl _ _).set t j u rfl) (fun q hq => Or.inl (hq ▸ ht)) fun q hq => hq ▸ h0
theorem Sts.less (h : Sts W0 T E w) (hT : ∀ q, T' q → T q) : Sts W0 T' E w := by
 obtain ⟨hl, ht, F, h1, h2, h3⟩ := h
 exact ⟨hl, fun q hq => ht q (hT q hq), F, h1, h2, fun i q hq => ⟨(h3 i q hq).1, fun h4 => (h3 i q hq).2.1 (hT q h4), (h3 i q hq).2.2⟩⟩
theorem Sts.fsOk (h : Sts W0 T E w) (hi : i < E.length) : FsOk (E[i].a).fs := by
 obtain ⟨hl, ht, F, h1, h2, h3⟩ := h
 exact (h1 i hi).fsOk
theorem set_at {α : Type} (l : List α) (i : Nat) (x : α) (j : Nat) (h : j < (l.set i x).length) : (l.set i x)[j] = if i = j then x else l[j]'(by simpa using h) := List.getElem_set ..
theorem Sts.res {F : Nat → Nat → Prop} {nm : List By} {bn : Option Addr} {ln cn : Nat} (h : Sts W0 T E w) (hi : i < E.length) (h1 : ∀ i (h : i < E.length), EdA w E[i].e (F i) E[i].k E[i].a) (h2 : ∀ i j q, F i q → F j q → i = j) (h3 : ∀ i q, F i q → W0.heap.size ≤ q ∧ ¬ T q ∧ q < w.heap.size) (hr : Res (F i) (fun _ => False) E[i].e k a nm w bn ln cn w') :
  ln = nm.length ∧ w'.ownsRow w.heap.size 9 1 (.slice bn ln cn) ln (strs nm) ∧ Kt T w w' ∧ Sts W0 (fun q => T q ∨ (Value.slice bn ln cn).ownBlock = some q) (E.set i ⟨E[i].e, k, a⟩) w' := by
 obtain ⟨g1, g2, g3, F', g4, g5, g6, g7⟩ := hr
 have hsz := g2.size
 refine ⟨g1, g3, ⟨hsz, fun q hq => g2.block q (h.tlt q hq) fun hf => (h3 i q hf).2.1 hq⟩, h.low.trans (g2.low (fun q hq => (h3 i q hq).1) h.low.size), fun q hq => ?_, fun j q => if j = i then F' q else F j q, fun j hj => ?_, fun j j' q hq hq' => ?_, fun j q hq => ?_⟩
 ·rcases hq with hq | hq
  ·exact Nat.lt_of_lt_of_le (h.tlt q hq) hsz
  ·exact (g3.lt q hq).2
 ·have hj' : j < E.length := by simpa using hj
  rw [set_at]
  by_cases hij : i = j
  ·subst hij
   simp only [if_true]
   exact g4
  ·rw [if_neg hij]
   simp only [if_neg (Ne.symm hij)]
   exact (h1 j hj').keep g2 fun q hq hf => hij (h2 i j q hf hq)
 ·by_cases e1 : j = i
  ·by_cases e2 : j' = i
   ·rw [e1, e2]
   ·simp only [if_pos e1, if_neg e2] at hq hq'
    rcases g5 q hq with h5 | h5
    ·exact absurd (h2 i j' q h5 hq') (Ne.symm e2)
    ·have := (h3 j' q hq').2.2; omega
  ·by_cases e2 : j' = i
   ·simp only [if_neg e1, if_pos e2] at hq hq'
    rcases g5 q hq' with h5 | h5
    ·exact absurd (h2 i j q h5 hq) (Ne.symm e1)
    ·have := (h3 j q hq).2.2; omega
   ·simp only [if_neg e1, if_neg e2] at hq hq'
    exact h2 j j' q hq hq'
 ·by_cases e1 : j = i
  ·simp only [if_pos e1] at hq
   refine ⟨?_, fun ht => ?_, g4.lt q hq⟩
   ·rcases g5 q hq with h5 | h5
    ·exact (h3 i q h5).1
    ·exact Nat.le_trans h.low.size h5
   ·rcases ht with ht | ht
    ·rcases g5 q hq with h5 | h5
     ·exact (h3 i q h5).2.1 ht
     ·have := h.tlt q ht; omega
    ·exact (g6 q ht).1 hq
  ·simp only [if_neg e1] at hq
   refine ⟨(h3 j q hq).1, fun ht => ?_, Nat.lt_of_lt_of_le (h3 j q hq).2.2 hsz⟩
   rcases ht with ht | ht
   ·exact (h3 j q hq).2.1 ht
   ·have := (g3.lt q ht).1; have := (h3 j q hq).2.2; omega
def DoS (W0 : World) (T : Nat → Prop) (E : List En) (i : Nat) (hi : i < E.length) (l : Ln) (w : World) (r : Ending) (w' : World) : Prop :=
 ∃ bn ln cn, r = .returned (.agg #[.int .i64 (lnA E[i].a l).1.er, .int .i64 (lnA E[i].a l).1.at_, .string ⟨(lnA E[i].a l).1.tx.toArray⟩, .slice bn ln cn, .int .i64 (lnA E[i].a l).1.kd, .int .i64 (lnA E[i].a l).1.nn]) ∧ ln = (lnA E[i].a l).1.nm.length ∧ w'.ownsRow w.heap.size 9 1 (.slice bn ln cn) ln (strs (lnA E[i].a l).1.nm) ∧ Kt T w w' ∧ Sts W0 (fun q => T q ∨ (Value.slice bn ln cn).ownBlock = some q) (E.set i ⟨E[i].e, E[i].k + 1, (lnA E[i].a l).2⟩) w'
theorem Sts.do (h : Sts W0 T E w) (hE : Env W0) (hL : EnvL W0) (hi : i < E.length) (hk : E[i].k + 1 < 1000000000000) (hl : IsLn s l) :
  Calls Tryz.prog 8 #[.pointer (some ⟨E[i].e, 0, none⟩), .string ⟨s.toArray⟩] w (DoS W0 T E i hi l w) := by
 obtain ⟨F, h1, h2, h3⟩ := h.eds
 refine ((h1 i hi).doLn hk hE hL h.low (fun q hq => (h3 i q hq).1) s l hl.1 hl.2).mono ?_
 rintro r w' ⟨bn, ln, cn, rfl, hres⟩
 obtain ⟨g1, g2, g3, g4⟩ := h.res hi h1 h2 h3 hres
 exact ⟨bn, ln, cn, rfl, g1, g2, g3, g4⟩
theorem EdA.shut {F : Nat → Prop} (h : EdA w e F k a) (hg : a.grp = none) (k' : Nat) : EdA w e F k' a := by
 obtain ⟨S, D, σ, dv, uv, gv, dn, ud, gr, h1, h2, h3, h4, h5⟩ := h
 have hok := h2.ok
 rw [hg] at hok
 exact ⟨S, D, σ, dv, uv, gv, dn, ud, gr, h1, h2, by rw [hok.1]; simp, h4, h5⟩
theorem Sts.re {x y : En} (h : Sts W0 T (E.set i x) w) (h1 : y.e = x.e) (h2 : y.a = x.a) (hk : x.k ≤ y.k ∨ x.a.grp = none) : Sts W0 T (E.set i y) w := by
 obtain ⟨hl, ht, F, g1, g2, g3⟩ := h
 refine ⟨hl, ht, F, fun j hj => ?_, g2, g3⟩
 have hj' : j < (E.set i x).length := by simpa using hj
 have := g1 j hj'
 rw [set_at] at this ⊢
 by_cases e1 : i = j
 ·rw [if_pos e1] at this ⊢
  rw [h1, h2]
  rcases hk with hk | hk
  ·exact this.more hk
  ·exact this.shut hk _
 ·rw [if_neg e1] at this ⊢
  exact this
theorem Sts.new (h : Sts W0 T E w) (M : Nat) (hM : M ≤ 6) : Calls Tryz.prog 13 #[.int .i64 (M : Int)] w fun r w' => ∃ e, r = .returned (.tuple #[.pointer (some ⟨e, 0, none⟩), .int .i64 0]) ∧ Kt T w w' ∧ Sts W0 T (E ++ [⟨e, 0, ⟨M, [], [], [], none⟩⟩]) w' := by
 refine (edANew M hM w).mono ?_
 rintro r w' ⟨e, rfl, hb, hed⟩
 obtain ⟨F, h1, h2, h3⟩ := h.eds
 have hsz := hb.size
 refine ⟨e, rfl, ⟨hsz, fun q hq => hb.block q (h.tlt q hq)⟩, h.low.trans (hb.mono h.low.size), fun q hq => Nat.lt_of_lt_of_le (h.tlt q hq) hsz, fun j q => if j < E.length then F j q else if j = E.length then (w.heap.size ≤ q ∧ q < w'.heap.size) else False, fun j hj => ?_, fun j j' q hq hq' => ?_, fun j q hq => ?_⟩
 ·rcases Nat.lt_or_ge j E.length with e1 | e1
  ·rw [List.getElem_append_left e1]
   simp only [if_pos e1]
   exact (h1 j e1).next hb
  ·have e2 : j = E.length := by simp at hj; omega
   subst e2
   simp only [Nat.lt_irrefl, if_false, if_true]
   simpa using hed
 ·by_cases e1 : j < E.length
  ·simp only [if_pos e1] at hq
   by_cases e2 : j' < E.length
   ·simp only [if_pos e2] at hq'
    exact h2 j j' q hq hq'
   ·simp only [if_neg e2] at hq'
    by_cases e3 : j' = E.length
    ·rw [if_pos e3] at hq'
     have := (h3 j q hq).2.2; omega
    ·rw [if_neg e3] at hq'
     exact hq'.elim
  ·simp only [if_neg e1] at hq
   by_cases e3 : j = E.length
   ·rw [if_pos e3] at hq
    by_cases e2 : j' < E.length
    ·simp only [if_pos e2] at hq'
     have := (h3 j' q hq').2.2; omega
    ·simp only [if_neg e2] at hq'
     by_cases e4 : j' = E.length
     ·rw [e3, e4]
     ·rw [if_neg e4] at hq'
      exact hq'.elim
   ·rw [if_neg e3] at hq
    exact hq.elim
 ·by_cases e1 : j < E.length
  ·simp only [if_pos e1] at hq
   exact ⟨(h3 j q hq).1, (h3 j q hq).2.1, Nat.lt_of_lt_of_le (h3 j q hq).2.2 hsz⟩
  ·simp only [if_neg e1] at hq
   by_cases e3 : j = E.length
   ·rw [if_pos e3] at hq
    exact ⟨Nat.le_trans h.low.size hq.1, fun ht => by have := h.tlt q ht; omega, hq.2⟩
   ·rw [if_neg e3] at hq
    exact hq.elim
end
section
attribute [local go_sem] idx_eq app_eq
theorem told_ok (e : Nat) (tx : By) (w : World) (Q : World → Prop) (hQ : ∀ w1 w2, Q w1 → Below w1.heap.size w1 w2 → Q w2)
  (hD : Calls Tryz.prog 8 #[.pointer (some ⟨e, 0, none⟩), .string ⟨([108, 105, 115, 116] : By).toArray⟩] w fun r w' => (∃ (at_ : Int) (an : Option Addr) (ln cn : Nat) (k n : Int), r = .returned (.agg #[.int .i64 0, .int .i64 at_, .string ⟨tx.toArray⟩, .slice an ln cn, .int .i64 k, .int .i64 n])) ∧ Q w') :
  Calls Tryz.prog 7 #[.pointer (some ⟨e, 0, none⟩)] w fun r w' => r = .returned (.string ⟨tx.toArray⟩) ∧ Q w' := by
 have HD := tZ hD
 clear hD
 go_enter Tryz.func7, Tryz.ntmps7
 go_wp2_with (first | (go_at_call 8; refine HD.out.mono ?_; rintro r w1 ⟨⟨at_, an, ln, cn, k, n, rfl⟩, hq⟩; have HQ := tZ hq; clear hq))
 go_ret
 exact ⟨rfl, hQ _ _ HQ.out (bZ _)⟩
end
section
variable {W0 w w' W w1 w2 : World} {T T' : Nat → Prop} {E : List En} {e k i : Nat} {a : Ab} {s : By} {l : Ln}
theorem Kt.below (h : Kt T w w1) (hT : ∀ q, T q → q < w1.heap.size) (hb : Below w1.heap.size w1 w2) : Kt T w w2 := h.trans ⟨hb.size, fun q hq => hb.block q (hT q hq)⟩
def Lv (W0 : World) (T : Nat → Prop) (E : List En) (w w' : World) : Prop := Kt T w w' ∧ Sts W0 T E w'
theorem Lv.next (h : Lv W0 T E w w1) (hb : Below w1.heap.size w1 w2) : Lv W0 T E w w2 := ⟨h.1.below h.2.tlt hb, h.2.next hb⟩
theorem Sts.doA {rp : Rp} {a' : Ab} (k' : Nat) (h : Sts W0 T E w) (hE : Env W0) (hL : EnvL W0) (hi : i < E.length) (hk : E[i].k + 1 < 1000000000000) (hl : IsLn s l) (hr : lnA E[i].a l = (rp, a')) (hk' : E[i].k + 1 ≤ k' ∨ a'.grp = none) :
  Calls Tryz.prog 8 #[.pointer (some ⟨E[i].e, 0, none⟩), .string ⟨s.toArray⟩] w fun r w' => ∃ bn cn, r = .returned (.agg #[.int .i64 rp.er, .int .i64 rp.at_, .string ⟨rp.tx.toArray⟩, .slice bn rp.nm.length cn, .int .i64 rp.kd, .int .i64 rp.nn]) ∧ w'.ownsRow w.heap.size 9 1 (.slice bn rp.nm.length cn) rp.nm.length (strs rp.nm) ∧ Kt T w w' ∧ Sts W0 (fun q => T q ∨ (Value.slice bn rp.nm.length cn).ownBlock = some q) (E.set i ⟨E[i].e, k', a'⟩) w' := by
 refine (h.do hE hL hi hk hl).mono ?_
 rintro r w' ⟨bn, ln, cn, rfl, h1, h2, h3, h4⟩
 rw [hr] at h1 h2 h4
 rw [hr]
 subst h1
 exact ⟨bn, cn, rfl, h2, h3, h4.re rfl rfl hk'⟩
theorem Sts.doesA {rp : Rp} {a' : Ab} (k' : Nat) (h : Sts W0 T E w) (hE : Env W0) (hL : EnvL W0) (hi : i < E.length) (hk : E[i].k + 1 < 1000000000000) (hl : IsLn s l) (hr : lnA E[i].a l = (rp, a')) (hk' : E[i].k + 1 ≤ k' ∨ a'.grp = none) (h0 : rp.er = 0) (h1 : rp.at_ = 0) :
  Calls Tryz.prog 6 #[.pointer (some ⟨E[i].e, 0, none⟩), .string ⟨s.toArray⟩] w fun r w' => r = .returned (.bool true) ∧ Lv W0 T (E.set i ⟨E[i].e, k', a'⟩) w w' := by
 refine does_ok E[i].e s w (Lv W0 T (E.set i ⟨E[i].e, k', a'⟩) w) (fun w1 w2 h hb => h.next hb) ((h.doA k' hE hL hi hk hl hr hk').mono ?_)
 rintro r w' ⟨bn, cn, rfl, _, h3, h4⟩
 rw [h0, h1]
 exact ⟨⟨rp.tx, bn, _, cn, rp.kd, rp.nn, rfl⟩, h3, h4.less fun q hq => Or.inl hq⟩
theorem Sts.toldA (h : Sts W0 T E w) (hE : Env W0) (hL : EnvL W0) (hi : i < E.length) (hk : E[i].k + 1 < 1000000000000) (hg : E[i].a.grp = none) :
  Calls Tryz.prog 7 #[.pointer (some ⟨E[i].e, 0, none⟩)] w fun r w' => r = .returned (.string ⟨(lsA E[i].a.fs).toArray⟩) ∧ Lv W0 T E w w' := by
 refine told_ok E[i].e (lsA E[i].a.fs) w (Lv W0 T E w) (fun w1 w2 h hb => h.next hb) ((h.doA E[i].k hE hL hi hk isLn_list rfl (Or.inr hg)).mono ?_)
 rintro r w' ⟨bn, cn, rfl, _, h3, h4⟩
 have e1 : E.set i ⟨E[i].e, E[i].k, E[i].a⟩ = E := List.set_getElem_self hi
 rw [e1] at h4
 exact ⟨⟨0, bn, _, cn, 0, 0, rfl⟩, h3, h4.less fun q hq => Or.inl hq⟩
theorem Sts.worthA {nm : By} (h : Sts W0 T E w) (hE : Env W0) (hL : EnvL W0) (hi : i < E.length) (hk : E[i].k + 1 < 1000000000000) (hg : E[i].a.grp = none) (hn : NmOk nm) (ho : NmO nm) :
  Calls Tryz.prog 18 #[.pointer (some ⟨E[i].e, 0, none⟩), .string ⟨nm.toArray⟩] w fun r w' => r = .returned (.tuple #[.int .i64 (valA E[i].a.fs nm).2.1, .int .i64 (valA E[i].a.fs nm).2.2]) ∧ Lv W0 T E w w' := by
 refine worth_ok E[i].e nm w (by have := ho.2; omega) (Lv W0 T E w) (fun w1 w2 h hb => h.next hb) _ _ ((h.doA E[i].k hE hL hi hk (isLn_value nm hn ho) rfl (Or.inr hg)).mono ?_)
 rintro r w' ⟨bn, cn, rfl, _, h3, h4⟩
 have e1 : E.set i ⟨E[i].e, E[i].k, E[i].a⟩ = E := List.set_getElem_self hi
 rw [e1] at h4
 exact ⟨⟨_, _, _, bn, _, cn, rfl⟩, h3, h4.less fun q hq => Or.inl hq⟩
theorem Sts.failsA {nm : By} {n : Int} (h : Sts W0 T E w) (hE : Env W0) (hL : EnvL W0) (hi : i < E.length) (hk : E[i].k + 1 < 1000000000000) (hg : E[i].a.grp = none) (hn : NmOk nm) (ho : NmO nm) (hv : (valA E[i].a.fs nm).2 = (3, n)) :
  Calls Tryz.prog 9 #[.pointer (some ⟨E[i].e, 0, none⟩), .string ⟨nm.toArray⟩, .int .i64 n] w fun r w' => r = .returned (.bool true) ∧ Lv W0 T E w w' := by
 refine fails_ok E[i].e nm w (Lv W0 T E w) n ((h.worthA hE hL hi hk hg hn ho).mono ?_)
 rintro r w' ⟨rfl, h1⟩
 rw [hv]
 exact ⟨rfl, h1⟩
theorem Sts.beginA (h : Sts W0 T E w) (M : Nat) (hM : M ≤ 6) : Calls Tryz.prog 5 #[.int .i64 (M : Int)] w fun r w' => ∃ e, r = .returned (.tuple #[.pointer (some ⟨e, 0, none⟩), .bool true]) ∧ Lv W0 T (E ++ [⟨e, 0, ⟨M, [], [], [], none⟩⟩]) w w' :=
 begin_ok (M : Int) w (fun e w' => Lv W0 T (E ++ [⟨e, 0, ⟨M, [], [], [], none⟩⟩]) w w') ((h.new M hM).mono fun r w' ⟨e, h1, h2, h3⟩ => ⟨e, h1, h2, h3⟩)
theorem lnA_ok {x : By} {p : Pt} {fs : List Fd} {nm : List By} (hg : a.grp = none) (h : setA a.fs x p = .ok fs nm) : lnA a (.set x p) = (⟨0, 0, [], nm, 0, 0⟩, ⟨a.M, fs, (a.fs :: a.past).take a.M, [], none⟩) := by
 simp [lnA, edR, h, editA, doneA, hg, AR.code, AR.names]
theorem lnA_err {x : By} {p : Pt} {c : Nat} {nm : List By} (hg : a.grp = none) (h : setA a.fs x p = .err c nm) : lnA a (.set x p) = (⟨(c : Int), 0, [], nm, 0, 0⟩, a) := by
 simp [lnA, edR, h, editA, failA, hg, AR.code, AR.names]
end
section
attribute [local go_sem] idx_eq app_eq
variable {W0 w w' W w1 w2 : World} {T T' : Nat → Prop} {E : List En} {e k i : Nat} {a : Ab} {s : By} {l : Ln}
theorem Sts.doB {rp : Rp} {a' : Ab} (k' : Nat) (h : Sts W0 T (E.set i ⟨e, k, a⟩) w) (hE : Env W0) (hL : EnvL W0) (hi : i < E.length) (hk : k + 1 < 1000000000000) (hl : IsLn s l) (hr : lnA a l = (rp, a')) (hk' : k + 1 ≤ k' ∨ a'.grp = none) :
  Calls Tryz.prog 8 #[.pointer (some ⟨e, 0, none⟩), .string ⟨s.toArray⟩] w fun r w' => ∃ bn cn, r = .returned (.agg #[.int .i64 rp.er, .int .i64 rp.at_, .string ⟨rp.tx.toArray⟩, .slice bn rp.nm.length cn, .int .i64 rp.kd, .int .i64 rp.nn]) ∧ w'.ownsRow w.heap.size 9 1 (.slice bn rp.nm.length cn) rp.nm.length (strs rp.nm) ∧ Kt T w w' ∧ Sts W0 (fun q => T q ∨ (Value.slice bn rp.nm.length cn).ownBlock = some q) (E.set i ⟨e, k', a'⟩) w' := by
 have hi' : i < (E.set i ⟨e, k, a⟩).length := by simpa using hi
 have e1 : (E.set i (⟨e, k, a⟩ : En))[i] = ⟨e, k, a⟩ := by simp
 have := h.doA (i := i) (rp := rp) (a' := a') (l := l) (s := s) k' hE hL hi' (by rw [e1]; exact hk) hl (by rw [e1]; exact hr) (by rw [e1]; exact hk')
 rw [e1, List.set_set] at this
 exact this
theorem addBlk (a : Addr) (n : Nat) : (a.add n).block = a.block := by unfold Addr.add; split <;> rfl
def RawS (w : World) (B : Nat) (ao : Option Addr) (len : Nat) (S : Nat → By) : Prop := ∀ j, j < len → ∃ a, ao = some a ∧ a.block < B ∧ w.cell? (a.add j) = some (.string ⟨(S j).toArray⟩) ∧ (S j).length ≤ 9223372036854775807
noncomputable def edsA (a : Ab) (S : Nat → By) : Nat → Ab
 | 0 => a
 | n + 1 => (lnA (edsA a S n) (lnB (S n))).2
theorem edit_grp (ar : AR) (h : a.grp = none) : (editA a ar).grp = none := by
 cases ar <;> simp [editA, doneA, failA, h]
theorem lnB_grp (r : By) (h : a.grp = none) : (lnA a (lnB r)).2.grp = none := by
 unfold lnB
 split
 ·exact edit_grp _ h
 ·split
  ·exact edit_grp _ h
  ·exact edit_grp _ h
theorem edsA_grp (S : Nat → By) (h : a.grp = none) : ∀ n, (edsA a S n).grp = none
 | 0 => h
 | n + 1 => lnB_grp _ (edsA_grp S h n)
theorem KeepB.over {o : Obj} (h : KeepB w.heap.size (w.alloc o) w') : Below w.heap.size w w' := by
 have hb := h.below
 have h0 : Below w.heap.size w (w.alloc o) := (Below.refl _ _).alloc (Nat.le_refl _) o
 exact h0.trans hb
theorem feed_new (s : By) (hs : s.length ≤ 9223372036854775807) (w : World) : FeedAt (w.alloc (.cells #[.string ⟨s.toArray⟩, .int .i64 0] 40)) w.heap.size s :=
 ⟨s, 0, heap_alloc_new w _, Nat.zero_le _, rfl, hs⟩
theorem edits_ok (h : Sts W0 T (E.set i ⟨e, 0, a⟩) w) (hE : Env W0) (hL : EnvL W0) (hi : i < E.length) (hg : a.grp = none) (ao : Option Addr) (len cap : Nat) (S : Nat → By) (hlen : len ≤ maxLen) (hraw : RawS W0 W0.heap.size ao len S) :
  Calls Tryz.prog 10 #[.pointer (some ⟨e, 0, none⟩), .slice ao len cap] w fun r w' => r = .returned (.tuple #[]) ∧ Lv W0 T (E.set i ⟨e, 0, edsA a S (min len 20)⟩) w w' := by
 have HS := tZ (Lv.next ⟨Kt.refl T w, h⟩ (Below.refl _ _))
 have HRAW := tZ hraw
 have HDO : Hid (∀ j W, Lv W0 T (E.set i ⟨e, 0, edsA a S j⟩) w W → ∀ W1, Below W.heap.size W W1 → Calls Tryz.prog 8 #[.pointer (some ⟨e, 0, none⟩), .string ⟨(lineB (S j)).toArray⟩] W1 fun r w' => ∃ (er at_ : Int) (tx : By) (bn : Option Addr) (ln cn : Nat) (kd nn : Int), r = .returned (.agg #[.int .i64 er, .int .i64 at_, .string ⟨tx.toArray⟩, .slice bn ln cn, .int .i64 kd, .int .i64 nn]) ∧ Lv W0 T (E.set i ⟨e, 0, edsA a S (j + 1)⟩) w w') := tZ fun j W hW W1 hb => by
  have hW1 := hW.next hb
  refine (hW1.2.doB 0 hE hL hi (by omega) (isLn_line (S j)) (Prod.eta _).symm (Or.inr (lnB_grp _ (edsA_grp S hg j)))).mono ?_
  rintro r w' ⟨bn, cn, rfl, _, h3, h4⟩
  exact ⟨_, _, _, bn, _, cn, _, _, rfl, hW1.1.trans h3, h4.less fun q hq => Or.inl hq⟩
 have hl20 : len ≤ 9223372036854775807 := by unfold maxLen at hlen; exact hlen
 clear h hraw hlen hE hL hi hg
 have HN : Hid (∀ j : Nat, j < 20 → j < len → j + 1 ≤ 20 ∧ 20 ≤ j + 1 + (20 - (j + 1)) ∧ j + 1 ≤ len ∧ ∀ gk, 20 ≤ j + gk → 20 - (j + 1) < gk) := tZ fun j h1 h2 => ⟨by omega, by omega, by omega, fun gk h => by omega⟩
 go_enter Tryz.func10, Tryz.ntmps10
 go_wp2_with fail
 go_loopg [4] 20 (fun gk v wr => ∃ j : Nat, j ≤ 20 ∧ 20 ≤ j + gk ∧ j ≤ len ∧ v = .int .i64 (j : Int) ∧ Hid (Lv W0 T (E.set i ⟨e, 0, edsA a S j⟩) w wr))
 case atStart => exact ⟨0, Nat.zero_le _, Nat.le_refl _, Nat.zero_le _, rfl, HS⟩
 case round =>
  obtain ⟨j, hj20, hgk, hjl, rfl, HI⟩ := hrel
  rcases Nat.lt_or_ge j len with hjn | hjn
  ·have hl1 : (j : Int) < (len : Int) := Int.ofNat_lt.2 hjn
   rcases Nat.lt_or_ge j 20 with hjm | hjm
   ·have hl2 : (j : Int) < 20 := Int.ofNat_lt.2 hjm
    obtain ⟨a0, rfl, hab, hac, hsl⟩ := HRAW.out j hjn
    have hcx := (HI.out.2.low.cell (p := a0.add j) (by rw [addBlk]; exact hab)).trans hac
    have HF := tZ (feed_new (S j) hsl wr)
    clear hac hsl hab
    obtain ⟨hN1, hN2, hN3, hN4⟩ := HN.out j hjm hjn
    go_wp2_with (first | (go_at_call 11; refine (keep_line _ _ _ HF.out).mono ?_; rintro r w2 ⟨rfl, hk2⟩; have HK2 := tZ hk2.over; clear hk2; refine Hid.out ?_))
    refine tZ ?_
    go_wp2_with (first | (go_at_call 8; refine (HDO.out j _ HI.out _ HK2.out).mono ?_; rintro r w3 ⟨er, at_, tx, bn, ln, cn, kd, nn, rfl, hq⟩; have HQ := tZ hq; clear hq; refine Hid.out ?_))
    refine tZ ?_
    go_wp2_with fail
    go_roundg (20 - (j + 1))
    case measure => exact hN4 _ hgk
    case rel => exact ⟨j + 1, hN1, hN2, hN3, by simp, HQ⟩
   ·obtain rfl : j = 20 := Nat.le_antisymm hj20 hjm
    have HM := tZ (show min len 20 = 20 from Nat.min_eq_right (Nat.le_of_lt hjn))
    go_wp2_with fail
    go_end0
    rw [HM.out]
    exact ⟨rfl, HI.out⟩
  ·have HM := tZ (show min len 20 = j from by rw [Nat.min_eq_left (Nat.le_trans hjn hj20)]; exact Nat.le_antisymm hjn hjl)
   have hl1 : ¬ (j : Int) < (len : Int) := fun h => Nat.lt_irrefl _ (Nat.lt_of_lt_of_le (Int.ofNat_lt.1 h) hjn)
   go_wp2_with fail
   go_end0
   rw [HM.out]
   exact ⟨rfl, HI.out⟩
end
section
attribute [local go_sem] idx_eq app_eq
variable {W0 w w' W w1 w2 : World} {T T' : Nat → Prop} {E : List En} {a b : Ab}
theorem row_end : ∀ {l : List (By × By)}, l ≠ [] → ∃ r, l.flatMap keyB = r ++ [10]
 | [], h => absurd rfl h
 | [k], _ => ⟨k.1 ++ [32, 61, 32] ++ k.2, by simp [keyB]⟩
 | k :: k' :: l, _ => by
  obtain ⟨r, hr⟩ := row_end (l := k' :: l) (by simp)
  exact ⟨keyB k ++ r, by rw [List.flatMap_cons, hr]; simp⟩
theorem lsA_ne (fs : List Fd) : lsA fs ≠ [63] := by
 unfold lsA
 rw [lstB_eq]
 intro h
 cases hl : (srtL (enumF fs)).map fun g => keyF g.2 with
 | nil => rw [hl] at h; cases h
 | cons k l =>
  obtain ⟨r, hr⟩ := row_end (l := (srtL (enumF fs)).map fun g => keyF g.2) (by rw [hl]; simp)
  rw [hr] at h
  have := congrArg List.getLast? h
  simp at this
theorem own_kt {base n z : Nat} {v : Value} {xs : List Value} (ho : w.ownsRow base 9 z v n xs) (hk : Kt T w w') (hT : ∀ q, v.ownBlock = some q → T q) : w'.ownsRow base 9 z v n xs := by
 obtain ⟨h1, h2⟩ := ho
 refine ⟨h1, h2.imp id ?_⟩
 rintro ⟨g, cap, cur, h3, h4, h5, h6⟩
 exact ⟨g, cap, cur, h3, h4, (hk.block g (hT g (by rw [h3]; rfl))).trans h5, h6⟩
theorem al_up {n j gk : Nat} (h : j < n) (h' : n ≤ j + gk) : n ≤ j + 1 + (n - (j + 1)) ∧ n - (j + 1) < gk ∧ j + 1 ≤ n := by omega
theorem al_lt {n j : Nat} (h : j < n) : (j : Int) < (n : Int) := by omega
theorem al_ge {n j : Nat} (h : n ≤ j) : ¬ (j : Int) < (n : Int) := by omega
theorem alike_ok (h : Sts W0 T E w) (hE : Env W0) (hL : EnvL W0) (i1 i2 : Nat) (hi1 : i1 < E.length) (hi2 : i2 < E.length) (e1 e2 : Nat) (he1 : E[i1] = ⟨e1, 0, a⟩) (he2 : E[i2] = ⟨e2, 0, b⟩) (hg1 : a.grp = none) (hg2 : b.grp = none) (hls : lsA a.fs = lsA b.fs)
  (hv : ∀ x, x ∈ a.fs.map (fun f => f.nm) → (valA a.fs x).2 = (valA b.fs x).2 ∧ (valA a.fs x).2.1 ≠ 0 ∧ NmOk x ∧ NmO x) :
  Calls Tryz.prog 12 #[.pointer (some ⟨e1, 0, none⟩), .pointer (some ⟨e2, 0, none⟩)] w fun r w' => r = .returned (.bool true) ∧ Lv W0 T E w w' := by
 have HT1 : Hid (∀ T' W, Sts W0 T' E W → Calls Tryz.prog 7 #[.pointer (some ⟨e1, 0, none⟩)] W fun r w' => r = .returned (.string ⟨(lsA a.fs).toArray⟩) ∧ Lv W0 T' E W w') := tZ fun T' W hW => by
  have := hW.toldA (i := i1) hE hL hi1 (by rw [he1]; simp) (by rw [he1]; exact hg1)
  rw [he1] at this
  exact this
 have HT2 : Hid (∀ T' W, Sts W0 T' E W → Calls Tryz.prog 7 #[.pointer (some ⟨e2, 0, none⟩)] W fun r w' => r = .returned (.string ⟨(lsA a.fs).toArray⟩) ∧ Lv W0 T' E W w') := tZ fun T' W hW => by
  have := hW.toldA (i := i2) hE hL hi2 (by rw [he2]; simp) (by rw [he2]; exact hg2)
  rw [he2] at this
  rw [hls]
  exact this
 have HO : Hid (∀ T' W, Sts W0 T' E W → Calls Tryz.prog 8 #[.pointer (some ⟨e1, 0, none⟩), .string ⟨#[111, 114, 100, 101, 114]⟩] W fun r w' => ∃ bn cn, r = .returned (.agg #[.int .i64 0, .int .i64 0, .string ⟨#[]⟩, .slice bn (a.fs.map fun f => f.nm).length cn, .int .i64 0, .int .i64 0]) ∧ w'.ownsRow W.heap.size 9 1 (.slice bn (a.fs.map fun f => f.nm).length cn) (a.fs.map fun f => f.nm).length (strs (a.fs.map fun f => f.nm)) ∧ Kt T' W w' ∧ Sts W0 (fun q => T' q ∨ (Value.slice bn (a.fs.map fun f => f.nm).length cn).ownBlock = some q) E w') := tZ fun T' W hW => by
  have := hW.doA (i := i1) (s := [111, 114, 100, 101, 114]) (l := .order) 0 hE hL hi1 (by rw [he1]; simp) isLn_order (rp := ⟨0, 0, [], a.fs.map fun f => f.nm, 0, 0⟩) (a' := a) (by rw [he1]; rfl) (Or.inr hg1)
  rw [he1] at this
  have e3 : E.set i1 ⟨e1, 0, a⟩ = E := by rw [← he1]; exact List.set_getElem_self hi1
  rw [e3] at this
  exact this
 have HW1 : Hid (∀ T' W x, x ∈ a.fs.map (fun f => f.nm) → Sts W0 T' E W → Calls Tryz.prog 18 #[.pointer (some ⟨e1, 0, none⟩), .string ⟨x.toArray⟩] W fun r w' => r = .returned (.tuple #[.int .i64 (valA a.fs x).2.1, .int .i64 (valA a.fs x).2.2]) ∧ Lv W0 T' E W w') := tZ fun T' W x hx hW => by
  have := hW.worthA (i := i1) (nm := x) hE hL hi1 (by rw [he1]; simp) (by rw [he1]; exact hg1) (hv x hx).2.2.1 (hv x hx).2.2.2
  rw [he1] at this
  exact this
 have HW2 : Hid (∀ T' W x, x ∈ a.fs.map (fun f => f.nm) → Sts W0 T' E W → Calls Tryz.prog 18 #[.pointer (some ⟨e2, 0, none⟩), .string ⟨x.toArray⟩] W fun r w' => r = .returned (.tuple #[.int .i64 (valA a.fs x).2.1, .int .i64 (valA a.fs x).2.2]) ∧ Lv W0 T' E W w') := tZ fun T' W x hx hW => by
  have := hW.worthA (i := i2) (nm := x) hE hL hi2 (by rw [he2]; simp) (by rw [he2]; exact hg2) (hv x hx).2.2.1 (hv x hx).2.2.2
  rw [he2] at this
  rw [(hv x hx).1]
  exact this
 have HNZ : Hid (∀ x, x ∈ a.fs.map (fun f => f.nm) → ((valA a.fs x).2.1 == 0) = false) := tZ fun x hx => by simpa using (hv x hx).2.1
 have hq : ((lsA a.fs) == [63]) = false := by simpa using lsA_ne a.fs
 have HLN : Hid ((a.fs.map fun f => f.nm).length ≤ 10) := tZ (by
  have := (h.fsOk hi1).len
  rw [he1] at this
  simpa using this)
 have HS := tZ h
 generalize hnm : (a.fs.map fun f => f.nm) = nm at *
 generalize htx : lsA a.fs = tx at *
 generalize hvv : (fun x => (valA a.fs x).2) = vv at *
 have HV : Hid (∀ x, (valA a.fs x).2 = vv x) := tZ fun x => congrFun hvv x
 have hq0 : (tx == tx) = true := by simp
 clear h hv hE hL hls htx hvv hi1 hi2 he1 he2 hg1 hg2
 go_enter Tryz.func12, Tryz.ntmps12
 go_wp2_with (first | (go_at_call 7; refine (HT1.out _ _ HS.out).mono ?_; rintro r w1 ⟨rfl, h1⟩; have H1 := tZ h1; clear h1; refine Hid.out ?_))
 refine tZ ?_
 go_wp2_with (first | (go_at_call 7; refine (HT2.out _ _ H1.out.2).mono ?_; rintro r w2 ⟨rfl, h1⟩; have H2 := tZ h1; clear h1; refine Hid.out ?_))
 refine tZ ?_
 go_wp2_with (first | (go_at_call 7; refine (HT1.out _ _ H2.out.2).mono ?_; rintro r w3 ⟨rfl, h1⟩; have H3 := tZ h1; clear h1; refine Hid.out ?_))
 refine tZ ?_
 go_wp2_with (first | (go_at_call 8; refine (HO.out _ _ H3.out.2).mono ?_; rintro r w4 ⟨bn, cn, rfl, h1, h2, h3⟩; have H4 := tZ (And.intro h1 (And.intro h2 h3)); clear h1 h2 h3; refine Hid.out ?_))
 refine tZ ?_
 have H5 : Hid (Lv W0 (fun q => (T q ∨ (Value.slice bn nm.length cn).ownBlock = some q) ∨ q = w4.heap.size) E (w4.alloc (.cells #[.int .i64 0, .int .i64 0, .string ⟨#[]⟩, .slice bn nm.length cn, .int .i64 0, .int .i64 0] 30)) (w4.alloc (.cells #[.int .i64 0, .int .i64 0, .string ⟨#[]⟩, .slice bn nm.length cn, .int .i64 0, .int .i64 0] 30))) := tZ ⟨Kt.refl _ _, (H4.out.2.2.grow (bZ _)).less fun q hq => hq.imp_right fun h => by subst h; exact ⟨Nat.le_refl _, by simp⟩⟩
 have H6 : Hid (Kt T w w4) := tZ (((H1.out.1.trans H2.out.1).trans H3.out.1).trans H4.out.2.1)
 have HROW := tZ (heap_alloc_new w4 (.cells #[.int .i64 0, .int .i64 0, .string ⟨#[]⟩, .slice bn nm.length cn, .int .i64 0, .int .i64 0] 30))
 have H7 : Hid (Below w4.heap.size w4 (w4.alloc (.cells #[.int .i64 0, .int .i64 0, .string ⟨#[]⟩, .slice bn nm.length cn, .int .i64 0, .int .i64 0] 30))) := tZ (bZ _)
 have HTL := tZ H4.out.2.2.tlt
 have HOWN := tZ H4.out.1
 have HCELL : Hid (∀ W, Lv W0 (fun q => (T q ∨ (Value.slice bn nm.length cn).ownBlock = some q) ∨ q = w4.heap.size) E (w4.alloc (.cells #[.int .i64 0, .int .i64 0, .string ⟨#[]⟩, .slice bn nm.length cn, .int .i64 0, .int .i64 0] 30)) W → W.heap[w4.heap.size]? = some (.cells #[.int .i64 0, .int .i64 0, .string ⟨#[]⟩, .slice bn nm.length cn, .int .i64 0, .int .i64 0] 30 (0, 0)) ∧ ∀ j (hj : j < nm.length), ∃ g, bn = some ⟨g, 0, none⟩ ∧ W.cell? ⟨g, j, none⟩ = some (.string ⟨nm[j].toArray⟩)) := tZ fun W hW => by
  refine ⟨(hW.1.block w4.heap.size (Or.inr rfl)).trans HROW.out, fun j hj => ?_⟩
  have ho := own_kt (own_below HOWN.out H7.out) hW.1 fun q hq => Or.inl (Or.inr hq)
  obtain ⟨g, cap, hb, _, _⟩ := ho.form (by omega)
  simp at hb
  obtain ⟨rfl, rfl⟩ := hb
  have hc := ho.cellAt j (by simpa using hj)
  exact ⟨g, rfl, by simpa [strs, hj] using hc⟩
 have HEND : Hid (∀ W, Lv W0 (fun q => (T q ∨ (Value.slice bn nm.length cn).ownBlock = some q) ∨ q = w4.heap.size) E (w4.alloc (.cells #[.int .i64 0, .int .i64 0, .string ⟨#[]⟩, .slice bn nm.length cn, .int .i64 0, .int .i64 0] 30)) W → Lv W0 T E w W) := tZ fun W hW => ⟨(H6.out.below (fun q hq => HTL.out q (Or.inl hq)) H7.out).trans (hW.1.less fun q hq => Or.inl (Or.inl hq)), hW.2.less fun q hq => Or.inl (Or.inl hq)⟩
 have HMEM : Hid (∀ j (hj : j < nm.length), nm[j] ∈ nm) := tZ fun j hj => List.getElem_mem hj
 clear H1 H2 H3 H4 H6 H7 HROW HTL HOWN HS HT1 HT2 HO
 go_wp2_with fail
 go_loopg [6, 7, 8, 9, 10] nm.length (fun gk i _ _ _ _ wr => ∃ j : Nat, j ≤ nm.length ∧ nm.length ≤ j + gk ∧ i = .int .i64 (j : Int) ∧ Hid (Lv W0 (fun q => (T q ∨ (Value.slice bn nm.length cn).ownBlock = some q) ∨ q = w4.heap.size) E (w4.alloc (.cells #[.int .i64 0, .int .i64 0, .string ⟨#[]⟩, .slice bn nm.length cn, .int .i64 0, .int .i64 0] 30)) wr))
 case atStart => exact ⟨0, Nat.zero_le _, Nat.le_of_eq (Nat.zero_add _).symm, rfl, H5⟩
 case round =>
  obtain ⟨j, hj, hgk, rfl, HI⟩ := hrel
  obtain ⟨hrow, hnc⟩ := HCELL.out _ HI.out
  obtain ⟨⟨m0, m1, m2, m3, m4, m5⟩, _, hsz⟩ := row6 hrow
  have hl10 := HLN.out
  rcases Nat.lt_or_ge j nm.length with hjn | hjn
  ·obtain ⟨g, hbn, hcj⟩ := hnc j hjn
   have hmem := HMEM.out j hjn
   have HUP := tZ (al_up hjn hgk)
   have hlt := al_lt hjn
   have hnz := HNZ.out _ hmem
   have HNC6 : Hid (∀ W, Lv W0 (fun q => (T q ∨ (Value.slice bn nm.length cn).ownBlock = some q) ∨ q = w4.heap.size) E (w4.alloc (.cells #[.int .i64 0, .int .i64 0, .string ⟨#[]⟩, .slice bn nm.length cn, .int .i64 0, .int .i64 0] 30)) W → W.heap[w4.heap.size]? = some (.cells #[.int .i64 0, .int .i64 0, .string ⟨#[]⟩, .slice bn nm.length cn, .int .i64 0, .int .i64 0] 30 (0, 0)) ∧ W.cell? ⟨g, j, none⟩ = some (.string ⟨nm[j].toArray⟩)) := tZ fun W hW => by
    obtain ⟨k1, k2⟩ := HCELL.out W hW
    obtain ⟨g', hb', hc'⟩ := k2 j hjn
    rw [hbn] at hb'
    cases hb'
    exact ⟨k1, hc'⟩
   obtain ⟨vk, vn, hvx⟩ : ∃ vk vn, (valA a.fs nm[j]).2 = (vk, vn) := ⟨_, _, rfl⟩
   have HWA : Hid (∀ T' W, Sts W0 T' E W → Calls Tryz.prog 18 #[.pointer (some ⟨e1, 0, none⟩), .string ⟨nm[j].toArray⟩] W fun r w' => r = .returned (.tuple #[.int .i64 vk, .int .i64 vn]) ∧ Lv W0 T' E W w') := tZ fun T' W hW => by
    have := HW1.out T' W _ hmem hW
    rw [hvx] at this
    exact this
   have HWB : Hid (∀ T' W, Sts W0 T' E W → Calls Tryz.prog 18 #[.pointer (some ⟨e2, 0, none⟩), .string ⟨nm[j].toArray⟩] W fun r w' => r = .returned (.tuple #[.int .i64 vk, .int .i64 vn]) ∧ Lv W0 T' E W w') := tZ fun T' W hW => by
    have := HW2.out T' W _ hmem hW
    rw [hvx] at this
    exact this
   rw [hvx] at hnz
   simp only at hnz
   have hkk : (vk == vk) = true := by simp
   have hnn : (vn == vn) = true := by simp
   subst hbn
   clear hvx hmem hnc hrow HCELL HNZ HMEM HW1 HW2
   generalize nm[j] = x at *
   generalize nm.length = n at *
   go_wp2_with (first | (go_at_call 18; refine (HWA.out _ _ HI.out.2).mono ?_; rintro r w6 ⟨rfl, h6⟩; have H6 := tZ (show Lv _ _ _ _ _ from ⟨HI.out.1.trans h6.1, h6.2⟩); clear h6; refine Hid.out ?_))
   refine tZ ?_
   clear m0 m1 m2 m3 m4 m5 hsz hcj
   obtain ⟨hrow, hcj⟩ := HNC6.out _ H6.out
   obtain ⟨⟨m0, m1, m2, m3, m4, m5⟩, _, hsz⟩ := row6 hrow
   clear hrow
   go_wp2_with (first | (go_at_call 18; refine (HWB.out _ _ H6.out.2).mono ?_; rintro r w7 ⟨rfl, h6⟩; have H7 := tZ (show Lv _ _ _ _ _ from ⟨H6.out.1.trans h6.1, h6.2⟩); clear h6; refine Hid.out ?_))
   refine tZ ?_
   go_wp2_with fail
   go_roundg (n - (j + 1))
   case measure => exact HUP.out.2.1
   case rel => exact ⟨j + 1, HUP.out.2.2, HUP.out.1, by simp, H7⟩
  ·have hge := al_ge hjn
   have HL := tZ (HEND.out _ HI.out)
   clear hnc hrow
   go_wp2
   exact bodyPost_ret (v := .bool true) (by simp [results, Tryz.results12, go_sem]) (by simp [go_sem]) ⟨rfl, HL.out⟩
end
section
variable {a b : Ab} {fs fs' : List Fd} {x y : By} {p : Pt} {nms : List By}
theorem lstM_nil (h : ∀ x, mentP x p = false) : ∀ fs : List (Nat × Fd), lstM p fs = none
 | [] => rfl
 | g :: r => by simp [lstM, lstM_nil h r, h]
theorem settle_const (i : Nat) (f : Fd) (h : ∀ x, mentP x f.p = false) : ∃ fs' nm, settleA fs i f = .ok fs' nm := by
 unfold settleA mendF behindF
 rw [lstM_nil (p := (i, f).2.p) h]
 exact ⟨_, _, rfl⟩
theorem set_const (h : ∀ x, mentP x p = false) (hl : (∃ f, f ∈ fs ∧ f.nm = x) ∨ fs.length ≠ 10) : ∃ fs' nm, setA fs x p = .ok fs' nm := by
 unfold setA
 cases hf : fs.findIdx? (fun f => f.nm == x) with
 | some i =>
  obtain ⟨hi, _⟩ := List.findIdx?_eq_some_iff_getElem.1 hf
  simp only
  rw [List.getElem?_eq_getElem hi]
  exact settle_const _ _ h
 | none =>
  simp only
  rcases hl with ⟨f, h1, h2⟩ | hl
  ·have := List.findIdx?_eq_none_iff.1 hf f h1
   simp [h2] at this
  ·rw [if_neg hl]
   exact settle_const _ _ h
theorem set_val (hG : GF fs) (hsh : Shape p) (h : setA fs x p = .ok fs' nms) : GF fs' ∧ ∃ v, valA fs' x = (0, v) ∧ v = valP (rho (enumF fs')) p := by
 obtain ⟨h1, h2⟩ := setA_right hG hsh h
 refine ⟨h1, ?_⟩
 have hm : (x, p) ∈ fs'.map fun g => (g.nm, g.p) := by
  rcases h2 with ⟨A, f, B, _, _, hp⟩ | ⟨_, _, hp⟩
  ·exact hp.mem_iff.2 (by simp)
  ·exact hp.mem_iff.2 (by simp)
 obtain ⟨g, hg, he⟩ := List.mem_map.1 hm
 simp only [Prod.mk.injEq] at he
 have hg2 : g ∈ (enumF fs').map Prod.snd := by rw [enumF_snd]; exact hg
 obtain ⟨q, hq, rfl⟩ := List.mem_map.1 hg2
 have hf := findF_nn (fs := enumF fs') (by rw [enum_map fun g => g.nm]; exact h1.nn) hq
 rw [he.1] at hf
 have hfs : fs'.find? (fun f => f.nm == x) = some q.2 := by
  have := find_snd (enumF fs') x
  rw [enumF_snd, hf] at this
  exact this
 refine ⟨q.2.v, ?_, ?_⟩
 ·unfold valA
  rw [hfs]
 ·rw [h1.val q hq, he.2]
def NF (X : By → Prop) (fs : List Fd) : Prop := ∀ q, q ∈ fs.map (fun g => (g.nm, g.p)) → X q.1 ∧ MF q.2
variable {X : By → Prop}
theorem NF.set (h : NF X fs) (hG : GF fs) (hsh : Shape p) (hx : X x) (hm : MF p) (hs : setA fs x p = .ok fs' nms) : NF X fs' := by
 intro q hq
 rcases (setA_right hG hsh hs).2 with ⟨A, f, B, rfl, _, hp⟩ | ⟨_, _, hp⟩
 ·have := hp.mem_iff.1 hq
  simp only [List.map_append, List.map_cons, List.mem_append, List.mem_cons] at this
  rcases this with h1 | rfl | h1
  ·exact h q (by simp [h1])
  ·exact ⟨hx, hm⟩
  ·exact h q (by simp [h1])
 ·have := hp.mem_iff.1 hq
  simp only [List.map_append, List.map_cons, List.map_nil, List.mem_append, List.mem_singleton] at this
  rcases this with h1 | rfl
  ·exact h q h1
  ·exact ⟨hx, hm⟩
theorem NF.del (h : NF X fs) (hG : GF fs) (hs : delA fs x = .ok fs' nms) : NF X fs' := by
 intro q hq
 obtain ⟨_, A, f, B, rfl, _, hp⟩ := delA_right hG hs
 rw [hp] at hq
 simp only [List.map_append, List.mem_append] at hq
 exact h q (by simp; rcases hq with h1 | h1 <;> simp at h1 <;> simp [h1])
theorem nil_ren (hy : y ≠ []) : ∀ p, Shape p → mentP [] p = false → mentP [] (renP x y p) = false
 | .atom k nm n, _, h => by
  by_cases hc : k = 2 ∧ nm = x
  ·simp [renP, hc, mentP, hy]
  ·simpa only [renP, if_neg hc] using h
 | .un k a, hs, h => by
  obtain ⟨h1, h2⟩ := hs
  have hk : (k == 2) = false := by simp; omega
  simp [mentP, hk] at h
  have := nil_ren hy a h2 h
  simp [renP, mentP, hk, this]
 | .bin k a b, hs, h => by
  obtain ⟨h1, h2, h3⟩ := hs
  have hk : (k == 2) = false := by simp; omega
  simp [mentP, hk] at h
  have e1 := nil_ren hy a h2 h.1
  have e2 := nil_ren hy b h3 h.2
  simp [renP, mentP, hk, e1, e2]
 | .ifs a b c, hs, h => by
  obtain ⟨h1, h2, h3⟩ := hs
  simp [mentP] at h
  have e1 := nil_ren hy a h1 h.1
  have e2 := nil_ren hy b h2 h.2.1
  have e3 := nil_ren hy c h3 h.2.2
  simp [renP, mentP, e1, e2, e3]
theorem mf_nil (h : MF p) : mentP [] p = false := by
 cases hm : mentP [] p with
 | false => rfl
 | true =>
  obtain ⟨d, _, hd⟩ := h [] hm
  cases hd
theorem mf_ren (hx : x ≠ []) (hxy : y ≠ x) (hsh : Shape p) (hp : MF p) (hy : ∃ d, isD d = true ∧ y = [102, d]) : MF (renP x y p) := by
 intro z hz
 have hy0 : y ≠ [] := by obtain ⟨d, _, rfl⟩ := hy; simp
 by_cases hz0 : z = []
 ·subst hz0
  rw [nil_ren hy0 p hsh (mf_nil hp)] at hz
  cases hz
 ·rw [mentP_ren x y z hx hy0 hz0 hxy p] at hz
  split at hz
  ·cases hz
  ·split at hz
   ·rename_i h1
    rw [h1]; exact hy
   ·exact hp z hz
theorem GF.shp {f : Fd} (h : GF fs) (hf : f ∈ fs) : Shape f.p := by
 have : f ∈ (enumF fs).map Prod.snd := by rw [enumF_snd]; exact hf
 obtain ⟨q, hq, rfl⟩ := List.mem_map.1 this
 exact GS.shp h q hq
theorem NF.ren (h : NF X fs) (hG : GF fs) (hne : ∀ f, f ∈ fs → f.nm ≠ []) (hy : X y) (hyf : ∃ d, isD d = true ∧ y = [102, d]) (hs : renA fs x y = .ok fs' nms) : NF X fs' := by
 have hy0 : y ≠ [] := by obtain ⟨d, _, rfl⟩ := hyf; simp
 obtain ⟨_, ⟨f0, hf0, rfl⟩, hny, hp⟩ := renA_right hG hne hy0 hs
 intro q hq
 have := hp.mem_iff.1 hq
 rw [List.map_map] at this
 obtain ⟨f, hf, rfl⟩ := List.mem_map.1 this
 obtain ⟨h1, h2⟩ := h (f.nm, f.p) (List.mem_map.2 ⟨f, hf, rfl⟩)
 refine ⟨?_, mf_ren (hne f0 hf0) (fun e => hny f0 hf0 e.symm) (hG.shp hf) h2 hyf⟩
 show X (if f.nm = f0.nm then y else f.nm)
 split
 ·exact hy
 ·exact h1
theorem NF.mono {Y : By → Prop} (h : NF X fs) (hXY : ∀ x, X x → Y x) : NF Y fs := fun q hq => ⟨hXY _ (h q hq).1, (h q hq).2⟩
def Few (x : By) : Prop := ∃ i, i < 8 ∧ x = fN i
theorem Few.f {x : By} (h : Few x) : ∃ d, isD d = true ∧ x = [102, d] := by
 obtain ⟨i, hi, rfl⟩ := h
 exact ⟨dgt i, (fN_facts i (by omega)).2.2.2.2.2, rfl⟩
theorem few_fewB (r : By) : Few (fewB r).1 := ⟨_, nextB_lt r 8 (by decide), fewB_fN r⟩
theorem len_sub : ∀ {l r : List By}, l.Nodup → (∀ x, x ∈ l → x ∈ r) → l.length ≤ r.length
 | [], _, _, _ => Nat.zero_le _
 | c :: l, r, hn, h => by
  rw [List.nodup_cons] at hn
  have hc := h c (by simp)
  have := len_sub (l := l) (r := r.erase c) hn.2 fun x hx => (List.mem_erase_of_ne (by rintro rfl; exact hn.1 hx)).2 (h x (by simp [hx]))
  rw [List.length_erase_of_mem hc] at this
  have hp := List.length_pos_of_mem hc
  simp only [List.length_cons]
  omega
def fewL : List By := (List.range 8).map fN
theorem NF.len {L : List By} (h : NF X fs) (hn : (fs.map fun g => g.nm).Nodup) (hX : ∀ x, X x → x ∈ L) : fs.length ≤ L.length := by
 have := len_sub (l := fs.map fun g => g.nm) (r := L) hn fun x hx => by
  obtain ⟨f, hf, rfl⟩ := List.mem_map.1 hx
  exact hX _ (h (f.nm, f.p) (List.mem_map.2 ⟨f, hf, rfl⟩)).1
 simpa using this
theorem few_mem {x : By} (h : Few x) : x ∈ fewL := by
 obtain ⟨i, hi, rfl⟩ := h
 exact List.mem_map.2 ⟨i, List.mem_range.2 hi, rfl⟩
end
section
variable {a b : Ab} {fs fs' : List Fd} {x y : By} {p : Pt} {nms : List By} {X : By → Prop}
theorem truth_k (b : Bool) : (vTruth b).1 ≠ 0 := by cases b <;> simp [vTruth]
theorem only_k (k : Nat) {v : Vl} (h : v.1 ≠ 0) : (vOnly k v).1 ≠ 0 := by
 unfold vOnly
 repeat' split
 all_goals first | exact h | simp [vFail]
theorem minus_k {v : Vl} (h : v.1 ≠ 0) : (vMinus v).1 ≠ 0 := by
 unfold vMinus
 repeat' split
 all_goals first | exact h | simp
theorem opp_k {v : Vl} (h : v.1 ≠ 0) : (vOpp v).1 ≠ 0 := by
 unfold vOpp
 repeat' split
 all_goals first | exact h | exact truth_k _ | simp
theorem ints_k (k : Nat) (m n : Int) : (vInts k m n).1 ≠ 0 := by
 unfold vInts
 repeat' split
 all_goals first | exact truth_k _ | simp [vFail]
theorem two_k (k : Nat) {v u : Vl} (h : v.1 ≠ 0) (h' : u.1 ≠ 0) : (vTwo k v u).1 ≠ 0 := by
 unfold vTwo
 repeat' split
 all_goals first | exact h | exact h' | exact ints_k _ _ _ | exact truth_k _ | simp [vFail]
theorem unless_k (d : Vl) {v u : Vl} (h : v.1 ≠ 0) (h' : u.1 ≠ 0) : (vUnless d v u).1 ≠ 0 := by
 unfold vUnless
 repeat' split
 all_goals first | exact only_k _ h | exact only_k _ h' | exact h | exact h'
theorem choice_k {v u t : Vl} (h : v.1 ≠ 0) (h' : u.1 ≠ 0) (h2 : t.1 ≠ 0) : (vChoice v u t).1 ≠ 0 := by
 unfold vChoice
 repeat' split
 all_goals first | exact only_k _ h | exact h' | exact h2 | exact h
theorem val_k (ρ : By → Vl) : ∀ p, Shape p → (∀ x, mentP x p = true → (ρ x).1 ≠ 0) → (valP ρ p).1 ≠ 0
 | .atom k nm n, hs, h => by
  unfold valP
  split
  ·simp
  ·split
   ·exact truth_k _
   ·split
    ·exact truth_k _
    ·refine h nm ?_
     have hk : k = 2 := by simp only [Shape] at hs; omega
     simp [mentP, hk]
 | .un k a, hs, h => by
  obtain ⟨h1, h2⟩ := hs
  have := val_k ρ a h2 fun x hx => h x (by simp [mentP, hx])
  unfold valP
  split
  ·exact this
  ·split
   ·exact minus_k (only_k _ this)
   ·exact opp_k (only_k _ this)
 | .bin k a b, hs, h => by
  obtain ⟨h1, h2, h3⟩ := hs
  have e1 := val_k ρ a h2 fun x hx => h x (by simp [mentP, hx])
  have e2 := val_k ρ b h3 fun x hx => h x (by simp [mentP, hx])
  unfold valP
  split
  ·exact unless_k _ e1 e2
  ·split
   ·exact unless_k _ e1 e2
   ·exact two_k _ e1 e2
 | .ifs a b c, hs, h => by
  obtain ⟨h1, h2, h3⟩ := hs
  have e1 := val_k ρ a h1 fun x hx => h x (by simp [mentP, hx])
  have e2 := val_k ρ b h2 fun x hx => h x (by simp [mentP, hx])
  have e3 := val_k ρ c h3 fun x hx => h x (by simp [mentP, hx])
  unfold valP
  exact choice_k e1 e2 e3
theorem gs_k {gs : List (Nat × Fd)} (h : GS gs) : ∀ n i (hi : i < gs.length), i < n → gs[i].2.v.1 ≠ 0
 | 0, i, _, hn => absurd hn (Nat.not_lt_zero _)
 | n + 1, i, hi, hn => by
  have hm : gs[i] ∈ gs := List.getElem_mem hi
  rw [h.val _ hm]
  refine val_k _ _ (h.shp _ hm) fun x hx => ?_
  unfold rho
  cases hf : findF gs x with
  | none => simp
  | some f =>
   obtain ⟨h1, h2⟩ := findF_mem hf
   obtain ⟨j, hj, rfl⟩ := List.getElem_of_mem h1
   simp only
   rcases Nat.lt_trichotomy j i with h3 | h3 | h3
   ·exact gs_k h n j hj (by omega)
   ·subst h3
    have := h.topo.2 _ hm
    unfold NM at this
    rw [h2] at this
    rw [this] at hx
    cases hx
   ·have := List.pairwise_iff_getElem.1 h.topo.1 i j hi hj h3
    unfold NM at this
    rw [h2] at this
    rw [this] at hx
    cases hx
theorem GF.kind (h : GF fs) {x : By} (hx : x ∈ fs.map fun f => f.nm) : (valA fs x).2.1 ≠ 0 := by
 obtain ⟨f, hf, rfl⟩ := List.mem_map.1 hx
 have hf2 : f ∈ (enumF fs).map Prod.snd := by rw [enumF_snd]; exact hf
 obtain ⟨q, hq, rfl⟩ := List.mem_map.1 hf2
 have hfq := findF_nn (fs := enumF fs) (by rw [enum_map fun g => g.nm]; exact h.nn) hq
 have hfs : fs.find? (fun f => f.nm == q.2.nm) = some q.2 := by
  have := find_snd (enumF fs) q.2.nm
  rw [enumF_snd, hfq] at this
  exact this
 unfold valA
 rw [hfs]
 obtain ⟨i, hi, rfl⟩ := List.getElem_of_mem hq
 exact gs_k h (i + 1) i hi (by omega)
end
section
variable {W0 w w' W w1 w2 : World} {T T' : Nat → Prop} {E : List En} {e g k kb i : Nat} {a b a' : Ab} {s : By} {l : Ln} {rp : Rp} {fs fs' : List Fd} {nms : List By} {X : By → Prop}
noncomputable def arB (fs : List Fd) (r : By) : AR :=
 if (nextB r 8).1 = 0 then delA fs (fewB (nextB r 8).2).1
 else if (nextB r 8).1 = 1 then renA fs (fewB (nextB r 8).2).1 (fewB (fewB (nextB r 8).2).2).1
 else setA fs (fewB (nextB r 8).2).1 (rlP (nextB (fewB (nextB r 8).2).2 3).1 (nextB (fewB (nextB r 8).2).2 3).2)
theorem lnA_arB (a : Ab) (r : By) : lnA a (lnB r) = edR a (arB a.fs r) := by
 unfold lnB arB
 split
 ·rfl
 ·split <;> rfl
theorem arB_ok (hok : FsOk fs) (h : NF X fs) (hX : ∀ x, Few x → X x) (r : By) (he : arB fs r = .ok fs' nms) : FsOk fs' ∧ NF X fs' := by
 have f1 := few_fewB (nextB r 8).2
 have f2 := few_fewB (fewB (nextB r 8).2).2
 unfold arB at he
 split at he
 ·exact ⟨hok.del he, h.del hok.gf he⟩
 ·split at he
  ·refine ⟨hok.ren ?_ he, h.ren hok.gf (fun f hf => (hok.nmo f hf).1) (hX _ f2) f2.f he⟩
   rw [fewB_fN]; exact fN_o _
  ·obtain ⟨h1, _, h3, h4⟩ := rlP_facts (nextB (fewB (nextB r 8).2).2 3).1 (nextB (fewB (nextB r 8).2).2 3).2
   obtain ⟨ts, _, hD⟩ := h4 _ 0 (Nat.le_refl _)
   refine ⟨hok.set hD.shape ?_ he, h.set hok.gf hD.shape (hX _ f1) h3 he⟩
   rw [fewB_fN]; exact fN_o _
theorem fsOk_nil : FsOk [] := ⟨⟨by simp [enumF], by simp [enumF], by simp [enumF, Topo], by simp [enumF], by simp [enumF]⟩, by simp, fun f hf => by simp at hf⟩
theorem nf_nil : NF X [] := fun q hq => by simp at hq
theorem nmOk_w {x : By} (h : x ≠ [] ∧ (∀ y, y ∈ x → isL y = true) ∧ x.length ≤ 6) (h2 : kindB x = 2) (h3 : nmB x = x) : NmOk x := ⟨GI.ti (Or.inr (Or.inr (Or.inr (Or.inl h)))) (by rintro rfl; exact absurd (h.2.1 32 (by simp)) (by decide)), h2, h3⟩
theorem nm_z : NmOk [122] := nmOk_w ⟨by simp, by decide, by simp⟩ (by decide) (by decide)
theorem nmo_z : NmO [122] := ⟨by simp, by simp⟩
theorem toks_z : ∀ d, d < 10 → toks ((dg d).length + 1 + 1) (dg d) (4 + 1 + 3) = ([(dg d, 8)], none) := by decide
theorem isLn_z (d : Nat) (hd : d < 10) : IsLn (setN [122] (dg d)) (.set [122] (dgP d)) :=
 isLn_set nm_z nmo_z (by simp [dg]) (toks_z d hd) (by rw [← atom_dg d hd]; exact der1 (dg d) 1 8 (cls_dg d hd) (by omega)) (by simp [dgP, opn]) (txt_small d hd).1
def FewZ (x : By) : Prop := Few x ∨ x = [122]
theorem fewz_ok {x : By} (h : FewZ x) : NmOk x ∧ NmO x := by
 rcases h with ⟨i, hi, rfl⟩ | rfl
 ·exact ⟨fN_ok i (by omega), fN_o i⟩
 ·exact ⟨nm_z, nmo_z⟩
theorem mf_dg (d : Nat) : MF (dgP d) := fun x hx => by simp [mentP, dgP] at hx
theorem dg_none (d : Nat) : ∀ x, mentP x (dgP d) = false := fun x => by simp [mentP, dgP]
theorem set_z (hok : FsOk fs) (h : NF Few fs) (d : Nat) : ∃ fs' nm, setA fs [122] (dgP d) = .ok fs' nm ∧ FsOk fs' ∧ NF FewZ fs' ∧ valA fs' [122] = (0, 1, (d : Int)) := by
 have hl : fs.length ≤ 8 := h.len (L := fewL) hok.nd fun x hx => few_mem hx
 obtain ⟨fs', nm, he⟩ := set_const (fs := fs) (x := [122]) (p := dgP d) (dg_none d) (Or.inr (by omega))
 have hsh : Shape (dgP d) := Or.inl rfl
 obtain ⟨h1, v, h2, h3⟩ := set_val hok.gf hsh he
 refine ⟨fs', nm, he, hok.set hsh nmo_z he, (h.mono fun x hx => Or.inl hx).set hok.gf hsh (Or.inr rfl) (mf_dg d) he, ?_⟩
 rw [h2, h3]
 simp [valP, dgP]
end
end Go.Proofs.YtihgojcfpnhelabGreatDoor
