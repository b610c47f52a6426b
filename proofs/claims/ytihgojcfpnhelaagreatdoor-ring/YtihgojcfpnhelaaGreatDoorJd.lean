import Derived.Test.YtihgojcfpnhelaaGreatDoorIi
import Derived.Test.YtihgojcfpnhelaaGreatDoorIh
import Derived.Test.YtihgojcfpnhelaaGreatDoorMv
import Derived.Test.YtihgojcfpnhelaaGreatDoorNh
import Derived.Test.YtihgojcfpnhelaaGreatDoorJc
import Derived.Test.YtihgojcfpnhelaaGreatDoorRb
import Derived.Test.YtihgojcfpnhelaaGreatDoorNg
import Derived.Test.YtihgojcfpnhelaaGreatDoorHm
set_option linter.unusedVariables false
set_option linter.unusedSimpArgs false
namespace Go.Proofs.YtihgojcfpnhelaaGreatDoor
open Go.RowKit

/-- A row of names behind two blocks, and all below as it was. -/
def OwB (w : World) (v : Value) (nm : List By) (w' : World) : Prop := w'.ownsRow (w.heap.size + 2) 9 1 v nm.length (strs nm) ∧ Below w.heap.size w w'
theorem OwB.set {w w' : World} {v : Value} {nm : List By} (h : OwB w v nm w') {q : Nat} (hq : w.heap.size ≤ q ∧ q < w.heap.size + 2) (j : Nat) (u : Value) : OwB w v nm (w'.setCell ⟨q, j, none⟩ u) := ⟨own_set h.1 hq.2, h.2.setCell hq.1 u⟩

set_option maxRecDepth 100000 in
set_option maxHeartbeats 4000000 in
/-- 'tell' of the order. -/
theorem tellOrder (e : Nat) (an0 : Option Addr) (ln0 cn0 : Nat) (nm : List By) (w : World)
    (hS : ∀ W, Below w.heap.size w W → Calls Tryz.prog 105 #[.pointer (some ⟨e, 0, none⟩)] W fun r w' => ∃ bn ln cn, r = .returned (.slice bn ln cn) ∧ w'.ownsRow W.heap.size 9 1 (.slice bn ln cn) nm.length (strs nm) ∧ Below W.heap.size W w') :
    Calls Tryz.prog 70 #[.pointer (some ⟨e, 0, none⟩), .agg #[.int .i64 12, .slice an0 ln0 cn0, .int .i64 0, .string ⟨#[]⟩, .int .i64 0, .slice none 0 0]] w fun r w' => ∃ bn ln cn, r = .returned (.agg #[.int .i64 0, .int .i64 0, .string ⟨#[]⟩, .slice bn ln cn, .int .i64 0, .int .i64 0]) ∧ w'.ownsRow w.heap.size 9 1 (.slice bn ln cn) nm.length (strs nm) ∧ Below w.heap.size w w' := by
  have HS2 := toHid (hS ((w.alloc (.cells #[.int .i64 12, .slice an0 ln0 cn0, .int .i64 0, .string ⟨#[]⟩, .int .i64 0, .slice none 0 0] 97)).alloc (.cells #[.int .i64 0, .int .i64 0, .string ⟨#[]⟩, .slice none 0 0, .int .i64 0, .int .i64 0] 39)) (below2 _ _ _))
  clear hS
  go_enter Tryz.func70, Tryz.ntmps70
  go_wp2_with (first | (go_at_call 105; refine HS2.out.mono ?_; rintro r w3 ⟨bn, ln, cn, rfl, hown, hb3⟩; refine Hid.out ?_))
  have hr : w3.heap[w.heap.size + 1]? = some (.cells #[.int .i64 0, .int .i64 0, .string ⟨#[]⟩, .slice none 0 0, .int .i64 0, .int .i64 0] 39 (0, 0)) := (hb3.block _ (by simp)).trans (alloc2_new' w _ _ _)
  obtain ⟨⟨k0, k1, k2, k3, k4, k5⟩, ⟨f0, f1, f2, f3, f4, f5⟩, hsz⟩ := row6 hr
  have hF := setCell_block (setCell_block (setCell_block (setCell_block (setCell_block (setCell_block (setCell_block hr 3 (.slice bn ln cn)) 0 (.int .i64 0)) 1 (.int .i64 0)) 2 (.string ⟨#[]⟩)) 3 (.slice bn ln cn)) 4 (.int .i64 0)) 5 (.int .i64 0)
  obtain ⟨⟨F0, F1, F2, F3, F4, F5⟩, _, Fs⟩ := row6 (show _ = some (Obj.cells #[.int .i64 0, .int .i64 0, .string ⟨#[]⟩, .slice bn ln cn, .int .i64 0, .int .i64 0] 39 (0, 0)) from hF)
  have HF := toHid (And.intro F0 (And.intro F1 (And.intro F2 (And.intro F3 (And.intro F4 (And.intro F5 Fs))))))
  have HBF := toHid (show OwB w (.slice bn ln cn) nm (((((((w3.setCell ⟨w.heap.size + 1, 3, none⟩ (.slice bn ln cn)).setCell ⟨w.heap.size + 1, 0, none⟩ (.int .i64 0)).setCell ⟨w.heap.size + 1, 1, none⟩ (.int .i64 0)).setCell ⟨w.heap.size + 1, 2, none⟩ (.string ⟨#[]⟩)).setCell ⟨w.heap.size + 1, 3, none⟩ (.slice bn ln cn)).setCell ⟨w.heap.size + 1, 4, none⟩ (.int .i64 0)).setCell ⟨w.heap.size + 1, 5, none⟩ (.int .i64 0)) from by
    have hB : Below w.heap.size w w3 := (below2 _ _ _).trans (hb3.mono (by simp; omega))
    have e2 : ((w.alloc (.cells #[.int .i64 12, .slice an0 ln0 cn0, .int .i64 0, .string ⟨#[]⟩, .int .i64 0, .slice none 0 0] 97)).alloc (.cells #[.int .i64 0, .int .i64 0, .string ⟨#[]⟩, .slice none 0 0, .int .i64 0, .int .i64 0] 39)).heap.size = w.heap.size + 2 := by simp
    rw [e2] at hown
    iterate 7 refine OwB.set ?_ (by omega) _ _
    exact ⟨hown, hB⟩)
  clear F0 F1 F2 F3 F4 F5 Fs hF hr hb3 HS2 hown
  refine toHid ?_
  go_wp2
  generalize (((((((w3.setCell ⟨w.heap.size + 1, 3, none⟩ (.slice bn ln cn)).setCell ⟨w.heap.size + 1, 0, none⟩ (.int .i64 0)).setCell ⟨w.heap.size + 1, 1, none⟩ (.int .i64 0)).setCell ⟨w.heap.size + 1, 2, none⟩ (.string ⟨#[]⟩)).setCell ⟨w.heap.size + 1, 3, none⟩ (.slice bn ln cn)).setCell ⟨w.heap.size + 1, 4, none⟩ (.int .i64 0)).setCell ⟨w.heap.size + 1, 5, none⟩ (.int .i64 0)) = WF at *
  obtain ⟨F0, F1, F2, F3, F4, F5, Fs⟩ := HF.out
  refine bodyPost_ret (v := .agg #[.int .i64 0, .int .i64 0, .string ⟨#[]⟩, .slice bn ln cn, .int .i64 0, .int .i64 0]) (by simp [results, Tryz.results70, go_sem, F0, F1, F2, F3, F4, F5]) (by simp [go_sem]) ?_
  exact ⟨bn, ln, cn, rfl, own_base HBF.out.1 (by omega), HBF.out.2⟩

set_option maxRecDepth 100000 in
set_option maxHeartbeats 4000000 in
/-- 'tell' of the list. -/
theorem tellList (e : Nat) (an0 : Option Addr) (ln0 cn0 : Nat) (tx : By) (w : World)
    (hS : ∀ W, Below w.heap.size w W → Calls Tryz.prog 104 #[.pointer (some ⟨e, 0, none⟩)] W fun r w' => r = .returned (.string ⟨tx.toArray⟩) ∧ Below W.heap.size W w') :
    Calls Tryz.prog 70 #[.pointer (some ⟨e, 0, none⟩), .agg #[.int .i64 11, .slice an0 ln0 cn0, .int .i64 0, .string ⟨#[]⟩, .int .i64 0, .slice none 0 0]] w fun r w' => r = .returned (.agg #[.int .i64 0, .int .i64 0, .string ⟨tx.toArray⟩, .slice none 0 0, .int .i64 0, .int .i64 0]) ∧ Below w.heap.size w w' := by
  have HS2 := toHid (hS ((w.alloc (.cells #[.int .i64 11, .slice an0 ln0 cn0, .int .i64 0, .string ⟨#[]⟩, .int .i64 0, .slice none 0 0] 97)).alloc (.cells #[.int .i64 0, .int .i64 0, .string ⟨#[]⟩, .slice none 0 0, .int .i64 0, .int .i64 0] 39)) (below2 _ _ _))
  clear hS
  go_enter Tryz.func70, Tryz.ntmps70
  go_wp2_with (first | (go_at_call 104; refine HS2.out.mono ?_; rintro r w3 ⟨rfl, hb3⟩; refine Hid.out ?_))
  have hr : w3.heap[w.heap.size + 1]? = some (.cells #[.int .i64 0, .int .i64 0, .string ⟨#[]⟩, .slice none 0 0, .int .i64 0, .int .i64 0] 39 (0, 0)) := (hb3.block _ (by simp)).trans (alloc2_new' w _ _ _)
  obtain ⟨⟨k0, k1, k2, k3, k4, k5⟩, ⟨f0, f1, f2, f3, f4, f5⟩, hsz⟩ := row6 hr
  have hF := setCell_block (setCell_block (setCell_block (setCell_block (setCell_block (setCell_block (setCell_block hr 2 (.string ⟨tx.toArray⟩)) 0 (.int .i64 0)) 1 (.int .i64 0)) 2 (.string ⟨tx.toArray⟩)) 3 (.slice none 0 0)) 4 (.int .i64 0)) 5 (.int .i64 0)
  obtain ⟨⟨F0, F1, F2, F3, F4, F5⟩, _, Fs⟩ := row6 (show _ = some (Obj.cells #[.int .i64 0, .int .i64 0, .string ⟨tx.toArray⟩, .slice none 0 0, .int .i64 0, .int .i64 0] 39 (0, 0)) from hF)
  have HF := toHid (And.intro F0 (And.intro F1 (And.intro F2 (And.intro F3 (And.intro F4 (And.intro F5 Fs))))))
  have HBF := toHid (show Below w.heap.size w (((((((w3.setCell ⟨w.heap.size + 1, 2, none⟩ (.string ⟨tx.toArray⟩)).setCell ⟨w.heap.size + 1, 0, none⟩ (.int .i64 0)).setCell ⟨w.heap.size + 1, 1, none⟩ (.int .i64 0)).setCell ⟨w.heap.size + 1, 2, none⟩ (.string ⟨tx.toArray⟩)).setCell ⟨w.heap.size + 1, 3, none⟩ (.slice none 0 0)).setCell ⟨w.heap.size + 1, 4, none⟩ (.int .i64 0)).setCell ⟨w.heap.size + 1, 5, none⟩ (.int .i64 0)) from by
    have hB : Below w.heap.size w w3 := (below2 _ _ _).trans (hb3.mono (by simp; omega))
    iterate 7 refine Below.setCell ?_ (by show w.heap.size ≤ w.heap.size + 1; omega) _
    exact hB)
  clear F0 F1 F2 F3 F4 F5 Fs hF hr hb3 HS2
  refine toHid ?_
  go_wp2
  generalize (((((((w3.setCell ⟨w.heap.size + 1, 2, none⟩ (.string ⟨tx.toArray⟩)).setCell ⟨w.heap.size + 1, 0, none⟩ (.int .i64 0)).setCell ⟨w.heap.size + 1, 1, none⟩ (.int .i64 0)).setCell ⟨w.heap.size + 1, 2, none⟩ (.string ⟨tx.toArray⟩)).setCell ⟨w.heap.size + 1, 3, none⟩ (.slice none 0 0)).setCell ⟨w.heap.size + 1, 4, none⟩ (.int .i64 0)).setCell ⟨w.heap.size + 1, 5, none⟩ (.int .i64 0)) = WF at *
  obtain ⟨F0, F1, F2, F3, F4, F5, Fs⟩ := HF.out
  refine bodyPost_ret (v := .agg #[.int .i64 0, .int .i64 0, .string ⟨tx.toArray⟩, .slice none 0 0, .int .i64 0, .int .i64 0]) (by simp [results, Tryz.results70, go_sem, F0, F1, F2, F3, F4, F5]) (by simp [go_sem]) ?_
  exact ⟨rfl, HBF.out⟩
end Go.Proofs.YtihgojcfpnhelaaGreatDoor
namespace Go.Proofs.YtihgojcfpnhelaaGreatDoor
open Go.RowKit

set_option maxRecDepth 100000 in
set_option maxHeartbeats 4000000 in
theorem followTellQ (e : Nat) (vb : Int) (hvb : vb = 9 ∨ vb = 10 ∨ vb = 11 ∨ vb = 12) (an : Option Addr) (ln cn : Nat) (k : Int) (nm : By) (n : Int) (ar : Option Addr) (lr cr : Nat) (w : World) (er at_ : Int) (tx : By) (kd nn : Int) (Q : Option Addr → Nat → Nat → World → Prop) (hQ : ∀ a l c w1 j u, Q a l c w1 → Q a l c (w1.setCell ⟨w.heap.size + 1, j, none⟩ u))
    (hT : ∀ W, Below w.heap.size w W → w.heap.size + 1 < W.heap.size → Calls Tryz.prog 70 #[.pointer (some ⟨e, 0, none⟩), .agg #[.int .i64 vb, .slice an ln cn, .int .i64 k, .string ⟨nm.toArray⟩, .int .i64 n, .slice ar lr cr]] W fun r w' => ∃ bn ln' cn', r = .returned (.agg #[.int .i64 er, .int .i64 at_, .string ⟨tx.toArray⟩, .slice bn ln' cn', .int .i64 kd, .int .i64 nn]) ∧ (∀ q, q = w.heap.size + 1 → w'.heap[q]? = W.heap[q]?) ∧ Q bn ln' cn' w') :
    Calls Tryz.prog 47 #[.pointer (some ⟨e, 0, none⟩), .agg #[.int .i64 vb, .slice an ln cn, .int .i64 k, .string ⟨nm.toArray⟩, .int .i64 n, .slice ar lr cr]] w fun r w' => ∃ bn ln' cn', r = .returned (.agg #[.int .i64 er, .int .i64 at_, .string ⟨tx.toArray⟩, .slice bn ln' cn', .int .i64 kd, .int .i64 nn]) ∧ Q bn ln' cn' w' := by
  have HT := toHid hT
  have b1 : (vb == 1) = false := by simp; omega
  have b2 : (vb == 2) = false := by simp; omega
  have b3 : (vb == 3) = false := by simp; omega
  have b4 : (vb == 4) = false := by simp; omega
  have b5 : (vb == 5) = false := by simp; omega
  have b6 : (vb == 6) = false := by simp; omega
  have b7 : (vb == 7) = false := by simp; omega
  have b8 : (vb == 8) = false := by simp; omega
  clear hT hvb
  go_enter Tryz.func47, Tryz.ntmps47
  have HT2 := toHid (HT.out ((w.alloc (.cells #[.int .i64 vb, .slice an ln cn, .int .i64 k, .string ⟨nm.toArray⟩, .int .i64 n, .slice ar lr cr] 97)).alloc (.cells #[.int .i64 0, .int .i64 0, .string ⟨#[]⟩, .slice none 0 0, .int .i64 0, .int .i64 0] 39)) (below2 _ _ _) (by simp))
  have HROW := toHid (alloc2_new' w (.cells #[.int .i64 vb, .slice an ln cn, .int .i64 k, .string ⟨nm.toArray⟩, .int .i64 n, .slice ar lr cr] 97) #[.int .i64 0, .int .i64 0, .string ⟨#[]⟩, .slice none 0 0, .int .i64 0, .int .i64 0] 39)
  clear HT
  go_wp2_with (first | (go_at_call 70; refine HT2.out.mono ?_; rintro r w1 ⟨bn, ln', cn', rfl, hk1, hq⟩; refine Hid.out ?_))
  obtain ⟨⟨k0, k1, k2, k3, k4, k5⟩, ⟨f0, f1, f2, f3, f4, f5⟩, hsz⟩ := row6 ((hk1 (w.heap.size + 1) rfl).trans HROW.out)
  have HQ := toHid hq
  clear hk1 hq HT2
  refine toHid ?_
  go_wp2
  refine bodyPost_ret (v := .agg #[.int .i64 er, .int .i64 at_, .string ⟨tx.toArray⟩, .slice bn ln' cn', .int .i64 kd, .int .i64 nn]) (by simp [results, Tryz.results47, go_sem, k0, k1, k2, k3, k4, k5, hsz]) rfl ?_
  exact ⟨bn, ln', cn', rfl, hQ _ _ _ _ _ _ (hQ _ _ _ _ _ _ (hQ _ _ _ _ _ _ (hQ _ _ _ _ _ _ (hQ _ _ _ _ _ _ (hQ _ _ _ _ _ _ HQ.out)))))⟩

variable {e k : Nat} {F : Nat → Prop} {w w' W w1 w2 w3 W0 : World} {a : Ab} {nm : List By} {bn : Option Addr} {ln cn : Nat}

/-- What 'tell' hands back. -/
def TlPost (er : Int) (tx : By) (kd nn : Int) (nm : List By) (W : World) (r : Ending) (w' : World) : Prop := ∃ bn ln cn, r = .returned (.agg #[.int .i64 er, .int .i64 0, .string ⟨tx.toArray⟩, .slice bn ln cn, .int .i64 kd, .int .i64 nn]) ∧ ln = nm.length ∧ w'.ownsRow W.heap.size 9 1 (.slice bn ln cn) ln (strs nm) ∧ Below W.heap.size W w'

/-- 'Do' of a line that asks. -/
theorem EdA.doTell (h : EdA w e F k a) (s : By) (vb : Int) (hvb : vb = 9 ∨ vb = 10 ∨ vb = 11 ∨ vb = 12) (er : Int) (tx : By) (kd nn : Int) (nm : List By)
    (hR : Calls Tryz.prog 46 #[.string ⟨s.toArray⟩] (w.alloc zRep) fun r w1 => Below (w.heap.size + 1) (w.alloc zRep) w1 ∧ ∃ an ln cn, r = .returned (.tuple #[lineV vb an ln cn 0 [] 0 none 0 0, .int .i64 0, .int .i64 0]) ∧ ∀ W, Below w1.heap.size w1 W → EdA W e F k a → Calls Tryz.prog 70 #[.pointer (some ⟨e, 0, none⟩), lineV vb an ln cn 0 [] 0 none 0 0] W (TlPost er tx kd nn nm W)) :
    Calls Tryz.prog 20 #[.pointer (some ⟨e, 0, none⟩), .string ⟨s.toArray⟩] w fun r w' => ∃ bn ln cn, r = .returned (rpV er 0 tx bn ln cn kd nn) ∧ Res F (fun _ => False) e k a nm w bn ln cn w' := by
  have hF := h.lt
  have hed : edV vb = false := by rcases hvb with rfl | rfl | rfl | rfl <;> rfl
  refine (doFol e s w (fun er' at_ tx' bn ln cn kd' nn' w' => er' = er ∧ at_ = 0 ∧ tx' = tx ∧ kd' = kd ∧ nn' = nn ∧ Res F (fun q => q = w.heap.size) e k a nm w bn ln cn w') (hR.mono ?_)).mono ?_
  rotate_left
  · rintro r w' ⟨er', at_, tx', bn, ln, cn, kd', nn', rfl, rfl, rfl, rfl, rfl, rfl, h7⟩
    exact ⟨bn, ln, cn, rfl, h7.less fun _ h => h.elim⟩
  rintro r w1 ⟨hb1, an, ln0, cn0, rfl, hC⟩
  refine ⟨hb1, vb, an, ln0, cn0, 0, [], 0, none, 0, 0, rfl, ?_⟩
  have hs1 : w.heap.size + 1 ≤ w1.heap.size := by have := hb1.size; simpa using this
  have hb01 : Below w.heap.size w w1 := ((Below.refl _ _).alloc (Nat.le_refl _) zRep).trans (hb1.mono (by omega))
  generalize hw2 : (w1.alloc (lineO vb an ln0 cn0 0 [] 0 none 0 0)).alloc zRep = w2
  have hsz2 : w2.heap.size = w1.heap.size + 2 := by rw [← hw2]; simp
  have hb12 : Below w1.heap.size w1 w2 := by rw [← hw2]; exact below2 _ _ _
  have z0 : w2.heap[w.heap.size]? = some zRep := by
    rw [hb12.block _ (by omega), hb1.block _ (by omega)]
    exact heap_alloc_new w zRep
  have z1 : w2.heap[w1.heap.size + 1]? = some zRep := by
    rw [← hw2]
    exact alloc2_new' w1 _ _ _
  have z2 : w2.heap[w1.heap.size]? = some (lineO vb an ln0 cn0 0 [] 0 none 0 0) := by
    rw [← hw2]
    exact alloc2_old w1 _ _ _
  have hb02 : Below w.heap.size w w2 := hb01.trans (hb12.mono (by omega))
  refine (followTellQ e vb hvb an ln0 cn0 0 [] 0 none 0 0 w2 er 0 tx kd nn (fun bn ln cn w' => Res F (fun q => q = w.heap.size ∨ q = w1.heap.size ∨ q = w1.heap.size + 1 ∨ q = w2.heap.size + 1) e k a nm w2 bn ln cn w') ?_ ?_).mono ?_
  · intro a' l c w' j u h2
    exact h2.set (by simp) (by omega) j u
  · intro W hW hWs
    have hsW := hW.size
    have hEW := h.next (hb02.trans (hW.mono (by omega)))
    refine (hC W (hb12.trans (hW.mono (by omega))) hEW).mono ?_
    rintro r w3 ⟨bn, ln, cn, rfl, hln, hown, hb3⟩
    refine ⟨bn, ln, cn, rfl, fun q hq => hb3.block q (by omega), hln, (Ks.of hW).trans (Ks.of hb3), own_base hown hsW, F, hEW.next hb3, fun q hq => Or.inl hq, fun q hq => ⟨fun hf => ?_, fun ht => ?_⟩, fun q hq hf => ?_⟩
    · have := hF q hf; have := (hown.lt q hq).1; omega
    · have := (hown.lt q hq).1; omega
    · have := hF q hf; omega
  · rintro r w3 ⟨bn, ln, cn, rfl, h2⟩
    have hks := h2.2.1
    refine ⟨er, 0, tx, bn, ln, cn, kd, nn, fun W => Res F (fun q => q = w.heap.size ∨ q = w1.heap.size + 1) e k a nm w bn ln cn W, rfl, ?_, ?_, ?_, ⟨?_, ?_⟩, ?_, ?_, ?_⟩
    · exact (hks.block _ (by omega) fun hp => by have := hF _ hp; omega).trans z0
    · exact (hks.block _ (by omega) fun hp => by have := hF _ hp; omega).trans z1
    · exact (hks.block _ (by omega) fun hp => by have := hF _ hp; omega).trans z2
    · intro W j u h4
      exact h4.set (by simp) (by omega) j u
    · intro W j u h4
      exact h4.set (by simp) (by omega) j u
    · refine (h2.base hb02 fun q hq => Or.inl hq).less ?_
      rintro q (h3 | h3)
      · exact Or.inl h3
      · exact Or.inr (Or.inr (Or.inl h3))
    · rintro W j u ⟨h3, h4, h5, h6, h7, h9⟩
      exact ⟨h3, h4, h5, h6, h7, h9.set rfl (Nat.le_refl _) j u⟩
    · rw [if_neg (by rintro ⟨_, h3⟩; rw [hed] at h3; cases h3)]
      intro W h4
      exact ⟨rfl, rfl, rfl, rfl, rfl, h4.less fun q hq => Or.inl hq⟩

/-- 'Do' of a line that can't be read. -/
theorem EdA.doErr (h : EdA w e F k a) (hk : k < 1000000000000) (s : By) (vb er at_ : Int) (her : er ≠ 0)
    (hR : Calls Tryz.prog 46 #[.string ⟨s.toArray⟩] (w.alloc zRep) fun r w1 => Below (w.heap.size + 1) (w.alloc zRep) w1 ∧ r = .returned (.tuple #[lineV vb none 0 0 0 [] 0 none 0 0, .int .i64 er, .int .i64 at_])) :
    Calls Tryz.prog 20 #[.pointer (some ⟨e, 0, none⟩), .string ⟨s.toArray⟩] w fun r w' => r = .returned (rpV er at_ [] none 0 0 0 0) ∧ Res F (fun _ => False) e k (if edV vb = true then failA a else a) [] w none 0 0 w' := by
  have hF := h.lt
  refine (Go.Proofs.YtihgojcfpnhelaaGreatDoor.doErr e s w (fun er' at' w' => er' = er ∧ at' = at_ ∧ Res F (fun q => q = w.heap.size) e k (if edV vb = true then failA a else a) [] w none 0 0 w') (hR.mono ?_)).mono ?_
  rotate_left
  · rintro r w' ⟨er', at', rfl, rfl, rfl, h7⟩
    exact ⟨rfl, h7.less fun _ h => h.elim⟩
  rintro r w1 ⟨hb1, rfl⟩
  have hs1 : w.heap.size + 1 ≤ w1.heap.size := by have := hb1.size; simpa using this
  have hb01 : Below w.heap.size w w1 := ((Below.refl _ _).alloc (Nat.le_refl _) zRep).trans (hb1.mono (by omega))
  have hb02 : Below w.heap.size w ((w1.alloc (lineO vb none 0 0 0 [] 0 none 0 0)).alloc (erRep er at_)) := hb01.trans ((below2 w1 _ _).mono (by omega))
  have hres : ∀ w2, Below w.heap.size w w2 → Res F (fun q => q = w.heap.size ∨ q = w1.heap.size + 1) e k a [] w none 0 0 w2 := fun w2 hb => ⟨rfl, Ks.of hb, World.ownsRow_nil _ _ _ _, F, h.next hb, fun q hq => Or.inl hq, fun q hq => by simp [Value.ownBlock] at hq, fun q hq hf => by have := hF q hf; omega⟩
  refine ⟨hb1, vb, er, at_, fun W => w1.heap.size + 2 ≤ W.heap.size ∧ Res F (fun q => q = w.heap.size ∨ q = w1.heap.size + 1) e k a [] w none 0 0 W, her, rfl, ?_, ⟨by simp, hres _ hb02⟩, ?_, ?_⟩
  · rintro W j u ⟨h3, h4⟩
    exact ⟨by simpa using h3, h4.set (by simp) (by omega) j u⟩
  · rintro W j u ⟨h3, h4, h5⟩
    exact ⟨h3, h4, h5.set rfl (Nat.le_refl _) j u⟩
  · by_cases hv : edV vb = true
    · rw [if_pos ⟨her, hv⟩]
      rintro W ⟨h3, h4⟩
      refine (h4.cancel hk (by rintro q (rfl | rfl) <;> omega)).mono ?_
      rintro r w' ⟨k1, k2, k3⟩
      rw [if_pos hv]
      exact ⟨k1, k2 _ (Or.inl rfl), k2 _ (Or.inr rfl), rfl, rfl, k3.less fun q hq => Or.inl hq⟩
    · rw [if_neg (fun h => hv h.2)]
      rintro W ⟨h3, h4⟩
      rw [if_neg hv]
      exact ⟨rfl, rfl, h4.less fun q hq => Or.inl hq⟩
end Go.Proofs.YtihgojcfpnhelaaGreatDoor
namespace Go.Proofs.YtihgojcfpnhelaaGreatDoor
open Go.RowKit

variable {e k : Nat} {F : Nat → Prop} {w w' W w1 w2 w3 W0 : World} {a : Ab} {nm : List By} {bn : Option Addr} {ln cn : Nat} {x : By}

/-- What a field is worth, as it is told. -/
def valA (fs : List Fd) (x : By) : Int × Int × Int := match fs.find? (fun f => f.nm == x) with
  | some f => (0, f.v.1, f.v.2)
  | none => (5, 0, 0)
/-- What rule a field has, as it is told. -/
def rulA (fs : List Fd) (x : By) : Int × By := match fs.find? (fun f => f.nm == x) with
  | some f => (0, txt f.p)
  | none => (5, [])

theorem find_snd (fs : List (Nat × Fd)) (x : By) : (fs.map Prod.snd).find? (fun f => f.nm == x) = (findF fs x).map Prod.snd := by
  rw [List.find?_map]
  rfl

theorem EdA.sheet (h : EdA w e F k a) : ∃ S ad c fs, Sh w S ad fs ∧ fs.map Prod.snd = a.fs ∧ fs.length ≤ 10 ∧ w.cell? ⟨e, 0, none⟩ = some (.slice ad fs.length c) ∧ e < w.heap.size := by
  obtain ⟨S, D, σ, dv, uv, gv, dn, ud, gr, h1, h2, h3, h4, h5⟩ := h
  obtain ⟨ad, c, hs, _, _, hrow⟩ := h1.ph.sh
  exact ⟨S, ad, c, σ.fs, hs, h2.fs.symm, by have := h2.gs.len; simpa [Sta.fs] using this, (row6 hrow).1.1, h1.ph.lt⟩

theorem EdA.value (h : EdA W e F k a) {gn cn : Nat} (hc : W.cell? ⟨gn, 0, none⟩ = some (.string ⟨x.toArray⟩)) (hg : gn < W.heap.size) : Calls Tryz.prog 70 #[.pointer (some ⟨e, 0, none⟩), lineV 9 (some ⟨gn, 0, none⟩) 1 cn 0 [] 0 none 0 0] W (TlPost (valA a.fs x).1 [] (valA a.fs x).2.1 (valA a.fs x).2.2 [] W) := by
  refine (tellValueE e gn cn x (valA a.fs x).2.1 (valA a.fs x).2.2 (valA a.fs x).1 W hc hg fun W' hW' => ?_).mono ?_
  · obtain ⟨S, ad, c, fs, h1, h2, h3, h4, h5⟩ := (h.next hW').sheet
    refine (value68 x e c ad fs W' h1 h4 h5 (by omega)).mono ?_
    rintro r w' ⟨rfl, hb⟩
    refine ⟨?_, hb⟩
    unfold valA
    rw [← h2, find_snd]
    cases findF fs x <;> rfl
  · rintro r w' ⟨rfl, hb⟩
    exact ⟨none, 0, 0, rfl, rfl, World.ownsRow_nil _ _ _ _, hb⟩

theorem EdA.rule (h : EdA W e F k a) (hE : Env W) {gn cn : Nat} (hc : W.cell? ⟨gn, 0, none⟩ = some (.string ⟨x.toArray⟩)) (hg : gn < W.heap.size) : Calls Tryz.prog 70 #[.pointer (some ⟨e, 0, none⟩), lineV 10 (some ⟨gn, 0, none⟩) 1 cn 0 [] 0 none 0 0] W (TlPost (rulA a.fs x).1 (rulA a.fs x).2 0 0 [] W) := by
  refine (tellRuleE e gn cn x (rulA a.fs x).2 (rulA a.fs x).1 W hc hg fun W' hW' => ?_).mono ?_
  · obtain ⟨S, ad, c, fs, h1, h2, h3, h4, h5⟩ := (h.next hW').sheet
    refine (rule69 x e c ad fs W' h1 (hE.next hW') h4 h5 (by omega)).mono ?_
    rintro r w' ⟨hb, hr⟩
    refine ⟨?_, hb⟩
    unfold rulA
    rw [← h2, find_snd]
    cases hf : findF fs x with
    | none => rw [hf] at hr; exact hr
    | some f => rw [hf] at hr; exact hr
  · rintro r w' ⟨rfl, hb⟩
    exact ⟨none, 0, 0, rfl, rfl, World.ownsRow_nil _ _ _ _, hb⟩

theorem EdA.order (h : EdA W e F k a) (an0 : Option Addr) (ln0 cn0 : Nat) : Calls Tryz.prog 70 #[.pointer (some ⟨e, 0, none⟩), lineV 12 an0 ln0 cn0 0 [] 0 none 0 0] W (TlPost 0 [] 0 0 (a.fs.map fun f => f.nm) W) := by
  refine (tellOrder e an0 ln0 cn0 (a.fs.map fun f => f.nm) W fun W' hW' => ?_).mono ?_
  · obtain ⟨S, ad, c, fs, h1, h2, h3, h4, h5⟩ := (h.next hW').sheet
    refine (order71 e c ad fs W' h1 h4 (by omega)).mono ?_
    rintro r w' ⟨v, rfl, hown, hb⟩
    obtain ⟨bn, ln, cn, rfl⟩ := own_slice hown
    have e1 : nmsF fs = a.fs.map fun f => f.nm := by
      rw [← h2, List.map_map]
      rfl
    have e2 : fs.length = (a.fs.map fun f => f.nm).length := by rw [← h2]; simp
    rw [e1, e2] at hown
    exact ⟨bn, ln, cn, rfl, hown, hb⟩
  · rintro r w' ⟨bn, ln, cn, rfl, hown, hb⟩
    have hln : ln = (a.fs.map fun f => f.nm).length := by
      rcases hown.2 with h1 | ⟨g, cap, cur, h1, _⟩
      · have := h1.1
        cases this
        exact h1.2.symm
      · cases h1
        rfl
    rw [← hln] at hown
    exact ⟨bn, ln, cn, rfl, hln, hown, hb⟩

/-- An editor that was just made. -/
theorem edANew (M : Nat) (hM : M ≤ 6) (w : World) : Calls Tryz.prog 45 #[.int .i64 (M : Int)] w fun r w' => ∃ e, r = .returned (.tuple #[.pointer (some ⟨e, 0, none⟩), .int .i64 0]) ∧ Below w.heap.size w w' ∧ EdA w' e (fun q => w.heap.size ≤ q ∧ q < w'.heap.size) 0 ⟨M, [], [], [], none⟩ := by
  refine (new44 M hM w).mono ?_
  rintro r w' ⟨rfl, rfl⟩
  have hrow := heap_alloc_new w (.cells #[.slice none 0 0, .int .i64 (M : Int), .slice none 0 0, .slice none 0 0, .bool false, .slice none 0 0] 108)
  refine ⟨w.heap.size, rfl, (Below.refl _ _).alloc (Nat.le_refl _) _, fun _ => False, fun _ => False, ⟨[], fun _ => ⟨[], .atom 0 [] 0, (0, 0)⟩⟩, .slice none 0 0, .slice none 0 0, .slice none 0 0, [], [], [], ⟨⟨fun _ h => h.elim, fun h => h, fun h => h, fun _ h => h.elim, fun b hb => by simp at hb, none, 0, fun j hj => by simp at hj, Nat.le_refl _, fun _ => rfl, hrow⟩, ⟨_, _, RowB.nil _ _ _ _⟩, ⟨_, _, RowB.nil _ _ _ _⟩, ⟨_, _, RowB.nil _ _ _ _⟩, fun q hq => by simp [Value.ownBlock] at hq, fun q hq => by simp [Value.ownBlock] at hq, fun q hq => by simp [Value.ownBlock] at hq, hM, by simp⟩, ⟨⟨by simp, fun b hb => by simp at hb, ?_, by simp, fun f hf => by simp [Sta.fs] at hf⟩, rfl, fun u hu => by simp [gall] at hu, rfl, trivial, trivial⟩, Nat.le_refl _, ?_, fun q hq => hq.2⟩
  · exact ⟨by simp [Sta.fs, enumF], by simp [Sta.fs, enumF], by simp [Sta.fs, enumF, Topo], by simp [Sta.fs, enumF], by simp [Sta.fs, enumF]⟩
  · rintro q (h | h | h | h | h | h)
    · exact h.elim
    · subst h; exact ⟨Nat.le_refl _, by simp⟩
    · exact h.elim
    · simp [Value.ownBlock] at h
    · simp [Value.ownBlock] at h
    · simp [Value.ownBlock] at h
end Go.Proofs.YtihgojcfpnhelaaGreatDoor
namespace Go.Proofs.YtihgojcfpnhelaaGreatDoor
open Go.RowKit

/-- What a list tells of a field. -/
def keyF (f : Fd) : By × By := (f.nm, txt f.p)
def keyB (k : By × By) : By := k.1 ++ [32, 61, 32] ++ k.2 ++ [10]

theorem fst_inj : ∀ {l : List (By × By)}, (l.map Prod.fst).Nodup → ∀ {a b : By × By}, a ∈ l → b ∈ l → a.1 = b.1 → a = b
  | [], _, _, _, h, _, _ => by simp at h
  | c :: r, hn, a, b, ha, hb, e => by
    simp only [List.map_cons, List.nodup_cons] at hn
    rcases List.mem_cons.1 ha with rfl | ha
    · rcases List.mem_cons.1 hb with rfl | hb
      · rfl
      · exact absurd (e ▸ List.mem_map_of_mem hb) hn.1
    · rcases List.mem_cons.1 hb with hb' | hb
      · exact absurd (hb' ▸ e ▸ List.mem_map_of_mem ha) hn.1
      · exact fst_inj hn.2 ha hb e

theorem srt_uniq {A B : List (By × By)} (hp : A.Perm B) (hA : A.Pairwise fun f g => ¬ g.1 < f.1) (hB : B.Pairwise fun f g => ¬ g.1 < f.1) (hn : (A.map Prod.fst).Nodup) : A = B :=
  List.Perm.eq_of_pairwise (le := fun f g => ¬ g.1 < f.1) (fun a b ha hb h1 h2 => fst_inj hn ha (hp.mem_iff.2 hb) (List.le_antisymm (List.not_lt.1 h1) (List.not_lt.1 h2))) hA hB hp

theorem lstB_eq (fs : List (Nat × Fd)) : lstB fs = ((srtL fs).map fun g => keyF g.2).flatMap keyB := by
  unfold lstB
  rw [List.flatMap_map]
  rfl

/-- A list tells the names and the rules, and nothing of their order. -/
theorem lstB_key {fs fs' : List (Nat × Fd)} (hn : (fs.map fun g => g.2.nm).Nodup) (hp : (fs.map fun g => keyF g.2).Perm (fs'.map fun g => keyF g.2)) : lstB fs = lstB fs' := by
  obtain ⟨p1, s1⟩ := srtL_facts fs
  obtain ⟨p2, s2⟩ := srtL_facts fs'
  have q1 := p1.map fun g => keyF g.2
  have q2 := p2.map fun g => keyF g.2
  rw [lstB_eq, lstB_eq]
  congr 1
  refine srt_uniq ((q1.trans hp).trans q2.symm) ?_ ?_ ?_
  · rw [List.pairwise_map]; exact s1
  · rw [List.pairwise_map]; exact s2
  · have : ((srtL fs).map fun g => g.2.nm).Nodup := ((p1.map fun g => g.2.nm).nodup_iff).2 hn
    rw [List.map_map]
    exact this

/-- What list tells of the fields. -/
noncomputable def lsA (fs : List Fd) : By := lstB (enumF fs)

theorem enum_map {β : Type} (f : Fd → β) (fs : List Fd) : (enumF fs).map (fun g => f g.2) = fs.map f := by
  have := congrArg (List.map f) (enumF_snd fs)
  rw [List.map_map] at this
  exact this

theorem lsA_of {gs : List (Nat × Fd)} (hn : (gs.map fun g => g.2.nm).Nodup) : lstB gs = lsA (gs.map Prod.snd) := by
  refine lstB_key hn (List.Perm.of_eq ?_)
  rw [enum_map keyF, List.map_map]
  rfl
variable {e k : Nat} {F : Nat → Prop} {w w' W w1 w2 w3 W0 : World} {a : Ab}

theorem EdA.fsOk (h : EdA w e F k a) : FsOk a.fs := by
  obtain ⟨S, D, σ, dv, uv, gv, dn, ud, gr, h1, h2, h3, h4, h5⟩ := h
  rw [h2.fs]
  exact ⟨h2.gs.gf, by have := h2.gs.len; simpa [Sta.fs] using this, h2.gs.nmo⟩

theorem FsOk.nd {fs : List Fd} (h : FsOk fs) : (fs.map fun g => g.nm).Nodup := by
  exact h.gf.nn

theorem EdA.list (h : EdA W e F k a) (hE : Env W) (an0 : Option Addr) (ln0 cn0 : Nat) : Calls Tryz.prog 70 #[.pointer (some ⟨e, 0, none⟩), lineV 11 an0 ln0 cn0 0 [] 0 none 0 0] W (TlPost 0 (lsA a.fs) 0 0 [] W) := by
  refine (tellList e an0 ln0 cn0 (lsA a.fs) W fun W' hW' => ?_).mono ?_
  · have hok := h.fsOk
    obtain ⟨S, ad, c, fs, h1, h2, h3, h4, h5⟩ := (h.next hW').sheet
    refine (listS e c ad fs W' h1 (hE.next hW') h4 h5 (by omega) fun f hf => ?_).mono ?_
    · have := (hok.nmo f.2 (h2 ▸ List.mem_map_of_mem hf)).2
      omega
    · rintro r w' ⟨rfl, hb⟩
      have hn := hok.nd
      rw [← h2, List.map_map] at hn
      rw [lsA_of hn, h2]
      exact ⟨rfl, hb⟩
  · rintro r w' ⟨rfl, hb⟩
    exact ⟨none, 0, 0, rfl, rfl, World.ownsRow_nil _ _ _ _, hb⟩
end Go.Proofs.YtihgojcfpnhelaaGreatDoor
namespace Go.Proofs.YtihgojcfpnhelaaGreatDoor
open Go.RowKit

/-- What a line is answered with. -/
structure Rp where
  er : Int
  at_ : Int
  tx : By
  nm : List By
  kd : Int
  nn : Int

def edR (a : Ab) (ar : AR) : Rp × Ab := (⟨(ar.code : Int), 0, [], ar.names, 0, 0⟩, editA a ar)
def hsR (x : Nat × Ab) : Rp × Ab := (⟨(x.1 : Int), 0, [], [], 0, 0⟩, x.2)

/-- What a line is answered with, and what it makes of an editor. -/
noncomputable def lnA (a : Ab) : Ln → Rp × Ab
  | .err vb er p => (⟨er, p, [], [], 0, 0⟩, if edV vb = true then failA a else a)
  | .set x p => edR a (setA a.fs x p)
  | .del x => edR a (delA a.fs x)
  | .ren x y => edR a (renA a.fs x y)
  | .begin => hsR (beginA a)
  | .commit => hsR (commitA a)
  | .cancel => hsR (cancelA a)
  | .undo => hsR (undoA a)
  | .redo => hsR (redoA a)
  | .value x => (⟨(valA a.fs x).1, 0, [], [], (valA a.fs x).2.1, (valA a.fs x).2.2⟩, a)
  | .rule x => (⟨(rulA a.fs x).1, 0, (rulA a.fs x).2, [], 0, 0⟩, a)
  | .list => (⟨0, 0, lsA a.fs, [], 0, 0⟩, a)
  | .order => (⟨0, 0, [], a.fs.map fun f => f.nm, 0, 0⟩, a)

variable {e k : Nat} {F T : Nat → Prop} {w w' W w1 w2 w3 W0 : World} {a : Ab} {nm : List By} {bn : Option Addr} {ln cn : Nat} {s : By}

theorem Res.more {k' : Nat} (h : Res F T e k a nm w bn ln cn w') (hk : k ≤ k') : Res F T e k' a nm w bn ln cn w' := by
  obtain ⟨h1, h2, h3, F', h4, h5⟩ := h
  exact ⟨h1, h2, h3, F', h4.more hk, h5⟩

/-- What 'Do' hands back for a line that is read so. -/
def DoPost (F : Nat → Prop) (e k : Nat) (a : Ab) (l : Ln) (w : World) (r : Ending) (w' : World) : Prop :=
  ∃ bn ln cn, r = .returned (rpV (lnA a l).1.er (lnA a l).1.at_ (lnA a l).1.tx bn ln cn (lnA a l).1.kd (lnA a l).1.nn) ∧ Res F (fun _ => False) e (k + 1) (lnA a l).2 (lnA a l).1.nm w bn ln cn w'

theorem EdA.doLn (h : EdA w e F k a) (hk : k + 1 < 1000000000000) (hE0 : Env W0) (hL0 : EnvL W0) (hlow : Below W0.heap.size W0 w) (hF : ∀ q, F q → W0.heap.size ≤ q) (s : By) (l : Ln) (hok : l.Ok) (hs : ∀ r, LineP s r → r = l.r) :
    Calls Tryz.prog 20 #[.pointer (some ⟨e, 0, none⟩), .string ⟨s.toArray⟩] w (DoPost F e k a l w) := by
  have hfs := h.fsOk
  have hE := hE0.next hlow
  have hEL := hL0.next hE0 hlow
  have hb0 : Below w.heap.size w (w.alloc zRep) := (Below.refl _ _).alloc (Nat.le_refl _) zRep
  have e1 : (w.alloc zRep).heap.size = w.heap.size + 1 := by simp
  have hread : Calls Tryz.prog 46 #[.string ⟨s.toArray⟩] (w.alloc zRep) fun r w1 => RetL l.r (w.alloc zRep) r w1 ∧ Below (w.alloc zRep).heap.size (w.alloc zRep) w1 := by
    refine (linesRead s (w.alloc zRep) (hE.next hb0) (hEL.next hE hb0)).mono ?_
    rintro r w1 ⟨r', h1, h2, h3⟩
    rw [hs r' h1] at h2
    exact ⟨h2, h3⟩
  have hEw : ∀ {w1 W : World}, Below (w.alloc zRep).heap.size (w.alloc zRep) w1 → Below w1.heap.size w1 W → Env W := fun h1 h2 => ((hE.next hb0).next h1).next h2
  have edit : ∀ (ar : AR) (he : lnA a l = edR a ar), (∀ fs n, ar = .ok fs n → FsOk fs) → (∀ c n, ar = .err c n → c ≠ 0) → (∀ r w1, RetL l.r (w.alloc zRep) r w1 → Below (w.alloc zRep).heap.size (w.alloc zRep) w1 → EdLine e F a ar w r w1) → Calls Tryz.prog 20 #[.pointer (some ⟨e, 0, none⟩), .string ⟨s.toArray⟩] w (DoPost F e k a l w) := fun ar he h1 h2 h3 => by
    refine (h.doEdit hk s ar h1 h2 (hread.mono fun r w1 hr => h3 r w1 hr.1 hr.2)).mono ?_
    rintro r w' ⟨bn, ln, cn, rfl, hres⟩
    unfold DoPost
    rw [he]
    exact ⟨bn, ln, cn, rfl, hres⟩
  have hist : ∀ (vb : Int) (N : Nat) (x : Nat × Ab), l.r = .ok vb [] none → lnA a l = hsR x → edV vb = false → FollowH vb N → (∀ W, EdA W e F k a → Calls Tryz.prog N #[.pointer (some ⟨e, 1, none⟩)] W (HPost e k F x W)) → Calls Tryz.prog 20 #[.pointer (some ⟨e, 0, none⟩), .string ⟨s.toArray⟩] w (DoPost F e k a l w) := fun vb N x hl he hv hf hX => by
    refine (h.doHist s vb hv N hf x hX (hread.mono ?_)).mono ?_
    · rintro r w1 ⟨h1, h2⟩
      rw [hl] at h1
      obtain ⟨an, ln, cn, rfl, _⟩ := h1
      exact ⟨by rw [← e1]; exact h2, an, ln, cn, rfl⟩
    · rintro r w' ⟨rfl, hres⟩
      unfold DoPost
      rw [he]
      exact ⟨none, 0, 0, rfl, hres.more (by omega)⟩
  have tell : ∀ (vb : Int) (ns : List By) (er : Int) (tx : By) (kd nn : Int) (nm : List By), l.r = .ok vb ns none → lnA a l = (⟨er, 0, tx, nm, kd, nn⟩, a) → (vb = 9 ∨ vb = 10 ∨ vb = 11 ∨ vb = 12) → (∀ w1 an ln cn, w1.ownsRow (w.alloc zRep).heap.size 9 1 (.slice an ln cn) ns.length (strs ns) → Below (w.alloc zRep).heap.size (w.alloc zRep) w1 → ∀ W, Below w1.heap.size w1 W → EdA W e F k a → Calls Tryz.prog 70 #[.pointer (some ⟨e, 0, none⟩), lineV vb an ln cn 0 [] 0 none 0 0] W (TlPost er tx kd nn nm W)) → Calls Tryz.prog 20 #[.pointer (some ⟨e, 0, none⟩), .string ⟨s.toArray⟩] w (DoPost F e k a l w) := fun vb ns er tx kd nn nm hl he hv hT => by
    refine (h.doTell s vb hv er tx kd nn nm (hread.mono ?_)).mono ?_
    · rintro r w1 ⟨h1, h2⟩
      rw [hl] at h1
      obtain ⟨an, ln, cn, rfl, hown⟩ := h1
      exact ⟨by rw [← e1]; exact h2, an, ln, cn, rfl, hT w1 an ln cn hown h2⟩
    · rintro r w' ⟨bn, ln, cn, rfl, hres⟩
      unfold DoPost
      rw [he]
      exact ⟨bn, ln, cn, rfl, hres.more (by omega)⟩
  have one : ∀ (x : By) (w1 : World) (an : Option Addr) (ln cn : Nat), w1.ownsRow (w.alloc zRep).heap.size 9 1 (.slice an ln cn) [x].length (strs [x]) → ∃ g, an = some ⟨g, 0, none⟩ ∧ ln = 1 ∧ g < w1.heap.size ∧ w1.cell? ⟨g, 0, none⟩ = some (.string ⟨x.toArray⟩) := fun x w1 an ln cn hown => by
    obtain ⟨g, cap, hv, hg, hgl⟩ := hown.form (by simp)
    simp at hv
    obtain ⟨rfl, rfl, rfl⟩ := hv
    have hc := hown.cellAt 0 (by simp)
    exact ⟨g, rfl, rfl, hgl, by simpa [strs] using hc⟩
  cases l with
  | err vb er p =>
    refine (h.doErr (by omega) s vb er p hok (hread.mono ?_)).mono ?_
    · rintro r w1 ⟨h1, h2⟩
      exact ⟨by rw [← e1]; exact h2, h1⟩
    · rintro r w' ⟨rfl, hres⟩
      exact ⟨none, 0, 0, rfl, hres.more (by omega)⟩
  | set x p =>
    obtain ⟨h1, h2, h3, h4⟩ := hok
    exact edit _ rfl (fun fs n he => hfs.set h2 h1 he) (fun c n he => setA_err he) fun r w1 hr hb => edLine_set hr hb h2 h3 h4
  | del x => exact edit _ rfl (fun fs n he => hfs.del he) (fun c n he => delA_err he) fun r w1 hr hb => edLine_del hr hb
  | ren x y =>
    obtain ⟨h1, h2⟩ := hok
    exact edit _ rfl (fun fs n he => hfs.ren h2 he) (fun c n he => renA_err he) fun r w1 hr hb => edLine_ren hE0 hlow hF hr hb h1.1 (by have := h2.2; omega)
  | begin => exact hist 4 _ _ rfl rfl rfl followBegin fun W hW => hW.beginH
  | commit => exact hist 5 _ _ rfl rfl rfl followCommit fun W hW => hW.commitH (by omega)
  | cancel => exact hist 6 _ _ rfl rfl rfl followCancel fun W hW => hW.cancelH (by omega)
  | undo => exact hist 7 _ _ rfl rfl rfl followUndo fun W hW => hW.undo
  | redo => exact hist 8 _ _ rfl rfl rfl followRedo fun W hW => hW.redo
  | value x =>
    refine tell 9 [x] _ _ _ _ _ rfl rfl (Or.inl rfl) fun w1 an ln cn hown hb W hW hEd => ?_
    obtain ⟨g, rfl, rfl, hg, hc⟩ := one x w1 an ln cn hown
    exact hEd.value ((World.cell?_of_block (a := ⟨g, 0, none⟩) (hW.block g hg)).trans hc) (by have := hW.size; omega)
  | rule x =>
    refine tell 10 [x] _ _ _ _ _ rfl rfl (Or.inr (Or.inl rfl)) fun w1 an ln cn hown hb W hW hEd => ?_
    obtain ⟨g, rfl, rfl, hg, hc⟩ := one x w1 an ln cn hown
    exact hEd.rule (hEw hb hW) ((World.cell?_of_block (a := ⟨g, 0, none⟩) (hW.block g hg)).trans hc) (by have := hW.size; omega)
  | list => exact tell 11 [] _ _ _ _ _ rfl rfl (Or.inr (Or.inr (Or.inl rfl))) fun w1 an ln cn hown hb W hW hEd => hEd.list (hEw hb hW) an ln cn
  | order => exact tell 12 [] _ _ _ _ _ rfl rfl (Or.inr (Or.inr (Or.inr rfl))) fun w1 an ln cn hown hb W hW hEd => hEd.order an ln cn

end Go.Proofs.YtihgojcfpnhelaaGreatDoor
namespace Go.Proofs.YtihgojcfpnhelaaGreatDoor
open Go.RowKit

/-- An editor among others: its block, how many edits its group may hold, what it stands for. -/
structure En where
  e : Nat
  k : Nat
  a : Ab

/-- The editors of a statement, and the blocks T that are the statement's own. -/
structure Sts (W0 : World) (T : Nat → Prop) (E : List En) (w : World) : Prop where
  low : Below W0.heap.size W0 w
  tlt : ∀ q, T q → q < w.heap.size
  eds : ∃ F : Nat → Nat → Prop, (∀ i (h : i < E.length), EdA w E[i].e (F i) E[i].k E[i].a) ∧ (∀ i j q, F i q → F j q → i = j) ∧ ∀ i q, F i q → W0.heap.size ≤ q ∧ ¬ T q ∧ q < w.heap.size

/-- What is the statement's own stands. -/
structure Kt (T : Nat → Prop) (w w' : World) : Prop where
  size : w.heap.size ≤ w'.heap.size
  block : ∀ q, T q → w'.heap[q]? = w.heap[q]?

variable {W0 w w' W w1 w2 : World} {T T' : Nat → Prop} {E : List En} {e k i : Nat} {a : Ab} {s : By} {l : Ln}

theorem Kt.trans (h : Kt T w w1) (h' : Kt T w1 w2) : Kt T w w2 := ⟨Nat.le_trans h.size h'.size, fun q hq => (h'.block q hq).trans (h.block q hq)⟩
theorem Sts.empty (W0 : World) : Sts W0 (fun _ => False) [] W0 := ⟨Below.refl _ _, fun _ h => h.elim, fun _ _ => False, fun i h => by simp at h, fun _ _ _ h => h.elim, fun _ _ h => h.elim⟩

theorem Sts.keep {P : Nat → Prop} (h : Sts W0 T E w) (hk : Ks P w w') (hP : ∀ q, P q → T q ∨ w.heap.size ≤ q) (h0 : ∀ q, P q → W0.heap.size ≤ q) : Sts W0 T E w' := by
  obtain ⟨hl, ht, F, h1, h2, h3⟩ := h
  refine ⟨hl.trans (hk.low h0 hl.size), fun q hq => Nat.lt_of_lt_of_le (ht q hq) hk.size, F, fun i hi => (h1 i hi).keep hk fun q hq hp => ?_, h2, fun i q hq => ⟨(h3 i q hq).1, (h3 i q hq).2.1, Nat.lt_of_lt_of_le (h3 i q hq).2.2 hk.size⟩⟩
  rcases hP q hp with h4 | h4
  · exact (h3 i q hq).2.1 h4
  · have := (h3 i q hq).2.2; omega

theorem Sts.next (h : Sts W0 T E w) (hb : Below w.heap.size w w') : Sts W0 T E w' := h.keep (P := fun _ => False) (Ks.of hb) (fun _ h => h.elim) fun _ h => h.elim
theorem Sts.grow (h : Sts W0 T E w) (hb : Below w.heap.size w w') : Sts W0 (fun q => T q ∨ (w.heap.size ≤ q ∧ q < w'.heap.size)) E w' := by
  obtain ⟨hl, ht, F, h1, h2, h3⟩ := h
  refine ⟨hl.trans (hb.mono hl.size), fun q hq => ?_, F, fun i hi => (h1 i hi).next hb, h2, fun i q hq => ⟨(h3 i q hq).1, fun h4 => ?_, Nat.lt_of_lt_of_le (h3 i q hq).2.2 hb.size⟩⟩
  · rcases hq with h4 | h4
    · exact Nat.lt_of_lt_of_le (ht q h4) hb.size
    · exact h4.2
  · rcases h4 with h4 | h4
    · exact (h3 i q hq).2.1 h4
    · have := (h3 i q hq).2.2; omega
theorem Sts.less (h : Sts W0 T E w) (hT : ∀ q, T' q → T q) : Sts W0 T' E w := by
  obtain ⟨hl, ht, F, h1, h2, h3⟩ := h
  exact ⟨hl, fun q hq => ht q (hT q hq), F, h1, h2, fun i q hq => ⟨(h3 i q hq).1, fun h4 => (h3 i q hq).2.1 (hT q h4), (h3 i q hq).2.2⟩⟩

theorem set_at {α : Type} (l : List α) (i : Nat) (x : α) (j : Nat) (h : j < (l.set i x).length) : (l.set i x)[j] = if i = j then x else l[j]'(by simpa using h) := List.getElem_set ..

/-- What a line leaves of the editors. -/
theorem Sts.res {F : Nat → Nat → Prop} {nm : List By} {bn : Option Addr} {ln cn : Nat} (h : Sts W0 T E w) (hi : i < E.length) (h1 : ∀ i (h : i < E.length), EdA w E[i].e (F i) E[i].k E[i].a) (h2 : ∀ i j q, F i q → F j q → i = j) (h3 : ∀ i q, F i q → W0.heap.size ≤ q ∧ ¬ T q ∧ q < w.heap.size) (hr : Res (F i) (fun _ => False) E[i].e k a nm w bn ln cn w') :
    ln = nm.length ∧ w'.ownsRow w.heap.size 9 1 (.slice bn ln cn) ln (strs nm) ∧ Kt T w w' ∧ Sts W0 (fun q => T q ∨ (Value.slice bn ln cn).ownBlock = some q) (E.set i ⟨E[i].e, k, a⟩) w' := by
  obtain ⟨g1, g2, g3, F', g4, g5, g6, g7⟩ := hr
  have hsz := g2.size
  refine ⟨g1, g3, ⟨hsz, fun q hq => g2.block q (h.tlt q hq) fun hf => (h3 i q hf).2.1 hq⟩, h.low.trans (g2.low (fun q hq => (h3 i q hq).1) h.low.size), fun q hq => ?_, fun j q => if j = i then F' q else F j q, fun j hj => ?_, fun j j' q hq hq' => ?_, fun j q hq => ?_⟩
  · rcases hq with hq | hq
    · exact Nat.lt_of_lt_of_le (h.tlt q hq) hsz
    · exact (g3.lt q hq).2
  · have hj' : j < E.length := by simpa using hj
    rw [set_at]
    by_cases hij : i = j
    · subst hij
      simp only [if_true]
      exact g4
    · rw [if_neg hij]
      simp only [if_neg (Ne.symm hij)]
      exact (h1 j hj').keep g2 fun q hq hf => hij (h2 i j q hf hq)
  · by_cases e1 : j = i
    · by_cases e2 : j' = i
      · rw [e1, e2]
      · simp only [if_pos e1, if_neg e2] at hq hq'
        rcases g5 q hq with h5 | h5
        · exact absurd (h2 i j' q h5 hq') (Ne.symm e2)
        · have := (h3 j' q hq').2.2; omega
    · by_cases e2 : j' = i
      · simp only [if_neg e1, if_pos e2] at hq hq'
        rcases g5 q hq' with h5 | h5
        · exact absurd (h2 i j q h5 hq) (Ne.symm e1)
        · have := (h3 j q hq).2.2; omega
      · simp only [if_neg e1, if_neg e2] at hq hq'
        exact h2 j j' q hq hq'
  · by_cases e1 : j = i
    · simp only [if_pos e1] at hq
      refine ⟨?_, fun ht => ?_, g4.lt q hq⟩
      · rcases g5 q hq with h5 | h5
        · exact (h3 i q h5).1
        · exact Nat.le_trans h.low.size h5
      · rcases ht with ht | ht
        · rcases g5 q hq with h5 | h5
          · exact (h3 i q h5).2.1 ht
          · have := h.tlt q ht; omega
        · exact (g6 q ht).1 hq
    · simp only [if_neg e1] at hq
      refine ⟨(h3 j q hq).1, fun ht => ?_, Nat.lt_of_lt_of_le (h3 j q hq).2.2 hsz⟩
      rcases ht with ht | ht
      · exact (h3 j q hq).2.1 ht
      · have := (g3.lt q ht).1; have := (h3 j q hq).2.2; omega

/-- What 'Do' leaves of the editors. -/
def DoS (W0 : World) (T : Nat → Prop) (E : List En) (i : Nat) (hi : i < E.length) (l : Ln) (w : World) (r : Ending) (w' : World) : Prop :=
  ∃ bn ln cn, r = .returned (.agg #[.int .i64 (lnA E[i].a l).1.er, .int .i64 (lnA E[i].a l).1.at_, .string ⟨(lnA E[i].a l).1.tx.toArray⟩, .slice bn ln cn, .int .i64 (lnA E[i].a l).1.kd, .int .i64 (lnA E[i].a l).1.nn]) ∧ ln = (lnA E[i].a l).1.nm.length ∧ w'.ownsRow w.heap.size 9 1 (.slice bn ln cn) ln (strs (lnA E[i].a l).1.nm) ∧ Kt T w w' ∧ Sts W0 (fun q => T q ∨ (Value.slice bn ln cn).ownBlock = some q) (E.set i ⟨E[i].e, E[i].k + 1, (lnA E[i].a l).2⟩) w'

theorem Sts.do (h : Sts W0 T E w) (hE : Env W0) (hL : EnvL W0) (hi : i < E.length) (hk : E[i].k + 1 < 1000000000000) (hl : IsLn s l) :
    Calls Tryz.prog 20 #[.pointer (some ⟨E[i].e, 0, none⟩), .string ⟨s.toArray⟩] w (DoS W0 T E i hi l w) := by
  obtain ⟨F, h1, h2, h3⟩ := h.eds
  refine ((h1 i hi).doLn hk hE hL h.low (fun q hq => (h3 i q hq).1) s l hl.1 hl.2).mono ?_
  rintro r w' ⟨bn, ln, cn, rfl, hres⟩
  obtain ⟨g1, g2, g3, g4⟩ := h.res hi h1 h2 h3 hres
  exact ⟨bn, ln, cn, rfl, g1, g2, g3, g4⟩

theorem EdA.shut {F : Nat → Prop} (h : EdA w e F k a) (hg : a.grp = none) (k' : Nat) : EdA w e F k' a := by
  obtain ⟨S, D, σ, dv, uv, gv, dn, ud, gr, h1, h2, h3, h4, h5⟩ := h
  have hok := h2.ok
  rw [hg] at hok
  exact ⟨S, D, σ, dv, uv, gv, dn, ud, gr, h1, h2, by rw [hok.1]; simp, h4, h5⟩

theorem Sts.re {x y : En} (h : Sts W0 T (E.set i x) w) (h1 : y.e = x.e) (h2 : y.a = x.a) (hk : x.k ≤ y.k ∨ x.a.grp = none) : Sts W0 T (E.set i y) w := by
  obtain ⟨hl, ht, F, g1, g2, g3⟩ := h
  refine ⟨hl, ht, F, fun j hj => ?_, g2, g3⟩
  have hj' : j < (E.set i x).length := by simpa using hj
  have := g1 j hj'
  rw [set_at] at this ⊢
  by_cases e1 : i = j
  · rw [if_pos e1] at this ⊢
    rw [h1, h2]
    rcases hk with hk | hk
    · exact this.more hk
    · exact this.shut hk _
  · rw [if_neg e1] at this ⊢
    exact this

/-- One editor more. -/
theorem Sts.new (h : Sts W0 T E w) (M : Nat) (hM : M ≤ 6) : Calls Tryz.prog 45 #[.int .i64 (M : Int)] w fun r w' => ∃ e, r = .returned (.tuple #[.pointer (some ⟨e, 0, none⟩), .int .i64 0]) ∧ Kt T w w' ∧ Sts W0 T (E ++ [⟨e, 0, ⟨M, [], [], [], none⟩⟩]) w' := by
  refine (edANew M hM w).mono ?_
  rintro r w' ⟨e, rfl, hb, hed⟩
  obtain ⟨F, h1, h2, h3⟩ := h.eds
  have hsz := hb.size
  refine ⟨e, rfl, ⟨hsz, fun q hq => hb.block q (h.tlt q hq)⟩, h.low.trans (hb.mono h.low.size), fun q hq => Nat.lt_of_lt_of_le (h.tlt q hq) hsz, fun j q => if j < E.length then F j q else if j = E.length then (w.heap.size ≤ q ∧ q < w'.heap.size) else False, fun j hj => ?_, fun j j' q hq hq' => ?_, fun j q hq => ?_⟩
  · rcases Nat.lt_or_ge j E.length with e1 | e1
    · rw [List.getElem_append_left e1]
      simp only [if_pos e1]
      exact (h1 j e1).next hb
    · have e2 : j = E.length := by simp at hj; omega
      subst e2
      simp only [Nat.lt_irrefl, if_false, if_true]
      simpa using hed
  · by_cases e1 : j < E.length
    · simp only [if_pos e1] at hq
      by_cases e2 : j' < E.length
      · simp only [if_pos e2] at hq'
        exact h2 j j' q hq hq'
      · simp only [if_neg e2] at hq'
        by_cases e3 : j' = E.length
        · rw [if_pos e3] at hq'
          have := (h3 j q hq).2.2; omega
        · rw [if_neg e3] at hq'
          exact hq'.elim
    · simp only [if_neg e1] at hq
      by_cases e3 : j = E.length
      · rw [if_pos e3] at hq
        by_cases e2 : j' < E.length
        · simp only [if_pos e2] at hq'
          have := (h3 j' q hq').2.2; omega
        · simp only [if_neg e2] at hq'
          by_cases e4 : j' = E.length
          · rw [e3, e4]
          · rw [if_neg e4] at hq'
            exact hq'.elim
      · rw [if_neg e3] at hq
        exact hq.elim
  · by_cases e1 : j < E.length
    · simp only [if_pos e1] at hq
      exact ⟨(h3 j q hq).1, (h3 j q hq).2.1, Nat.lt_of_lt_of_le (h3 j q hq).2.2 hsz⟩
    · simp only [if_neg e1] at hq
      by_cases e3 : j = E.length
      · rw [if_pos e3] at hq
        exact ⟨Nat.le_trans h.low.size hq.1, fun ht => by have := h.tlt q ht; omega, hq.2⟩
      · rw [if_neg e3] at hq
        exact hq.elim
end Go.Proofs.YtihgojcfpnhelaaGreatDoor
namespace Go.Proofs.YtihgojcfpnhelaaGreatDoor
open Go.RowKit
attribute [local go_sem] idx_eq app_eq

set_option maxRecDepth 100000 in
set_option maxHeartbeats 4000000 in
theorem told_ok (e : Nat) (tx : By) (w : World) (Q : World → Prop) (hQ : ∀ w1 w2, Q w1 → Below w1.heap.size w1 w2 → Q w2)
    (hD : Calls Tryz.prog 20 #[.pointer (some ⟨e, 0, none⟩), .string ⟨([108, 105, 115, 116] : By).toArray⟩] w fun r w' => (∃ (at_ : Int) (an : Option Addr) (ln cn : Nat) (k n : Int), r = .returned (.agg #[.int .i64 0, .int .i64 at_, .string ⟨tx.toArray⟩, .slice an ln cn, .int .i64 k, .int .i64 n])) ∧ Q w') :
    Calls Tryz.prog 30 #[.pointer (some ⟨e, 0, none⟩)] w fun r w' => r = .returned (.string ⟨tx.toArray⟩) ∧ Q w' := by
  have HD := toHid hD
  clear hD
  go_enter Tryz.func30, Tryz.ntmps30
  go_wp2_with (first | (go_at_call 20; refine HD.out.mono ?_; rintro r w1 ⟨⟨at_, an, ln, cn, k, n, rfl⟩, hq⟩; have HQ := toHid hq; clear hq))
  go_ret
  exact ⟨rfl, hQ _ _ HQ.out ((Below.refl _ _).alloc (Nat.le_refl _) _)⟩

/-- Which of n things a raw number speaks of. -/
def pickN (c : Int) (n : Nat) : Nat := (if c < 0 then -(c + 1) else c).toNat % n

theorem pickN_lt (c : Int) (n : Nat) (h : 0 < n) : pickN c n < n := Nat.mod_lt _ h

set_option maxRecDepth 100000 in
set_option maxHeartbeats 4000000 in
theorem pick_ok (c : Int) (n : Nat) (h0 : -9223372036854775808 ≤ c) (h1 : c ≤ 9223372036854775807) (hn : 0 < n) (hn1 : n ≤ 1000) (w : World) :
    Calls Tryz.prog 25 #[.int .i64 c, .int .i64 (n : Int)] w fun r w' => r = .returned (.int .i64 (pickN c n : Int)) ∧ w' = w := by
  have hn0 : ((n : Int) == 0) = false := by simp; omega
  have hn2 : ¬ (n : Int) = 0 := by omega
  by_cases hc : c < 0
  · obtain ⟨m, rfl⟩ : ∃ m : Nat, c = -(m : Int) - 1 := ⟨(-(c + 1)).toNat, by omega⟩
    have e1 : wrap64 (-(m : Int) - 1 + 1) = -(m : Int) := by rw [show -(m : Int) - 1 + 1 = -(m : Int) by omega]; unfold wrap64; omega
    have e2 : pickN (-(m : Int) - 1) n = m % n := by
      unfold pickN
      rw [if_pos hc]
      congr 1
      omega
    rw [e2]
    go_enter Tryz.func25, Tryz.ntmps25
    go_wp2
    go_ret
    exact ⟨by simp, rfl⟩
  · obtain ⟨m, rfl⟩ : ∃ m : Nat, c = (m : Int) := ⟨c.toNat, by omega⟩
    have e2 : pickN (m : Int) n = m % n := by
      unfold pickN
      rw [if_neg hc]
      simp
    rw [e2]
    go_enter Tryz.func25, Tryz.ntmps25
    go_wp2
    go_ret
    exact ⟨by simp, rfl⟩

set_option maxRecDepth 100000 in
set_option maxHeartbeats 4000000 in
theorem has_ok (nm : List By) (x : By) (bn : Option Addr) (cn B : Nat) (w : World) (ho : w.ownsRow B 9 1 (.slice bn nm.length cn) nm.length (strs nm)) (hl : nm.length ≤ 1000) :
    Calls Tryz.prog 31 #[.slice bn nm.length cn, .string ⟨x.toArray⟩] w fun r w' => r = .returned (.int .i64 ((nm.count x : Nat) : Int)) ∧ w' = w := by
  have HO := toHid ho
  have hcell : ∀ j, j < nm.length → ∃ g y, bn = some ⟨g, 0, none⟩ ∧ w.cell? ⟨g, j, none⟩ = some (.string ⟨y.toArray⟩) ∧ (nm.take (j + 1)).count x = (nm.take j).count x + if y = x then 1 else 0 := fun j hj => by
    obtain ⟨g, cap, hv, _, _⟩ := HO.out.form (by omega)
    simp at hv
    obtain ⟨rfl, rfl⟩ := hv
    have hc := HO.out.cellAt j (by simpa [strs] using hj)
    refine ⟨g, nm[j], rfl, by simpa [strs, hj] using hc, ?_⟩
    rw [List.take_succ_eq_append_getElem hj, List.count_append, List.count_singleton]
    by_cases h : nm[j] = x <;> simp [h]
  have HC := toHid hcell
  have HLE : Hid (∀ j, (nm.take j).count x ≤ 1000) := toHid fun j => by
    have h1 := List.count_le_length (a := x) (l := nm.take j)
    have h2 : (nm.take j).length ≤ nm.length := by simp; omega
    omega
  clear ho hcell HO
  have HFIN : Hid (nm.count x = (nm.take nm.length).count x) := toHid (by rw [List.take_length])
  generalize hn : nm.length = n at *
  clear hn
  go_enter Tryz.func31, Tryz.ntmps31
  go_wp2_with fail
  go_loopw [5, 6] (fun v5 v6 wr => ∃ j c : Nat, j ≤ n ∧ v6 = .int .i64 (j : Int) ∧ v5 = .int .i64 (c : Int) ∧ wr = w ∧ Hid (c = (nm.take j).count x)) (fun _ v6 _ => n - (intOf v6).toNat)
  case atStart => exact ⟨0, 0, Nat.zero_le _, rfl, rfl, rfl, toHid (by simp)⟩
  case round =>
    obtain ⟨j, c, hj, rfl, rfl, rfl, HCN⟩ := hrel
    by_cases hjn : j < n
    · obtain ⟨g, y, rfl, hc, hx⟩ := HC.out j hjn
      have hil : (j : Int) < (n : Int) := by omega
      have hwj : wrap64 ((j : Int) + 1) = ((j + 1 : Nat) : Int) := by unfold wrap64; omega
      have hle := HLE.out j
      rw [← HCN.out] at hle
      have hwc : wrap64 ((c : Int) + 1) = ((c + 1 : Nat) : Int) := by unfold wrap64; omega
      by_cases hq : y = x
      · rw [if_pos hq, ← HCN.out] at hx
        have HX2 := toHid hx
        subst hq
        clear hx
        go_wp2
        go_roundw
        case rel => exact ⟨j + 1, c + 1, by omega, by simp, by simp, trivial, toHid HX2.out.symm⟩
        case measure =>
          show n - ((j : Int) + 1).toNat < n - ((j : Int)).toNat
          omega
      · rw [if_neg hq, ← HCN.out, Nat.add_zero] at hx
        have HX2 := toHid hx
        have hqb : (y == x) = false := by simp [hq]
        clear hx
        go_wp2
        go_roundw
        case rel => exact ⟨j + 1, c, by omega, by simp, rfl, trivial, toHid HX2.out.symm⟩
        case measure =>
          show n - ((j : Int) + 1).toNat < n - ((j : Int)).toNat
          omega
    · obtain rfl : j = n := by omega
      have hni : ¬ (j : Int) < (j : Int) := by omega
      go_wp2
      refine bodyPost_ret (v := .int .i64 (c : Int)) (by simp [results, Tryz.results31, go_sem]) rfl ?_
      rw [HFIN.out, ← HCN.out]
      exact ⟨rfl, rfl⟩
end Go.Proofs.YtihgojcfpnhelaaGreatDoor
namespace Go.Proofs.YtihgojcfpnhelaaGreatDoor
open Go.RowKit

variable {W0 w w' W w1 w2 : World} {T T' : Nat → Prop} {E : List En} {e k i : Nat} {a : Ab} {s : By} {l : Ln}

theorem Kt.below (h : Kt T w w1) (hT : ∀ q, T q → q < w1.heap.size) (hb : Below w1.heap.size w1 w2) : Kt T w w2 := h.trans ⟨hb.size, fun q hq => hb.block q (hT q hq)⟩

/-- What a call leaves of the editors. -/
def Lv (W0 : World) (T : Nat → Prop) (E : List En) (w w' : World) : Prop := Kt T w w' ∧ Sts W0 T E w'

theorem Lv.next (h : Lv W0 T E w w1) (hb : Below w1.heap.size w1 w2) : Lv W0 T E w w2 := ⟨h.1.below h.2.tlt hb, h.2.next hb⟩

/-- 'Do', with what it answers written out. -/
theorem Sts.doA {rp : Rp} {a' : Ab} (k' : Nat) (h : Sts W0 T E w) (hE : Env W0) (hL : EnvL W0) (hi : i < E.length) (hk : E[i].k + 1 < 1000000000000) (hl : IsLn s l) (hr : lnA E[i].a l = (rp, a')) (hk' : E[i].k + 1 ≤ k' ∨ a'.grp = none) :
    Calls Tryz.prog 20 #[.pointer (some ⟨E[i].e, 0, none⟩), .string ⟨s.toArray⟩] w fun r w' => ∃ bn cn, r = .returned (.agg #[.int .i64 rp.er, .int .i64 rp.at_, .string ⟨rp.tx.toArray⟩, .slice bn rp.nm.length cn, .int .i64 rp.kd, .int .i64 rp.nn]) ∧ w'.ownsRow w.heap.size 9 1 (.slice bn rp.nm.length cn) rp.nm.length (strs rp.nm) ∧ Kt T w w' ∧ Sts W0 (fun q => T q ∨ (Value.slice bn rp.nm.length cn).ownBlock = some q) (E.set i ⟨E[i].e, k', a'⟩) w' := by
  refine (h.do hE hL hi hk hl).mono ?_
  rintro r w' ⟨bn, ln, cn, rfl, h1, h2, h3, h4⟩
  rw [hr] at h1 h2 h4
  rw [hr]
  subst h1
  exact ⟨bn, cn, rfl, h2, h3, h4.re rfl rfl hk'⟩

/-- A line that must be done. -/
theorem Sts.doesA {rp : Rp} {a' : Ab} (k' : Nat) (h : Sts W0 T E w) (hE : Env W0) (hL : EnvL W0) (hi : i < E.length) (hk : E[i].k + 1 < 1000000000000) (hl : IsLn s l) (hr : lnA E[i].a l = (rp, a')) (hk' : E[i].k + 1 ≤ k' ∨ a'.grp = none) (h0 : rp.er = 0) (h1 : rp.at_ = 0) :
    Calls Tryz.prog 19 #[.pointer (some ⟨E[i].e, 0, none⟩), .string ⟨s.toArray⟩] w fun r w' => r = .returned (.bool true) ∧ Lv W0 T (E.set i ⟨E[i].e, k', a'⟩) w w' := by
  refine does_ok E[i].e s w (Lv W0 T (E.set i ⟨E[i].e, k', a'⟩) w) (fun w1 w2 h hb => h.next hb) ((h.doA k' hE hL hi hk hl hr hk').mono ?_)
  rintro r w' ⟨bn, cn, rfl, _, h3, h4⟩
  rw [h0, h1]
  exact ⟨⟨rp.tx, bn, _, cn, rp.kd, rp.nn, rfl⟩, h3, h4.less fun q hq => Or.inl hq⟩

theorem Sts.toldA (h : Sts W0 T E w) (hE : Env W0) (hL : EnvL W0) (hi : i < E.length) (hk : E[i].k + 1 < 1000000000000) (hg : E[i].a.grp = none) :
    Calls Tryz.prog 30 #[.pointer (some ⟨E[i].e, 0, none⟩)] w fun r w' => r = .returned (.string ⟨(lsA E[i].a.fs).toArray⟩) ∧ Lv W0 T E w w' := by
  refine told_ok E[i].e (lsA E[i].a.fs) w (Lv W0 T E w) (fun w1 w2 h hb => h.next hb) ((h.doA E[i].k hE hL hi hk isLn_list rfl (Or.inr hg)).mono ?_)
  rintro r w' ⟨bn, cn, rfl, _, h3, h4⟩
  have e1 : E.set i ⟨E[i].e, E[i].k, E[i].a⟩ = E := List.set_getElem_self hi
  rw [e1] at h4
  exact ⟨⟨0, bn, _, cn, 0, 0, rfl⟩, h3, h4.less fun q hq => Or.inl hq⟩

theorem Sts.worthA {nm : By} (h : Sts W0 T E w) (hE : Env W0) (hL : EnvL W0) (hi : i < E.length) (hk : E[i].k + 1 < 1000000000000) (hg : E[i].a.grp = none) (hn : NmOk nm) (ho : NmO nm) :
    Calls Tryz.prog 24 #[.pointer (some ⟨E[i].e, 0, none⟩), .string ⟨nm.toArray⟩] w fun r w' => r = .returned (.tuple #[.int .i64 (valA E[i].a.fs nm).2.1, .int .i64 (valA E[i].a.fs nm).2.2]) ∧ Lv W0 T E w w' := by
  refine worth_ok E[i].e nm w (by have := ho.2; omega) (Lv W0 T E w) (fun w1 w2 h hb => h.next hb) _ _ ((h.doA E[i].k hE hL hi hk (isLn_value nm hn ho) rfl (Or.inr hg)).mono ?_)
  rintro r w' ⟨bn, cn, rfl, _, h3, h4⟩
  have e1 : E.set i ⟨E[i].e, E[i].k, E[i].a⟩ = E := List.set_getElem_self hi
  rw [e1] at h4
  exact ⟨⟨_, _, _, bn, _, cn, rfl⟩, h3, h4.less fun q hq => Or.inl hq⟩

theorem Sts.isA {nm : By} {n : Int} (h : Sts W0 T E w) (hE : Env W0) (hL : EnvL W0) (hi : i < E.length) (hk : E[i].k + 1 < 1000000000000) (hg : E[i].a.grp = none) (hn : NmOk nm) (ho : NmO nm) (hv : (valA E[i].a.fs nm).2 = (1, n)) :
    Calls Tryz.prog 26 #[.pointer (some ⟨E[i].e, 0, none⟩), .string ⟨nm.toArray⟩, .int .i64 n] w fun r w' => r = .returned (.bool true) ∧ Lv W0 T E w w' := by
  refine is_ok E[i].e nm w (Lv W0 T E w) n ((h.worthA hE hL hi hk hg hn ho).mono ?_)
  rintro r w' ⟨rfl, h1⟩
  rw [hv]
  exact ⟨rfl, h1⟩

theorem Sts.beginA (h : Sts W0 T E w) (M : Nat) (hM : M ≤ 6) : Calls Tryz.prog 18 #[.int .i64 (M : Int)] w fun r w' => ∃ e, r = .returned (.tuple #[.pointer (some ⟨e, 0, none⟩), .bool true]) ∧ Lv W0 T (E ++ [⟨e, 0, ⟨M, [], [], [], none⟩⟩]) w w' :=
  begin_ok (M : Int) w (fun e w' => Lv W0 T (E ++ [⟨e, 0, ⟨M, [], [], [], none⟩⟩]) w w') ((h.new M hM).mono fun r w' ⟨e, h1, h2, h3⟩ => ⟨e, h1, h2, h3⟩)

/-- An edit with no group open. -/
theorem lnA_ok {x : By} {p : Pt} {fs : List Fd} {nm : List By} (hg : a.grp = none) (h : setA a.fs x p = .ok fs nm) : lnA a (.set x p) = (⟨0, 0, [], nm, 0, 0⟩, ⟨a.M, fs, (a.fs :: a.past).take a.M, [], none⟩) := by
  simp [lnA, edR, h, editA, doneA, hg, AR.code, AR.names]
theorem lnA_err {x : By} {p : Pt} {c : Nat} {nm : List By} (hg : a.grp = none) (h : setA a.fs x p = .err c nm) : lnA a (.set x p) = (⟨(c : Int), 0, [], nm, 0, 0⟩, a) := by
  simp [lnA, edR, h, editA, failA, hg, AR.code, AR.names]
end Go.Proofs.YtihgojcfpnhelaaGreatDoor
namespace Go.Proofs.YtihgojcfpnhelaaGreatDoor
open Go.RowKit

def AR.fs : AR → List Fd
  | .ok fs _ => fs
  | .err _ _ => []

/-- The rule of a row's field. -/
def rgP (n i : Nat) : Pt := if i + 1 < n then .bin 12 (nmP (i + 1)) (dgP 1) else dgP 5
/-- A row's fields, so many. -/
def rgF (n : Nat) : Nat → List Fd
  | 0 => []
  | i + 1 => (setA (rgF n i) (fN i) (rgP n i)).fs
/-- The row. -/
def rgA (n : Nat) : List Fd := rgF n n
/-- What closes it. -/
def rgC (n fr tt : Nat) : AR := setA (rgA n) (fN tt) (.bin 15 (nmP fr) (dgP 2))
def rgG (n gap : Nat) : AR := setA (rgA n) (fN gap) (dgP 7)
def rgD (n fr tt gap : Nat) : AR := setA (rgG n gap).fs (fN tt) (.bin 15 (nmP fr) (dgP 2))
def rgE (n fr tt gap : Nat) : AR := setA (rgD n fr tt gap).fs (fN gap) (.bin 13 (dgP 1) (nmP (gap + 1)))

def numOf (x : By) : Nat := (x.getD 1 0).toNat - 48
/-- Is this the row's circle? -/
def cirB (fr tt : Nat) (l : List By) : Bool :=
  l == (l.map numOf).map fN && l.length == tt - fr + 1 && (l.map numOf).all (fun m => decide (m < 9)) && (List.range (tt + 1)).all (fun i => decide (i < fr) || l.count (fN i) == 1) && (List.range l.length).all (fun i => decide (l.length ≤ i + 1) || (l.map numOf).getD (i + 1) 0 == (if (l.map numOf).getD i 0 = tt then fr else (l.map numOf).getD i 0 + 1))

def chk1 (n : Nat) : Bool := (List.range n).all (fun i => (setA (rgF n i) (fN i) (rgP n i)).code == 0) && (match (rgA n).find? (fun f => f.nm == fN 0) with | some f => f.v == (1, ((n : Nat) : Int) + 4) | none => false)
def chk2 (n fr tt : Nat) : Bool := (rgC n fr tt).code == 8 && cirB fr tt (rgC n fr tt).names
def chk3 (n fr tt gap : Nat) : Bool := (rgG n gap).code == 0 && (rgD n fr tt gap).code == 0 && (rgE n fr tt gap).code == 8 && (rgE n fr tt gap).names.count (fN gap) == 1 && decide ((rgE n fr tt gap).names.length ≤ 10)

set_option maxRecDepth 100000 in
theorem chk1_all : ∀ n, n < 7 → chk1 (n + 2) = true := by decide +kernel
set_option maxRecDepth 100000 in
theorem chk2_all : ∀ n, n < 7 → ∀ tt, tt < n + 2 → ∀ fr, fr < tt + 1 → chk2 (n + 2) fr tt = true := by decide +kernel
set_option maxRecDepth 100000 in
theorem chk3_all : ∀ n, n < 7 → ∀ tt, tt < n + 2 → ∀ gap, gap < tt → ∀ fr, fr < gap + 1 → chk3 (n + 2) fr tt gap = true := by decide +kernel
end Go.Proofs.YtihgojcfpnhelaaGreatDoor
