import Derived.Test.YtihgojcfpnhelabGreatDoorS2Ie
set_option maxRecDepth 100000
set_option maxHeartbeats 4000000
set_option linter.unusedVariables false
set_option linter.unusedSimpArgs false
namespace Go.Proofs.YtihgojcfpnhelabGreatDoor
open Go.RowKit
section
theorem verbEdits (vb : Int) (w : World) : Calls Tryz.prog 16 #[.int .i64 vb] w fun r w' => r = .returned (.bool (vb == 1 || (vb == 2 || vb == 3))) ∧ w' = w := by
 by_cases h1 : vb = 1
 ·subst h1
  go_enter Tryz.func16, Tryz.ntmps16
  go_wp2
  go_ret
  simp
 ·have b1 : (vb == 1) = false := by simpa using h1
  by_cases h2 : vb = 2
  ·subst h2
   go_enter Tryz.func16, Tryz.ntmps16
   go_wp2
   go_ret
   simp
  ·have b2 : (vb == 2) = false := by simpa using h2
   go_enter Tryz.func16, Tryz.ntmps16
   go_wp2
   go_ret
   simp [b1, b2]
structure Aside (Z : World → Prop) (q g : Nat) : Prop where
 a : ∀ W j u, Z W → Z (W.setCell ⟨q, j, none⟩ u)
 b : ∀ W j u, Z W → Z (W.setCell ⟨g, j, none⟩ u)
def edV (vb : Int) : Bool := vb == 1 || (vb == 2 || vb == 3)
def DoEnd (e q g : Nat) (Z : World → Prop) (vb er : Int) (Q : World → Prop) : Prop :=
 (∀ W j u, Q W → Q (W.setCell ⟨q, j, none⟩ u)) ∧ if er ≠ 0 ∧ edV vb = true then ∀ W, Z W → Calls Tryz.prog 17 #[.pointer (some ⟨e, 1, none⟩)] W fun r w' => (∃ x, r = .returned (.int .i64 x)) ∧ w'.heap[q]? = W.heap[q]? ∧ w'.heap[g]? = W.heap[g]? ∧ Q w' else ∀ W, Z W → Q W
def FolAny (Q : Int → Int → By → Option Addr → Nat → Nat → Int → Int → World → Prop) (e q g vb_ : Nat) (lo : Obj) (vb : Int) (r : Ending) (w2 : World) : Prop :=
 ∃ er at_ tx bn ln cn kd nn Z, r = .returned (rpV er at_ tx bn ln cn kd nn) ∧ w2.heap[q]? = some zRep ∧ w2.heap[g]? = some zRep ∧ w2.heap[vb_]? = some lo ∧ Aside Z q g ∧ Z w2 ∧ DoEnd e q g Z vb er (Q er at_ tx bn ln cn kd nn)
def RdAny (Q : Int → Int → By → Option Addr → Nat → Nat → Int → Int → World → Prop) (e : Nat) (w : World) (r : Ending) (w1 : World) : Prop :=
 Below (w.heap.size + 1) (w.alloc zRep) w1 ∧ ∃ vb an ln cn k nm n ar lr cr, r = .returned (.tuple #[lineV vb an ln cn k nm n ar lr cr, .int .i64 0, .int .i64 0]) ∧
  Calls Tryz.prog 15 #[.pointer (some ⟨e, 0, none⟩), lineV vb an ln cn k nm n ar lr cr] ((w1.alloc (lineO vb an ln cn k nm n ar lr cr)).alloc zRep) (FolAny Q e w.heap.size (w1.heap.size + 1) w1.heap.size (lineO vb an ln cn k nm n ar lr cr) vb)
theorem doFol (e : Nat) (s : By) (w : World) (Q : Int → Int → By → Option Addr → Nat → Nat → Int → Int → World → Prop)
  (hR : Calls Tryz.prog 14 #[.string ⟨s.toArray⟩] (w.alloc zRep) (RdAny Q e w)) :
  Calls Tryz.prog 8 #[.pointer (some ⟨e, 0, none⟩), .string ⟨s.toArray⟩] w fun r w' => ∃ er at_ tx bn ln cn kd nn, r = .returned (rpV er at_ tx bn ln cn kd nn) ∧ Q er at_ tx bn ln cn kd nn w' := by
 have HR := tZ hR
 clear hR
 unfold zRep at HR
 go_enter Tryz.func8, Tryz.ntmps8
 go_wp2_with (first | (go_at_call 14; refine HR.out.mono ?_; rintro r w1 ⟨hb1, vb, an, ln, cn, k, nm, n, ar, lr, cr, hr, hf⟩; unfold lineV at hr; subst hr; refine Hid.out ?_))
 have hs1 : w.heap.size < w1.heap.size := by have := hb1.size; simp at this; omega
 have HF := tZ hf
 unfold lineV zRep at HF
 have HF2 := tZ (show Calls Tryz.prog 15 #[.pointer (some ⟨e, 0, none⟩), .agg #[.int .i64 vb, .slice an ln cn, .int .i64 k, .string ⟨nm.toArray⟩, .int .i64 n, .slice ar lr cr]] ((w1.alloc (.cells #[.int .i64 vb, .slice an ln cn, .int .i64 k, .string ⟨nm.toArray⟩, .int .i64 n, .slice ar lr cr] 53 (0, 0))).alloc (.cells #[.int .i64 0, .int .i64 0, .string ⟨#[]⟩, .slice none 0 0, .int .i64 0, .int .i64 0] 30 (0, 0))) (FolAny Q e w.heap.size (w1.heap.size + 1) w1.heap.size (lineO vb an ln cn k nm n ar lr cr) vb) from HF.out)
 clear hb1 hf HR HF
 refine tZ ?_
 go_wp2_with (first | (go_at_call 15; refine HF2.out.mono ?_; rintro r w2 ⟨er, at_, tx, bn, ln', cn', kd, nn, Z, hr, h1, h2, h3, hA, hZ, hE⟩; unfold rpV at hr; subst hr; refine Hid.out ?_))
 obtain ⟨⟨k0, k1, k2, k3, k4, k5⟩, ⟨f0, f1, f2, f3, f4, f5⟩, hsz⟩ := row6 h1
 obtain ⟨⟨j0, j1, j2, j3, j4, j5⟩, ⟨g0, g1, g2, g3, g4, g5⟩, hsz2⟩ := row6 h2
 obtain ⟨⟨l0, l1, l2, l3, l4, l5⟩, ⟨m0, m1, m2, m3, m4, m5⟩, hsz3⟩ := row6 h3
 have hne : w.heap.size ≠ w1.heap.size + 1 := by omega
 have hne' : w1.heap.size + 1 ≠ w.heap.size := by omega
 have hne2 : w.heap.size ≠ w1.heap.size := by omega
 have hne2' : w1.heap.size ≠ w.heap.size := by omega
 have HA := tZ hA
 have HZ := tZ hZ
 have HEN := tZ hE
 have H1 := tZ h1
 have H2 := tZ h2
 clear h1 h2 h3 hA hZ hE HF2
 refine tZ ?_
 have HRW := tZ (show ∀ W : World, W.heap[w1.heap.size + 1]? = some zRep → ((((((W.setCell ⟨w1.heap.size + 1, 0, none⟩ (.int .i64 er)).setCell ⟨w1.heap.size + 1, 1, none⟩ (.int .i64 at_)).setCell ⟨w1.heap.size + 1, 2, none⟩ (.string ⟨tx.toArray⟩)).setCell ⟨w1.heap.size + 1, 3, none⟩ (.slice bn ln' cn')).setCell ⟨w1.heap.size + 1, 4, none⟩ (.int .i64 kd)).setCell ⟨w1.heap.size + 1, 5, none⟩ (.int .i64 nn)).heap[w1.heap.size + 1]? = some (.cells #[.int .i64 er, .int .i64 at_, .string ⟨tx.toArray⟩, .slice bn ln' cn', .int .i64 kd, .int .i64 nn] 30 (0, 0)) from fun W hW => (setCell_block (setCell_block (setCell_block (setCell_block (setCell_block (setCell_block hW 0 _) 1 _) 2 _) 3 _) 4 _) 5 _).trans rfl)
 have HRQ := tZ (show ∀ W : World, W.heap[w.heap.size]? = some zRep → ((((((W.setCell ⟨w1.heap.size + 1, 0, none⟩ (.int .i64 er)).setCell ⟨w1.heap.size + 1, 1, none⟩ (.int .i64 at_)).setCell ⟨w1.heap.size + 1, 2, none⟩ (.string ⟨tx.toArray⟩)).setCell ⟨w1.heap.size + 1, 3, none⟩ (.slice bn ln' cn')).setCell ⟨w1.heap.size + 1, 4, none⟩ (.int .i64 kd)).setCell ⟨w1.heap.size + 1, 5, none⟩ (.int .i64 nn)).heap[w.heap.size]? = some zRep from fun W hW => by
  rw [Below.heap_setCell _ _ _ _ hne, Below.heap_setCell _ _ _ _ hne, Below.heap_setCell _ _ _ _ hne, Below.heap_setCell _ _ _ _ hne, Below.heap_setCell _ _ _ _ hne, Below.heap_setCell _ _ _ _ hne]
  exact hW)
 have hZ6 := HA.out.b _ 5 (.int .i64 nn) (HA.out.b _ 4 (.int .i64 kd) (HA.out.b _ 3 (.slice bn ln' cn') (HA.out.b _ 2 (.string ⟨tx.toArray⟩) (HA.out.b _ 1 (.int .i64 at_) (HA.out.b _ 0 (.int .i64 er) HZ.out)))))
 have HZ6 := tZ hZ6
 have r6g := HRW.out w2 H2.out
 have r6q := HRQ.out w2 H1.out
 have R6G := tZ r6g
 have R6Q := tZ r6q
 clear hZ6 r6g r6q HRW HRQ
 have HQS := tZ HEN.out.1
 have plain : (¬ (er ≠ 0 ∧ edV vb = true)) → Hid (∀ W, Z W → Q er at_ tx bn ln' cn' kd nn W) := fun h0 => by
  have := HEN.out.2
  rw [if_neg h0] at this
  exact tZ this
 have PL := tZ plain
 clear plain
 by_cases her : er = 0
 ·subst her
  go_wp2
  refine bodyPost_ret (v := .agg #[.int .i64 0, .int .i64 at_, .string ⟨tx.toArray⟩, .slice bn ln' cn', .int .i64 kd, .int .i64 nn]) (by simp [results, Tryz.results8, go_sem, k0, k1, k2, k3, k4, k5, hsz, hne]) (by simp [go_sem]) ?_
  refine ⟨0, at_, tx, bn, ln', cn', kd, nn, rfl, (PL.out (fun h => h.1 rfl)).out _ ?_⟩
  exact HA.out.a _ _ _ (HA.out.a _ _ _ (HA.out.a _ _ _ (HA.out.a _ _ _ (HA.out.a _ _ _ (HA.out.a _ _ _ HZ6.out)))))
 ·have her' : (er == 0) = false := by simpa using her
  by_cases hed : edV vb = true
  ·have hed' : (vb == 1 || (vb == 2 || vb == 3)) = true := hed
   have HVE := tZ (fun W => verbEdits vb W)
   rw [hed'] at HVE
   have hcan := HEN.out.2
   rw [if_pos ⟨her, hed⟩] at hcan
   have HCN := tZ (hcan _ HZ6.out)
   clear hcan hed hed' PL HEN HA HZ
   have HW6 := tZ (Eq.refl ((((((w2.setCell ⟨w1.heap.size + 1, 0, none⟩ (.int .i64 er)).setCell ⟨w1.heap.size + 1, 1, none⟩ (.int .i64 at_)).setCell ⟨w1.heap.size + 1, 2, none⟩ (.string ⟨tx.toArray⟩)).setCell ⟨w1.heap.size + 1, 3, none⟩ (.slice bn ln' cn')).setCell ⟨w1.heap.size + 1, 4, none⟩ (.int .i64 kd)).setCell ⟨w1.heap.size + 1, 5, none⟩ (.int .i64 nn)))
   go_wp2_with (first | (go_at_call 16; refine (HVE.out _).mono ?_; rintro r w3 ⟨rfl, rfl⟩; refine Hid.out ?_))
   obtain ⟨⟨q0, q1, q2, q3, q4, q5⟩, ⟨s0, s1, s2, s3, s4, s5⟩, hszq⟩ := row6 R6Q.out
   obtain ⟨⟨u0, u1, u2, u3, u4, u5⟩, ⟨t0, t1, t2, t3, t4, t5⟩, hszg⟩ := row6 R6G.out
   generalize hw6 : ((((((w2.setCell ⟨w1.heap.size + 1, 0, none⟩ (.int .i64 er)).setCell ⟨w1.heap.size + 1, 1, none⟩ (.int .i64 at_)).setCell ⟨w1.heap.size + 1, 2, none⟩ (.string ⟨tx.toArray⟩)).setCell ⟨w1.heap.size + 1, 3, none⟩ (.slice bn ln' cn')).setCell ⟨w1.heap.size + 1, 4, none⟩ (.int .i64 kd)).setCell ⟨w1.heap.size + 1, 5, none⟩ (.int .i64 nn)) = w6 at *
   clear hw6 HW6 HVE
   refine tZ ?_
   go_wp2_with (first | (go_at_call 17; refine HCN.out.mono ?_; rintro r w3 ⟨⟨x, rfl⟩, hq3, hg3, hqq⟩; refine Hid.out ?_))
   obtain ⟨⟨k0, k1, k2, k3, k4, k5⟩, ⟨f0, f1, f2, f3, f4, f5⟩, hsz⟩ := row6 (hq3.trans R6Q.out)
   obtain ⟨⟨j0, j1, j2, j3, j4, j5⟩, ⟨g0, g1, g2, g3, g4, g5⟩, hsz2⟩ := row6 (hg3.trans R6G.out)
   have HQQ := tZ hqq
   clear hq3 hg3 hqq
   refine tZ ?_
   go_wp2
   refine bodyPost_ret (v := .agg #[.int .i64 er, .int .i64 at_, .string ⟨tx.toArray⟩, .slice bn ln' cn', .int .i64 kd, .int .i64 nn]) (by simp [results, Tryz.results8, go_sem, k0, k1, k2, k3, k4, k5, hsz, hne]) (by simp [go_sem]) ?_
   refine ⟨er, at_, tx, bn, ln', cn', kd, nn, rfl, ?_⟩
   exact HQS.out _ _ _ (HQS.out _ _ _ (HQS.out _ _ _ (HQS.out _ _ _ (HQS.out _ _ _ (HQS.out _ _ _ HQQ.out)))))
  ·have hed' : (vb == 1 || (vb == 2 || vb == 3)) = false := by simpa [edV] using hed
   have HVE := tZ (fun W => verbEdits vb W)
   rw [hed'] at HVE
   have PL2 := tZ ((PL.out (fun h => hed h.2)).out)
   clear hed hed' PL HEN HZ
   go_wp2_with (first | (go_at_call 16; refine (HVE.out _).mono ?_; rintro r w3 ⟨rfl, rfl⟩))
   refine bodyPost_ret (v := .agg #[.int .i64 er, .int .i64 at_, .string ⟨tx.toArray⟩, .slice bn ln' cn', .int .i64 kd, .int .i64 nn]) (by simp [results, Tryz.results8, go_sem, k0, k1, k2, k3, k4, k5, hsz, hne]) (by simp [go_sem]) ?_
   refine ⟨er, at_, tx, bn, ln', cn', kd, nn, rfl, PL2.out _ ?_⟩
   exact HA.out.a _ _ _ (HA.out.a _ _ _ (HA.out.a _ _ _ (HA.out.a _ _ _ (HA.out.a _ _ _ (HA.out.a _ _ _ HZ6.out)))))
end
section
def erRep (er at_ : Int) : Obj := .cells #[.int .i64 er, .int .i64 at_, .string ⟨#[]⟩, .slice none 0 0, .int .i64 0, .int .i64 0] 30 (0, 0)
def RdErr (Q : Int → Int → World → Prop) (e : Nat) (w : World) (r : Ending) (w1 : World) : Prop :=
 Below (w.heap.size + 1) (w.alloc zRep) w1 ∧ ∃ vb er at_ Z, er ≠ 0 ∧ r = .returned (.tuple #[lineV vb none 0 0 0 [] 0 none 0 0, .int .i64 er, .int .i64 at_]) ∧ (∀ W j u, Z W → Z (W.setCell ⟨w.heap.size, j, none⟩ u)) ∧
  Z ((w1.alloc (lineO vb none 0 0 0 [] 0 none 0 0)).alloc (erRep er at_)) ∧ DoEnd e w.heap.size (w1.heap.size + 1) Z vb er (Q er at_)
theorem doErr (e : Nat) (s : By) (w : World) (Q : Int → Int → World → Prop)
  (hR : Calls Tryz.prog 14 #[.string ⟨s.toArray⟩] (w.alloc zRep) (RdErr Q e w)) :
  Calls Tryz.prog 8 #[.pointer (some ⟨e, 0, none⟩), .string ⟨s.toArray⟩] w fun r w' => ∃ er at_, r = .returned (rpV er at_ [] none 0 0 0 0) ∧ Q er at_ w' := by
 have HR := tZ hR
 clear hR
 unfold zRep at HR
 go_enter Tryz.func8, Tryz.ntmps8
 go_wp2_with (first | (go_at_call 14; refine HR.out.mono ?_; rintro r w1 ⟨hb1, vb, er, at_, Z, her, hr, hA, hZ, hE⟩; unfold lineV at hr; subst hr; refine Hid.out ?_))
 have hs1 : w.heap.size < w1.heap.size := by have := hb1.size; simp at this; omega
 have her' : (er == 0) = false := by simpa using her
 have hq1 : w1.heap[w.heap.size]? = some zRep := (hb1.block _ (by omega)).trans (heap_alloc_new w zRep)
 have r6q : ((w1.alloc (lineO vb none 0 0 0 [] 0 none 0 0)).alloc (erRep er at_)).heap[w.heap.size]? = some zRep := by
  rw [Below.heap_alloc _ _ _ (by simp; omega), Below.heap_alloc _ _ _ hs1]
  exact hq1
 have r6g : ((w1.alloc (lineO vb none 0 0 0 [] 0 none 0 0)).alloc (erRep er at_)).heap[w1.heap.size + 1]? = some (erRep er at_) := by
  have := heap_alloc_new (w1.alloc (lineO vb none 0 0 0 [] 0 none 0 0)) (erRep er at_)
  simpa using this
 have r6l : ((w1.alloc (lineO vb none 0 0 0 [] 0 none 0 0)).alloc (erRep er at_)).heap[w1.heap.size]? = some (lineO vb none 0 0 0 [] 0 none 0 0) := by
  rw [Below.heap_alloc _ _ _ (by simp)]
  exact heap_alloc_new w1 _
 have R6Q := tZ r6q
 have R6G := tZ r6g
 have R6L := tZ r6l
 have HA := tZ hA
 have HZ := tZ hZ
 have HEN := tZ hE
 have HQS := tZ hE.1
 obtain ⟨⟨k0, k1, k2, k3, k4, k5⟩, ⟨f0, f1, f2, f3, f4, f5⟩, hsz⟩ := row6 hq1
 have hne : w.heap.size ≠ w1.heap.size + 1 := by omega
 have hne' : w1.heap.size + 1 ≠ w.heap.size := by omega
 have hne2 : w.heap.size ≠ w1.heap.size := by omega
 have hne2' : w1.heap.size ≠ w.heap.size := by omega
 clear hb1 hA hZ hE HR r6q r6g r6l hq1
 refine tZ ?_
 by_cases hed : edV vb = true
 ·have hed' : (vb == 1 || (vb == 2 || vb == 3)) = true := hed
  have HVE := tZ (fun W => verbEdits vb W)
  rw [hed'] at HVE
  have hcan := HEN.out.2
  rw [if_pos ⟨her, hed⟩] at hcan
  have HCN := tZ (hcan _ HZ.out)
  clear hcan hed hed' HEN HA HZ
  go_wp2_with (first | (go_at_call 16; refine (HVE.out _).mono ?_; rintro r w3 ⟨rfl, rfl⟩; refine Hid.out ?_))
  obtain ⟨⟨q0, q1, q2, q3, q4, q5⟩, ⟨s0, s1, s2, s3, s4, s5⟩, hszq⟩ := row6 R6Q.out
  obtain ⟨⟨u0, u1, u2, u3, u4, u5⟩, ⟨t0, t1, t2, t3, t4, t5⟩, hszg⟩ := row6 R6G.out
  have e1 : lineO vb none 0 0 0 [] 0 none 0 0 = .cells #[.int .i64 vb, .slice none 0 0, .int .i64 0, .string ⟨#[]⟩, .int .i64 0, .slice none 0 0] 53 (0, 0) := rfl
  have e2 : erRep er at_ = .cells #[.int .i64 er, .int .i64 at_, .string ⟨#[]⟩, .slice none 0 0, .int .i64 0, .int .i64 0] 30 (0, 0) := rfl
  rw [e1, e2] at q0 q1 q2 q3 q4 q5 s0 s1 s2 s3 s4 s5 hszq u0 u1 u2 u3 u4 u5 t0 t1 t2 t3 t4 t5 hszg R6Q R6G R6L HCN
  generalize hw6 : ((w1.alloc (.cells #[.int .i64 vb, .slice none 0 0, .int .i64 0, .string ⟨#[]⟩, .int .i64 0, .slice none 0 0] 53 (0, 0))).alloc (.cells #[.int .i64 er, .int .i64 at_, .string ⟨#[]⟩, .slice none 0 0, .int .i64 0, .int .i64 0] 30 (0, 0))) = w6 at *
  clear hw6 HVE e1 e2
  refine tZ ?_
  go_wp2_with (first | (go_at_call 17; refine HCN.out.mono ?_; rintro r w3 ⟨⟨x, rfl⟩, hq3, hg3, hqq⟩; refine Hid.out ?_))
  obtain ⟨⟨k0, k1, k2, k3, k4, k5⟩, ⟨f0, f1, f2, f3, f4, f5⟩, hsz⟩ := row6 (hq3.trans R6Q.out)
  obtain ⟨⟨j0, j1, j2, j3, j4, j5⟩, ⟨g0, g1, g2, g3, g4, g5⟩, hsz2⟩ := row6 (hg3.trans R6G.out)
  have HQQ := tZ hqq
  clear hq3 hg3 hqq
  refine tZ ?_
  go_wp2
  refine bodyPost_ret (v := .agg #[.int .i64 er, .int .i64 at_, .string ⟨#[]⟩, .slice none 0 0, .int .i64 0, .int .i64 0]) (by simp [results, Tryz.results8, go_sem, k0, k1, k2, k3, k4, k5, hsz, hne]) (by simp [go_sem]) ?_
  refine ⟨er, at_, rfl, ?_⟩
  exact HQS.out _ _ _ (HQS.out _ _ _ (HQS.out _ _ _ (HQS.out _ _ _ (HQS.out _ _ _ (HQS.out _ _ _ HQQ.out)))))
 ·have hed' : (vb == 1 || (vb == 2 || vb == 3)) = false := by simpa [edV] using hed
  have HVE := tZ (fun W => verbEdits vb W)
  rw [hed'] at HVE
  have hpl := HEN.out.2
  rw [if_neg (fun h => hed h.2)] at hpl
  have PL := tZ hpl
  clear hpl hed hed' HEN
  go_wp2_with (first | (go_at_call 16; refine (HVE.out _).mono ?_; rintro r w3 ⟨rfl, rfl⟩; refine Hid.out ?_))
  obtain ⟨⟨q0, q1, q2, q3, q4, q5⟩, ⟨s0, s1, s2, s3, s4, s5⟩, hszq⟩ := row6 R6Q.out
  obtain ⟨⟨u0, u1, u2, u3, u4, u5⟩, ⟨t0, t1, t2, t3, t4, t5⟩, hszg⟩ := row6 R6G.out
  have e1 : lineO vb none 0 0 0 [] 0 none 0 0 = .cells #[.int .i64 vb, .slice none 0 0, .int .i64 0, .string ⟨#[]⟩, .int .i64 0, .slice none 0 0] 53 (0, 0) := rfl
  have e2 : erRep er at_ = .cells #[.int .i64 er, .int .i64 at_, .string ⟨#[]⟩, .slice none 0 0, .int .i64 0, .int .i64 0] 30 (0, 0) := rfl
  rw [e1, e2] at q0 q1 q2 q3 q4 q5 s0 s1 s2 s3 s4 s5 hszq u0 u1 u2 u3 u4 u5 t0 t1 t2 t3 t4 t5 hszg R6Q R6G R6L HZ
  generalize hw6 : ((w1.alloc (.cells #[.int .i64 vb, .slice none 0 0, .int .i64 0, .string ⟨#[]⟩, .int .i64 0, .slice none 0 0] 53 (0, 0))).alloc (.cells #[.int .i64 er, .int .i64 at_, .string ⟨#[]⟩, .slice none 0 0, .int .i64 0, .int .i64 0] 30 (0, 0))) = w6 at *
  clear hw6 HVE e1 e2
  refine tZ ?_
  go_wp2
  refine bodyPost_ret (v := .agg #[.int .i64 er, .int .i64 at_, .string ⟨#[]⟩, .slice none 0 0, .int .i64 0, .int .i64 0]) (by simp [results, Tryz.results8, go_sem, q0, q1, q2, q3, q4, q5, hszq, hne]) (by simp [go_sem]) ?_
  refine ⟨er, at_, rfl, PL.out _ ?_⟩
  exact HA.out _ _ _ (HA.out _ _ _ (HA.out _ _ _ (HA.out _ _ _ (HA.out _ _ _ (HA.out _ _ _ HZ.out)))))
end
section
def ChPost (e : Nat) (Q : Int → Option Addr → Nat → Nat → World → Prop) (q : Nat) (row : Obj) (r : Ending) (w1 : World) : Prop :=
 ∃ (bn : Option Addr) (ln cn : Nat) (bk : Value) (er : Int), r = .returned (.tuple #[.slice bn ln cn, bk, .int .i64 er]) ∧ w1.heap[q]? = some row ∧
  ((er = 0 ∧ ∃ N cs, bk = .func (.func N) #[] cs ∧ Calls Tryz.prog 37 #[.pointer (some ⟨e, 1, none⟩), .func (.func N) #[] cs] w1 fun r w2 => r = .returned (.tuple #[]) ∧ w2.heap[q]? = some row ∧ Q 0 bn ln cn w2) ∨ (er ≠ 0 ∧ bk = .nilFunc ∧ Q er bn ln cn w1))
theorem editAny (e : Nat) (vb : Int) (an : Option Addr) (ln cn : Nat) (k : Int) (nm : By) (n : Int) (ar : Option Addr) (lr cr : Nat) (w : World) (Q : Int → Option Addr → Nat → Nat → World → Prop) (hQ : ∀ er a l c w1 j u, Q er a l c w1 → Q er a l c (w1.setCell ⟨w.heap.size + 1, j, none⟩ u))
  (hC : ∀ W, Below w.heap.size w W → w.heap.size + 1 < W.heap.size → W.heap[w.heap.size + 1]? = some zRep → Calls Tryz.prog 36 #[.pointer (some ⟨e, 0, none⟩), .agg #[.int .i64 vb, .slice an ln cn, .int .i64 k, .string ⟨nm.toArray⟩, .int .i64 n, .slice ar lr cr]] W (ChPost e Q (w.heap.size + 1) zRep) ) :
  Calls Tryz.prog 24 #[.pointer (some ⟨e, 0, none⟩), .agg #[.int .i64 vb, .slice an ln cn, .int .i64 k, .string ⟨nm.toArray⟩, .int .i64 n, .slice ar lr cr]] w fun r w' => ∃ er bn ln' cn', r = .returned (.agg #[.int .i64 er, .int .i64 0, .string ⟨#[]⟩, .slice bn ln' cn', .int .i64 0, .int .i64 0]) ∧ Q er bn ln' cn' w' := by
 have HQ := tZ hQ
 have HC2 := tZ ((hC ((w.alloc (.cells #[.int .i64 vb, .slice an ln cn, .int .i64 k, .string ⟨nm.toArray⟩, .int .i64 n, .slice ar lr cr] 53)).alloc (.cells #[.int .i64 0, .int .i64 0, .string ⟨#[]⟩, .slice none 0 0, .int .i64 0, .int .i64 0] 30)) (below2 _ _ _) (by simp) (alloc2_new' w _ _ _)).mono (R' := fun r w1 => ∃ (bn : Option Addr) (ln cn : Nat) (bk : Value) (er : Int), r = .returned (.tuple #[.slice bn ln cn, bk, .int .i64 er]) ∧ Hid (w1.heap[w.heap.size + 1]? = some zRep) ∧ Hid ((er = 0 ∧ ∃ N cs, bk = .func (.func N) #[] cs ∧ Calls Tryz.prog 37 #[.pointer (some ⟨e, 1, none⟩), .func (.func N) #[] cs] w1 fun r w2 => r = .returned (.tuple #[]) ∧ w2.heap[w.heap.size + 1]? = some zRep ∧ Q 0 bn ln cn w2) ∨ (er ≠ 0 ∧ bk = .nilFunc ∧ Q er bn ln cn w1))) (by
  rintro r w1 ⟨bn, ln, cn, bk, er, h1, h2, h3⟩
  exact ⟨bn, ln, cn, bk, er, h1, h2, h3⟩))
 clear hC hQ
 go_enter Tryz.func24, Tryz.ntmps24
 go_wp2_with (first | (go_at_call 36; refine HC2.out.mono ?_; rintro r w1 ⟨bn, ln', cn', bk, er, rfl, H1, H2⟩; refine Hid.out ?_))
 refine tZ ?_
 clear HC2
 obtain ⟨⟨k0, k1, k2, k3, k4, k5⟩, ⟨f0, f1, f2, f3, f4, f5⟩, hsz⟩ := row6 H1.out
 rcases H2.out with ⟨rfl, N, cs, rfl, hadd⟩ | ⟨her, rfl, hq⟩
 ·have HAD := tZ hadd
  clear hadd H2
  go_wp2_with (first | (go_at_call 37; refine HAD.out.mono ?_; rintro r w2 ⟨rfl, h2, hq2⟩; refine Hid.out ?_))
  obtain ⟨⟨m0, m1, m2, m3, m4, m5⟩, ⟨n0, n1, n2, n3, n4, n5⟩, hsz2⟩ := row6 h2
  have HQ2 := tZ hq2
  clear h2 hq2 HAD
  refine tZ ?_
  go_wp2
  refine bodyPost_ret (v := .agg #[.int .i64 0, .int .i64 0, .string ⟨#[]⟩, .slice bn ln' cn', .int .i64 0, .int .i64 0]) (by simp [results, Tryz.results24, go_sem, m0, m1, m2, m3, m4, m5, hsz2]) rfl ?_
  exact ⟨0, bn, ln', cn', rfl, HQ.out _ _ _ _ _ _ _ (HQ.out _ _ _ _ _ _ _ (HQ.out _ _ _ _ _ _ _ (HQ.out _ _ _ _ _ _ _ (HQ.out _ _ _ _ _ _ _ (HQ.out _ _ _ _ _ _ _ HQ2.out)))))⟩
 ·have her' : (er == 0) = false := by simpa using her
  have HQ2 := tZ hq
  clear hq H2 her
  go_wp2
  refine bodyPost_ret (v := .agg #[.int .i64 er, .int .i64 0, .string ⟨#[]⟩, .slice bn ln' cn', .int .i64 0, .int .i64 0]) (by simp [results, Tryz.results24, go_sem, k0, k1, k2, k3, k4, k5, hsz]) rfl ?_
  exact ⟨er, bn, ln', cn', rfl, HQ.out _ _ _ _ _ _ _ (HQ.out _ _ _ _ _ _ _ (HQ.out _ _ _ _ _ _ _ (HQ.out _ _ _ _ _ _ _ (HQ.out _ _ _ _ _ _ _ (HQ.out _ _ _ _ _ _ _ HQ2.out)))))⟩
def ChQ (Q : Ending → World → Prop) (r : Ending) (w' : World) : Prop := ∃ (bn : Option Addr) (ln cn : Nat) (bk : Value) (er : Int), r = .returned (.tuple #[.slice bn ln cn, bk, .int .i64 er]) ∧ Q r w'
theorem changeSetQ (e gn cn : Nat) (x : By) (k : Int) (nm : By) (n : Int) (ar : Option Addr) (lr cr : Nat) (w : World) (Q : Ending → World → Prop) (hc : w.cell? ⟨gn, 0, none⟩ = some (.string ⟨x.toArray⟩)) (hg : gn < w.heap.size)
  (hS : ∀ W, Below w.heap.size w W → Calls Tryz.prog 54 #[.pointer (some ⟨e, 0, none⟩), .string ⟨x.toArray⟩, .agg #[.int .i64 k, .string ⟨nm.toArray⟩, .int .i64 n, .slice ar lr cr]] W (ChQ Q)) :
  Calls Tryz.prog 36 #[.pointer (some ⟨e, 0, none⟩), .agg #[.int .i64 1, .slice (some ⟨gn, 0, none⟩) 1 cn, .int .i64 k, .string ⟨nm.toArray⟩, .int .i64 n, .slice ar lr cr]] w (ChQ Q) := by
 have HS2 := tZ (hS (w.alloc (.cells #[.int .i64 1, .slice (some ⟨gn, 0, none⟩) 1 cn, .int .i64 k, .string ⟨nm.toArray⟩, .int .i64 n, .slice ar lr cr] 53)).drew (bZ _).drew)
 clear hS
 go_enter Tryz.func36, Tryz.ntmps36
 go_wp2_with fail
 go_region_with (first | (go_at_call 54; refine HS2.out.mono ?_; rintro r w3 ⟨bn, ln', cn', bk, er, rfl, hq⟩; have C1 := tZ hq; clear hq))
 all_goals go_wp2
 all_goals refine bodyPost_ret (v := .tuple #[.slice bn ln' cn', bk, .int .i64 er]) (by simp [results, Tryz.results36, go_sem]) (by simp [go_sem]) ?_
 all_goals exact ⟨bn, ln', cn', bk, er, rfl, C1.out⟩
theorem changeDelQ (e gn cn : Nat) (x : By) (k : Int) (nm : By) (n : Int) (ar : Option Addr) (lr cr : Nat) (w : World) (Q : Ending → World → Prop) (hc : w.cell? ⟨gn, 0, none⟩ = some (.string ⟨x.toArray⟩)) (hg : gn < w.heap.size)
  (hS : ∀ W, Below w.heap.size w W → Calls Tryz.prog 55 #[.pointer (some ⟨e, 0, none⟩), .string ⟨x.toArray⟩] W (ChQ Q)) :
  Calls Tryz.prog 36 #[.pointer (some ⟨e, 0, none⟩), .agg #[.int .i64 2, .slice (some ⟨gn, 0, none⟩) 1 cn, .int .i64 k, .string ⟨nm.toArray⟩, .int .i64 n, .slice ar lr cr]] w (ChQ Q) := by
 have HS2 := tZ (hS (w.alloc (.cells #[.int .i64 2, .slice (some ⟨gn, 0, none⟩) 1 cn, .int .i64 k, .string ⟨nm.toArray⟩, .int .i64 n, .slice ar lr cr] 53)).drew (bZ _).drew)
 clear hS
 go_enter Tryz.func36, Tryz.ntmps36
 go_wp2_with fail
 go_region_with (first | (go_at_call 55; refine HS2.out.mono ?_; rintro r w3 ⟨bn, ln', cn', bk, er, rfl, hq⟩; have C1 := tZ hq; clear hq))
 all_goals go_wp2
 all_goals refine bodyPost_ret (v := .tuple #[.slice bn ln' cn', bk, .int .i64 er]) (by simp [results, Tryz.results36, go_sem]) (by simp [go_sem]) ?_
 all_goals exact ⟨bn, ln', cn', bk, er, rfl, C1.out⟩
theorem changeRenQ (e gn cn : Nat) (x y : By) (k : Int) (nm : By) (n : Int) (ar : Option Addr) (lr cr : Nat) (w : World) (Q : Ending → World → Prop) (hc : w.cell? ⟨gn, 0, none⟩ = some (.string ⟨x.toArray⟩)) (hc1 : w.cell? ⟨gn, 1, none⟩ = some (.string ⟨y.toArray⟩)) (hg : gn < w.heap.size)
  (hS : ∀ W, Below w.heap.size w W → Calls Tryz.prog 56 #[.pointer (some ⟨e, 0, none⟩), .string ⟨x.toArray⟩, .string ⟨y.toArray⟩] W (ChQ Q)) :
  Calls Tryz.prog 36 #[.pointer (some ⟨e, 0, none⟩), .agg #[.int .i64 3, .slice (some ⟨gn, 0, none⟩) 2 cn, .int .i64 k, .string ⟨nm.toArray⟩, .int .i64 n, .slice ar lr cr]] w (ChQ Q) := by
 have HS2 := tZ (hS (w.alloc (.cells #[.int .i64 3, .slice (some ⟨gn, 0, none⟩) 2 cn, .int .i64 k, .string ⟨nm.toArray⟩, .int .i64 n, .slice ar lr cr] 53)).drew (bZ _).drew)
 clear hS
 go_enter Tryz.func36, Tryz.ntmps36
 go_wp2_with fail
 go_region_with (first | (go_at_call 56; refine HS2.out.mono ?_; rintro r w3 ⟨bn, ln', cn', bk, er, rfl, hq⟩; have C1 := tZ hq; clear hq))
 all_goals go_wp2
 all_goals refine bodyPost_ret (v := .tuple #[.slice bn ln' cn', bk, .int .i64 er]) (by simp [results, Tryz.results36, go_sem]) (by simp [go_sem]) ?_
 all_goals exact ⟨bn, ln', cn', bk, er, rfl, C1.out⟩
end
end Go.Proofs.YtihgojcfpnhelabGreatDoor
