import Derived.Test.YtihgojcfpnhelaaGreatDoorG2Ie
import Derived.Test.YtihgojcfpnhelaaGreatDoorG2Qe
set_option maxRecDepth 100000
set_option maxHeartbeats 4000000
set_option linter.unusedVariables false
set_option linter.unusedSimpArgs false
namespace Go.Proofs.YtihgojcfpnhelaaGreatDoor
open Go.RowKit
section
theorem verbEdits (vb : Int) (w : World) : Calls Tryz.prog 48 #[.int .i64 vb] w fun r w' => r = .returned (.bool (vb == 1 || (vb == 2 || vb == 3))) ∧ w' = w := by
 by_cases h1 : vb = 1
 ·subst h1
  go_enter Tryz.func48, Tryz.ntmps48
  go_wp2
  go_ret
  simp
 ·have b1 : (vb == 1) = false := by simpa using h1
  by_cases h2 : vb = 2
  ·subst h2
   go_enter Tryz.func48, Tryz.ntmps48
   go_wp2
   go_ret
   simp
  ·have b2 : (vb == 2) = false := by simpa using h2
   go_enter Tryz.func48, Tryz.ntmps48
   go_wp2
   go_ret
   simp [b1, b2]
structure Aside (Z : World → Prop) (q g : Nat) : Prop where
 a : ∀ W j u, Z W → Z (W.setCell ⟨q, j, none⟩ u)
 b : ∀ W j u, Z W → Z (W.setCell ⟨g, j, none⟩ u)
def edV (vb : Int) : Bool := vb == 1 || (vb == 2 || vb == 3)
def DoEnd (e q g : Nat) (Z : World → Prop) (vb er : Int) (Q : World → Prop) : Prop :=
 (∀ W j u, Q W → Q (W.setCell ⟨q, j, none⟩ u)) ∧ if er ≠ 0 ∧ edV vb = true then ∀ W, Z W → Calls Tryz.prog 49 #[.pointer (some ⟨e, 1, none⟩)] W fun r w' => (∃ x, r = .returned (.int .i64 x)) ∧ w'.heap[q]? = W.heap[q]? ∧ w'.heap[g]? = W.heap[g]? ∧ Q w' else ∀ W, Z W → Q W
def FolAny (Q : Int → Int → By → Option Addr → Nat → Nat → Int → Int → World → Prop) (e q g vb_ : Nat) (lo : Obj) (vb : Int) (r : Ending) (w2 : World) : Prop :=
 ∃ er at_ tx bn ln cn kd nn Z, r = .returned (rpV er at_ tx bn ln cn kd nn) ∧ w2.heap[q]? = some zRep ∧ w2.heap[g]? = some zRep ∧ w2.heap[vb_]? = some lo ∧ Aside Z q g ∧ Z w2 ∧ DoEnd e q g Z vb er (Q er at_ tx bn ln cn kd nn)
def RdAny (Q : Int → Int → By → Option Addr → Nat → Nat → Int → Int → World → Prop) (e : Nat) (w : World) (r : Ending) (w1 : World) : Prop :=
 Below (w.heap.size + 1) (w.alloc zRep) w1 ∧ ∃ vb an ln cn k nm n ar lr cr, r = .returned (.tuple #[lineV vb an ln cn k nm n ar lr cr, .int .i64 0, .int .i64 0]) ∧
  Calls Tryz.prog 47 #[.pointer (some ⟨e, 0, none⟩), lineV vb an ln cn k nm n ar lr cr] ((w1.alloc (lineO vb an ln cn k nm n ar lr cr)).alloc zRep) (FolAny Q e w.heap.size (w1.heap.size + 1) w1.heap.size (lineO vb an ln cn k nm n ar lr cr) vb)
theorem doFol (e : Nat) (s : By) (w : World) (Q : Int → Int → By → Option Addr → Nat → Nat → Int → Int → World → Prop)
  (hR : Calls Tryz.prog 46 #[.string ⟨s.toArray⟩] (w.alloc zRep) (RdAny Q e w)) :
  Calls Tryz.prog 20 #[.pointer (some ⟨e, 0, none⟩), .string ⟨s.toArray⟩] w fun r w' => ∃ er at_ tx bn ln cn kd nn, r = .returned (rpV er at_ tx bn ln cn kd nn) ∧ Q er at_ tx bn ln cn kd nn w' := by
 have HR := toHid hR
 clear hR
 unfold zRep at HR
 go_enter Tryz.func20, Tryz.ntmps20
 go_wp2_with (first | (go_at_call 46; refine HR.out.mono ?_; rintro r w1 ⟨hb1, vb, an, ln, cn, k, nm, n, ar, lr, cr, hr, hf⟩; unfold lineV at hr; subst hr; refine Hid.out ?_))
 have hs1 : w.heap.size < w1.heap.size := by have := hb1.size; simp at this; omega
 have HF := toHid hf
 unfold lineV zRep at HF
 have HF2 := toHid (show Calls Tryz.prog 47 #[.pointer (some ⟨e, 0, none⟩), .agg #[.int .i64 vb, .slice an ln cn, .int .i64 k, .string ⟨nm.toArray⟩, .int .i64 n, .slice ar lr cr]] ((w1.alloc (.cells #[.int .i64 vb, .slice an ln cn, .int .i64 k, .string ⟨nm.toArray⟩, .int .i64 n, .slice ar lr cr] 97 (0, 0))).alloc (.cells #[.int .i64 0, .int .i64 0, .string ⟨#[]⟩, .slice none 0 0, .int .i64 0, .int .i64 0] 39 (0, 0))) (FolAny Q e w.heap.size (w1.heap.size + 1) w1.heap.size (lineO vb an ln cn k nm n ar lr cr) vb) from HF.out)
 clear hb1 hf HR HF
 refine toHid ?_
 go_wp2_with (first | (go_at_call 47; refine HF2.out.mono ?_; rintro r w2 ⟨er, at_, tx, bn, ln', cn', kd, nn, Z, hr, h1, h2, h3, hA, hZ, hE⟩; unfold rpV at hr; subst hr; refine Hid.out ?_))
 obtain ⟨⟨k0, k1, k2, k3, k4, k5⟩, ⟨f0, f1, f2, f3, f4, f5⟩, hsz⟩ := row6 h1
 obtain ⟨⟨j0, j1, j2, j3, j4, j5⟩, ⟨g0, g1, g2, g3, g4, g5⟩, hsz2⟩ := row6 h2
 obtain ⟨⟨l0, l1, l2, l3, l4, l5⟩, ⟨m0, m1, m2, m3, m4, m5⟩, hsz3⟩ := row6 h3
 have hne : w.heap.size ≠ w1.heap.size + 1 := by omega
 have hne' : w1.heap.size + 1 ≠ w.heap.size := by omega
 have hne2 : w.heap.size ≠ w1.heap.size := by omega
 have hne2' : w1.heap.size ≠ w.heap.size := by omega
 have HA := toHid hA
 have HZ := toHid hZ
 have HEN := toHid hE
 have H1 := toHid h1
 have H2 := toHid h2
 clear h1 h2 h3 hA hZ hE HF2
 refine toHid ?_
 have HRW := toHid (show ∀ W : World, W.heap[w1.heap.size + 1]? = some zRep → ((((((W.setCell ⟨w1.heap.size + 1, 0, none⟩ (.int .i64 er)).setCell ⟨w1.heap.size + 1, 1, none⟩ (.int .i64 at_)).setCell ⟨w1.heap.size + 1, 2, none⟩ (.string ⟨tx.toArray⟩)).setCell ⟨w1.heap.size + 1, 3, none⟩ (.slice bn ln' cn')).setCell ⟨w1.heap.size + 1, 4, none⟩ (.int .i64 kd)).setCell ⟨w1.heap.size + 1, 5, none⟩ (.int .i64 nn)).heap[w1.heap.size + 1]? = some (.cells #[.int .i64 er, .int .i64 at_, .string ⟨tx.toArray⟩, .slice bn ln' cn', .int .i64 kd, .int .i64 nn] 39 (0, 0)) from fun W hW => (setCell_block (setCell_block (setCell_block (setCell_block (setCell_block (setCell_block hW 0 _) 1 _) 2 _) 3 _) 4 _) 5 _).trans rfl)
 have HRQ := toHid (show ∀ W : World, W.heap[w.heap.size]? = some zRep → ((((((W.setCell ⟨w1.heap.size + 1, 0, none⟩ (.int .i64 er)).setCell ⟨w1.heap.size + 1, 1, none⟩ (.int .i64 at_)).setCell ⟨w1.heap.size + 1, 2, none⟩ (.string ⟨tx.toArray⟩)).setCell ⟨w1.heap.size + 1, 3, none⟩ (.slice bn ln' cn')).setCell ⟨w1.heap.size + 1, 4, none⟩ (.int .i64 kd)).setCell ⟨w1.heap.size + 1, 5, none⟩ (.int .i64 nn)).heap[w.heap.size]? = some zRep from fun W hW => by
  rw [Below.heap_setCell _ _ _ _ hne, Below.heap_setCell _ _ _ _ hne, Below.heap_setCell _ _ _ _ hne, Below.heap_setCell _ _ _ _ hne, Below.heap_setCell _ _ _ _ hne, Below.heap_setCell _ _ _ _ hne]
  exact hW)
 have hZ6 := HA.out.b _ 5 (.int .i64 nn) (HA.out.b _ 4 (.int .i64 kd) (HA.out.b _ 3 (.slice bn ln' cn') (HA.out.b _ 2 (.string ⟨tx.toArray⟩) (HA.out.b _ 1 (.int .i64 at_) (HA.out.b _ 0 (.int .i64 er) HZ.out)))))
 have HZ6 := toHid hZ6
 have r6g := HRW.out w2 H2.out
 have r6q := HRQ.out w2 H1.out
 have R6G := toHid r6g
 have R6Q := toHid r6q
 clear hZ6 r6g r6q HRW HRQ
 have HQS := toHid HEN.out.1
 have plain : (¬ (er ≠ 0 ∧ edV vb = true)) → Hid (∀ W, Z W → Q er at_ tx bn ln' cn' kd nn W) := fun h0 => by
  have := HEN.out.2
  rw [if_neg h0] at this
  exact toHid this
 have PL := toHid plain
 clear plain
 by_cases her : er = 0
 ·subst her
  go_wp2
  refine bodyPost_ret (v := .agg #[.int .i64 0, .int .i64 at_, .string ⟨tx.toArray⟩, .slice bn ln' cn', .int .i64 kd, .int .i64 nn]) (by simp [results, Tryz.results20, go_sem, k0, k1, k2, k3, k4, k5, hsz, hne]) (by simp [go_sem]) ?_
  refine ⟨0, at_, tx, bn, ln', cn', kd, nn, rfl, (PL.out (fun h => h.1 rfl)).out _ ?_⟩
  exact HA.out.a _ _ _ (HA.out.a _ _ _ (HA.out.a _ _ _ (HA.out.a _ _ _ (HA.out.a _ _ _ (HA.out.a _ _ _ HZ6.out)))))
 ·have her' : (er == 0) = false := by simpa using her
  by_cases hed : edV vb = true
  ·have hed' : (vb == 1 || (vb == 2 || vb == 3)) = true := hed
   have HVE := toHid (fun W => verbEdits vb W)
   rw [hed'] at HVE
   have hcan := HEN.out.2
   rw [if_pos ⟨her, hed⟩] at hcan
   have HCN := toHid (hcan _ HZ6.out)
   clear hcan hed hed' PL HEN HA HZ
   have HW6 := toHid (Eq.refl ((((((w2.setCell ⟨w1.heap.size + 1, 0, none⟩ (.int .i64 er)).setCell ⟨w1.heap.size + 1, 1, none⟩ (.int .i64 at_)).setCell ⟨w1.heap.size + 1, 2, none⟩ (.string ⟨tx.toArray⟩)).setCell ⟨w1.heap.size + 1, 3, none⟩ (.slice bn ln' cn')).setCell ⟨w1.heap.size + 1, 4, none⟩ (.int .i64 kd)).setCell ⟨w1.heap.size + 1, 5, none⟩ (.int .i64 nn)))
   go_wp2_with (first | (go_at_call 48; refine (HVE.out _).mono ?_; rintro r w3 ⟨rfl, rfl⟩; refine Hid.out ?_))
   obtain ⟨⟨q0, q1, q2, q3, q4, q5⟩, ⟨s0, s1, s2, s3, s4, s5⟩, hszq⟩ := row6 R6Q.out
   obtain ⟨⟨u0, u1, u2, u3, u4, u5⟩, ⟨t0, t1, t2, t3, t4, t5⟩, hszg⟩ := row6 R6G.out
   generalize hw6 : ((((((w2.setCell ⟨w1.heap.size + 1, 0, none⟩ (.int .i64 er)).setCell ⟨w1.heap.size + 1, 1, none⟩ (.int .i64 at_)).setCell ⟨w1.heap.size + 1, 2, none⟩ (.string ⟨tx.toArray⟩)).setCell ⟨w1.heap.size + 1, 3, none⟩ (.slice bn ln' cn')).setCell ⟨w1.heap.size + 1, 4, none⟩ (.int .i64 kd)).setCell ⟨w1.heap.size + 1, 5, none⟩ (.int .i64 nn)) = w6 at *
   clear hw6 HW6 HVE
   refine toHid ?_
   go_wp2_with (first | (go_at_call 49; refine HCN.out.mono ?_; rintro r w3 ⟨⟨x, rfl⟩, hq3, hg3, hqq⟩; refine Hid.out ?_))
   obtain ⟨⟨k0, k1, k2, k3, k4, k5⟩, ⟨f0, f1, f2, f3, f4, f5⟩, hsz⟩ := row6 (hq3.trans R6Q.out)
   obtain ⟨⟨j0, j1, j2, j3, j4, j5⟩, ⟨g0, g1, g2, g3, g4, g5⟩, hsz2⟩ := row6 (hg3.trans R6G.out)
   have HQQ := toHid hqq
   clear hq3 hg3 hqq
   refine toHid ?_
   go_wp2
   refine bodyPost_ret (v := .agg #[.int .i64 er, .int .i64 at_, .string ⟨tx.toArray⟩, .slice bn ln' cn', .int .i64 kd, .int .i64 nn]) (by simp [results, Tryz.results20, go_sem, k0, k1, k2, k3, k4, k5, hsz, hne]) (by simp [go_sem]) ?_
   refine ⟨er, at_, tx, bn, ln', cn', kd, nn, rfl, ?_⟩
   exact HQS.out _ _ _ (HQS.out _ _ _ (HQS.out _ _ _ (HQS.out _ _ _ (HQS.out _ _ _ (HQS.out _ _ _ HQQ.out)))))
  ·have hed' : (vb == 1 || (vb == 2 || vb == 3)) = false := by simpa [edV] using hed
   have HVE := toHid (fun W => verbEdits vb W)
   rw [hed'] at HVE
   have PL2 := toHid ((PL.out (fun h => hed h.2)).out)
   clear hed hed' PL HEN HZ
   go_wp2_with (first | (go_at_call 48; refine (HVE.out _).mono ?_; rintro r w3 ⟨rfl, rfl⟩))
   refine bodyPost_ret (v := .agg #[.int .i64 er, .int .i64 at_, .string ⟨tx.toArray⟩, .slice bn ln' cn', .int .i64 kd, .int .i64 nn]) (by simp [results, Tryz.results20, go_sem, k0, k1, k2, k3, k4, k5, hsz, hne]) (by simp [go_sem]) ?_
   refine ⟨er, at_, tx, bn, ln', cn', kd, nn, rfl, PL2.out _ ?_⟩
   exact HA.out.a _ _ _ (HA.out.a _ _ _ (HA.out.a _ _ _ (HA.out.a _ _ _ (HA.out.a _ _ _ (HA.out.a _ _ _ HZ6.out)))))
end
section
def erRep (er at_ : Int) : Obj := .cells #[.int .i64 er, .int .i64 at_, .string ⟨#[]⟩, .slice none 0 0, .int .i64 0, .int .i64 0] 39 (0, 0)
def RdErr (Q : Int → Int → World → Prop) (e : Nat) (w : World) (r : Ending) (w1 : World) : Prop :=
 Below (w.heap.size + 1) (w.alloc zRep) w1 ∧ ∃ vb er at_ Z, er ≠ 0 ∧ r = .returned (.tuple #[lineV vb none 0 0 0 [] 0 none 0 0, .int .i64 er, .int .i64 at_]) ∧ (∀ W j u, Z W → Z (W.setCell ⟨w.heap.size, j, none⟩ u)) ∧
  Z ((w1.alloc (lineO vb none 0 0 0 [] 0 none 0 0)).alloc (erRep er at_)) ∧ DoEnd e w.heap.size (w1.heap.size + 1) Z vb er (Q er at_)
theorem doErr (e : Nat) (s : By) (w : World) (Q : Int → Int → World → Prop)
  (hR : Calls Tryz.prog 46 #[.string ⟨s.toArray⟩] (w.alloc zRep) (RdErr Q e w)) :
  Calls Tryz.prog 20 #[.pointer (some ⟨e, 0, none⟩), .string ⟨s.toArray⟩] w fun r w' => ∃ er at_, r = .returned (rpV er at_ [] none 0 0 0 0) ∧ Q er at_ w' := by
 have HR := toHid hR
 clear hR
 unfold zRep at HR
 go_enter Tryz.func20, Tryz.ntmps20
 go_wp2_with (first | (go_at_call 46; refine HR.out.mono ?_; rintro r w1 ⟨hb1, vb, er, at_, Z, her, hr, hA, hZ, hE⟩; unfold lineV at hr; subst hr; refine Hid.out ?_))
 have hs1 : w.heap.size < w1.heap.size := by have := hb1.size; simp at this; omega
 have her' : (er == 0) = false := by simpa using her
 have hq1 : w1.heap[w.heap.size]? = some zRep := (hb1.block _ (by omega)).trans (heap_alloc_new w zRep)
 have r6q : ((w1.alloc (lineO vb none 0 0 0 [] 0 none 0 0)).alloc (erRep er at_)).heap[w.heap.size]? = some zRep := by
  rw [Below.heap_alloc _ _ _ (by simp; omega), Below.heap_alloc _ _ _ hs1]
  exact hq1
 have r6g : ((w1.alloc (lineO vb none 0 0 0 [] 0 none 0 0)).alloc (erRep er at_)).heap[w1.heap.size + 1]? = some (erRep er at_) := by
  have := heap_alloc_new (w1.alloc (lineO vb none 0 0 0 [] 0 none 0 0)) (erRep er at_)
  simpa using this
 have r6l : ((w1.alloc (lineO vb none 0 0 0 [] 0 none 0 0)).alloc (erRep er at_)).heap[w1.heap.size]? = some (lineO vb none 0 0 0 [] 0 none 0 0) := by
  rw [Below.heap_alloc _ _ _ (by simp)]
  exact heap_alloc_new w1 _
 have R6Q := toHid r6q
 have R6G := toHid r6g
 have R6L := toHid r6l
 have HA := toHid hA
 have HZ := toHid hZ
 have HEN := toHid hE
 have HQS := toHid hE.1
 obtain ⟨⟨k0, k1, k2, k3, k4, k5⟩, ⟨f0, f1, f2, f3, f4, f5⟩, hsz⟩ := row6 hq1
 have hne : w.heap.size ≠ w1.heap.size + 1 := by omega
 have hne' : w1.heap.size + 1 ≠ w.heap.size := by omega
 have hne2 : w.heap.size ≠ w1.heap.size := by omega
 have hne2' : w1.heap.size ≠ w.heap.size := by omega
 clear hb1 hA hZ hE HR r6q r6g r6l hq1
 refine toHid ?_
 by_cases hed : edV vb = true
 ·have hed' : (vb == 1 || (vb == 2 || vb == 3)) = true := hed
  have HVE := toHid (fun W => verbEdits vb W)
  rw [hed'] at HVE
  have hcan := HEN.out.2
  rw [if_pos ⟨her, hed⟩] at hcan
  have HCN := toHid (hcan _ HZ.out)
  clear hcan hed hed' HEN HA HZ
  go_wp2_with (first | (go_at_call 48; refine (HVE.out _).mono ?_; rintro r w3 ⟨rfl, rfl⟩; refine Hid.out ?_))
  obtain ⟨⟨q0, q1, q2, q3, q4, q5⟩, ⟨s0, s1, s2, s3, s4, s5⟩, hszq⟩ := row6 R6Q.out
  obtain ⟨⟨u0, u1, u2, u3, u4, u5⟩, ⟨t0, t1, t2, t3, t4, t5⟩, hszg⟩ := row6 R6G.out
  have e1 : lineO vb none 0 0 0 [] 0 none 0 0 = .cells #[.int .i64 vb, .slice none 0 0, .int .i64 0, .string ⟨#[]⟩, .int .i64 0, .slice none 0 0] 97 (0, 0) := rfl
  have e2 : erRep er at_ = .cells #[.int .i64 er, .int .i64 at_, .string ⟨#[]⟩, .slice none 0 0, .int .i64 0, .int .i64 0] 39 (0, 0) := rfl
  rw [e1, e2] at q0 q1 q2 q3 q4 q5 s0 s1 s2 s3 s4 s5 hszq u0 u1 u2 u3 u4 u5 t0 t1 t2 t3 t4 t5 hszg R6Q R6G R6L HCN
  generalize hw6 : ((w1.alloc (.cells #[.int .i64 vb, .slice none 0 0, .int .i64 0, .string ⟨#[]⟩, .int .i64 0, .slice none 0 0] 97 (0, 0))).alloc (.cells #[.int .i64 er, .int .i64 at_, .string ⟨#[]⟩, .slice none 0 0, .int .i64 0, .int .i64 0] 39 (0, 0))) = w6 at *
  clear hw6 HVE e1 e2
  refine toHid ?_
  go_wp2_with (first | (go_at_call 49; refine HCN.out.mono ?_; rintro r w3 ⟨⟨x, rfl⟩, hq3, hg3, hqq⟩; refine Hid.out ?_))
  obtain ⟨⟨k0, k1, k2, k3, k4, k5⟩, ⟨f0, f1, f2, f3, f4, f5⟩, hsz⟩ := row6 (hq3.trans R6Q.out)
  obtain ⟨⟨j0, j1, j2, j3, j4, j5⟩, ⟨g0, g1, g2, g3, g4, g5⟩, hsz2⟩ := row6 (hg3.trans R6G.out)
  have HQQ := toHid hqq
  clear hq3 hg3 hqq
  refine toHid ?_
  go_wp2
  refine bodyPost_ret (v := .agg #[.int .i64 er, .int .i64 at_, .string ⟨#[]⟩, .slice none 0 0, .int .i64 0, .int .i64 0]) (by simp [results, Tryz.results20, go_sem, k0, k1, k2, k3, k4, k5, hsz, hne]) (by simp [go_sem]) ?_
  refine ⟨er, at_, rfl, ?_⟩
  exact HQS.out _ _ _ (HQS.out _ _ _ (HQS.out _ _ _ (HQS.out _ _ _ (HQS.out _ _ _ (HQS.out _ _ _ HQQ.out)))))
 ·have hed' : (vb == 1 || (vb == 2 || vb == 3)) = false := by simpa [edV] using hed
  have HVE := toHid (fun W => verbEdits vb W)
  rw [hed'] at HVE
  have hpl := HEN.out.2
  rw [if_neg (fun h => hed h.2)] at hpl
  have PL := toHid hpl
  clear hpl hed hed' HEN
  go_wp2_with (first | (go_at_call 48; refine (HVE.out _).mono ?_; rintro r w3 ⟨rfl, rfl⟩; refine Hid.out ?_))
  obtain ⟨⟨q0, q1, q2, q3, q4, q5⟩, ⟨s0, s1, s2, s3, s4, s5⟩, hszq⟩ := row6 R6Q.out
  obtain ⟨⟨u0, u1, u2, u3, u4, u5⟩, ⟨t0, t1, t2, t3, t4, t5⟩, hszg⟩ := row6 R6G.out
  have e1 : lineO vb none 0 0 0 [] 0 none 0 0 = .cells #[.int .i64 vb, .slice none 0 0, .int .i64 0, .string ⟨#[]⟩, .int .i64 0, .slice none 0 0] 97 (0, 0) := rfl
  have e2 : erRep er at_ = .cells #[.int .i64 er, .int .i64 at_, .string ⟨#[]⟩, .slice none 0 0, .int .i64 0, .int .i64 0] 39 (0, 0) := rfl
  rw [e1, e2] at q0 q1 q2 q3 q4 q5 s0 s1 s2 s3 s4 s5 hszq u0 u1 u2 u3 u4 u5 t0 t1 t2 t3 t4 t5 hszg R6Q R6G R6L HZ
  generalize hw6 : ((w1.alloc (.cells #[.int .i64 vb, .slice none 0 0, .int .i64 0, .string ⟨#[]⟩, .int .i64 0, .slice none 0 0] 97 (0, 0))).alloc (.cells #[.int .i64 er, .int .i64 at_, .string ⟨#[]⟩, .slice none 0 0, .int .i64 0, .int .i64 0] 39 (0, 0))) = w6 at *
  clear hw6 HVE e1 e2
  refine toHid ?_
  go_wp2
  refine bodyPost_ret (v := .agg #[.int .i64 er, .int .i64 at_, .string ⟨#[]⟩, .slice none 0 0, .int .i64 0, .int .i64 0]) (by simp [results, Tryz.results20, go_sem, q0, q1, q2, q3, q4, q5, hszq, hne]) (by simp [go_sem]) ?_
  refine ⟨er, at_, rfl, PL.out _ ?_⟩
  exact HA.out _ _ _ (HA.out _ _ _ (HA.out _ _ _ (HA.out _ _ _ (HA.out _ _ _ (HA.out _ _ _ HZ.out)))))
end
end Go.Proofs.YtihgojcfpnhelaaGreatDoor
