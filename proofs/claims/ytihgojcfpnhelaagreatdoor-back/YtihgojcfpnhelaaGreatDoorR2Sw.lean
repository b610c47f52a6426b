import Derived.Test.YtihgojcfpnhelaaGreatDoorR2Sk
import Derived.Lib.SliceRun
import Derived.Test.YtihgojcfpnhelaaGreatDoorR2Sc
import Derived.Test.YtihgojcfpnhelaaGreatDoorR2Rf
import Derived.Test.YtihgojcfpnhelaaGreatDoorR2Kd
set_option maxRecDepth 100000
set_option maxHeartbeats 4000000
set_option linter.unusedVariables false
set_option linter.unusedSimpArgs false
namespace Go.Proofs.YtihgojcfpnhelaaGreatDoor
open Go.RowKit
section
theorem own_setNe {w : World} {base z n q j : Nat} {e : TypeId} {v u : Value} {xs : List Value} (h : w.ownsRow base e z v n xs) (hq : v.ownBlock ≠ some q) : (w.setCell ⟨q, j, none⟩ u).ownsRow base e z v n xs := by
 obtain ⟨h1, h2⟩ := h
 refine ⟨h1, h2.imp id ?_⟩
 rintro ⟨g, cap, cur, rfl, h4, h5, h6⟩
 exact ⟨g, cap, cur, rfl, h4, (Below.heap_setCell _ _ _ _ (by show g ≠ q; intro e; exact hq (by rw [e]; rfl))).trans h5, h6⟩
theorem addKeep (e : Nat) (fv : Fn) (cs : Array Value) (w : World) (Q : Ending → World → Prop) (h4 : w.cell? ⟨e, 4, none⟩ = some (.bool false))
  (hK : Calls Tryz.prog 100 #[.pointer (some ⟨e, 1, none⟩), .func fv #[] cs] w fun r w' => r = .returned (.tuple #[]) ∧ Q r w') :
  Calls Tryz.prog 99 #[.pointer (some ⟨e, 1, none⟩), .func fv #[] cs] w fun r w' => r = .returned (.tuple #[]) ∧ Q r w' := by
 have HK := tZ hK
 clear hK
 go_enter Tryz.func99, Tryz.ntmps99
 go_wp2_with (first | (go_at_call 100; refine HK.out.mono ?_; rintro r w2 ⟨rfl, hq⟩; refine Hid.out ?_))
 have HQ := tZ hq
 clear hq HK
 refine tZ ?_
 go_wp2
 go_end0
 exact ⟨rfl, HQ.out⟩
end
section
theorem value68 (x : By) {S : Nat → Prop} (e c : Nat) (a : Option Addr) (fs : List (Nat × Fd)) (w : World) (hs : Sh w S a fs) (hc : w.cell? ⟨e, 0, none⟩ = some (.slice a fs.length c)) (he : e < w.heap.size) (hl : fs.length ≤ 1000) :
  Calls Tryz.prog 102 #[.pointer (some ⟨e, 0, none⟩), .string ⟨x.toArray⟩] w fun r w' => r = .returned (.tuple #[.agg #[.int .i64 (match findF fs x with | some f => f.2.v.1 | none => 0), .int .i64 (match findF fs x with | some f => f.2.v.2 | none => 0)], .int .i64 (match findF fs x with | some _ => 0 | none => 5)]) ∧ Below w.heap.size w w' := by
 have H := tZ (fun W (hb : Below w.heap.size w W) => find101 x e c a fs W (hs.next hb) ((hb.cell (p := ⟨e, 0, none⟩) he).trans hc) hl)
 have HS := tZ hs
 clear hs
 cases hf : findF fs x with
 | some f =>
  have hfb : findB fs x = some ⟨f.1, 0, none⟩ := by simp [findB, hf]
  rw [hfb] at H
  obtain ⟨_, _, _, _, a1, l1, c1, hb, _⟩ := HS.out.fld f (findF_mem hf).1
  have HR := tZ hb
  clear hb
  go_enter Tryz.func102, Tryz.ntmps102
  go_wp2_with (first | (go_at_call 137; refine (H.out _ (bZ _)).mono ?_; rintro r w1 ⟨rfl, rfl⟩; refine Hid.out ?_))
  obtain ⟨⟨k0, k1, k2, k3, k4, k5, k6⟩, hfz, hsz⟩ := row7 ((Below.heap_alloc w (.cells #[.int .i64 0, .int .i64 0] 177) _ (HS.out.fld f (findF_mem hf).1).lt).trans HR.out)
  have hne : f.1 ≠ w.heap.size := by have := (HS.out.fld f (findF_mem hf).1).lt; omega
  have hne' : w.heap.size ≠ f.1 := fun h => hne h.symm
  generalize f.1 = q at *
  clear hfz H hf hfb
  refine tZ ?_
  go_wp2
  refine bodyPost_ret (v := .tuple #[.agg #[.int .i64 f.2.v.1, .int .i64 f.2.v.2], .int .i64 0]) (by simp [results, Tryz.results102, go_sem]) rfl ?_
  exact ⟨rfl, (Below.refl _ _).alloc (Nat.le_refl _) _⟩
 | none =>
  have hfb : findB fs x = none := by simp [findB, hf]
  rw [hfb] at H
  go_enter Tryz.func102, Tryz.ntmps102
  go_wp2_with (first | (go_at_call 137; refine (H.out _ (bZ _)).mono ?_; rintro r w1 ⟨rfl, rfl⟩))
  refine bodyPost_ret (v := .tuple #[.agg #[.int .i64 0, .int .i64 0], .int .i64 5]) (by simp [results, Tryz.results102, go_sem]) rfl ?_
  exact ⟨rfl, (Below.refl _ _).alloc (Nat.le_refl _) _⟩
def RlPost (fs : List (Nat × Fd)) (x : By) (w : World) (r : Ending) (w' : World) : Prop :=
 Below w.heap.size w w' ∧ match findF fs x with | some f => r = .returned (.tuple #[.string ⟨(txt f.2.p).toArray⟩, .int .i64 0]) | none => r = .returned (.tuple #[.string ⟨#[]⟩, .int .i64 5])
theorem rule69 (x : By) {S : Nat → Prop} (e c : Nat) (a : Option Addr) (fs : List (Nat × Fd)) (w : World) (hs : Sh w S a fs) (hE : Env w) (hc : w.cell? ⟨e, 0, none⟩ = some (.slice a fs.length c)) (he : e < w.heap.size) (hl : fs.length ≤ 1000) :
  Calls Tryz.prog 103 #[.pointer (some ⟨e, 0, none⟩), .string ⟨x.toArray⟩] w (RlPost fs x w) := by
 have H := tZ (find101 x e c a fs w hs hc hl)
 unfold RlPost
 cases hf : findF fs x with
 | some f =>
  have hfb : findB fs x = some ⟨f.1, 0, none⟩ := by simp [findB, hf]
  rw [hfb] at H
  obtain ⟨_, hsh, hgd, htx, a1, l1, c1, hb, hP⟩ := hs.fld f (findF_mem hf).1
  have HPL := tZ (rulePlain9 f.2.p a1 l1 c1 w hP hs.still hE hgd (by omega))
  obtain ⟨⟨k0, k1, k2, k3, k4, k5, k6⟩, hfz, hsz⟩ := row7 hb
  clear hb hs hE hP hsh hgd htx
  go_enter Tryz.func103, Tryz.ntmps103
  go_wp2_with (first | (go_at_call 137; refine H.out.mono ?_; rintro r w1 ⟨rfl, rfl⟩) | (go_at_call 44; refine HPL.out.mono ?_; rintro r w2 ⟨rfl, hb2⟩))
  go_ret2
  exact ⟨hb2, rfl⟩
 | none =>
  have hfb : findB fs x = none := by simp [findB, hf]
  rw [hfb] at H
  go_enter Tryz.func103, Tryz.ntmps103
  go_wp2_with (first | (go_at_call 137; refine H.out.mono ?_; rintro r w1 ⟨rfl, rfl⟩))
  go_ret2
  exact ⟨Below.refl _ _, rfl⟩
theorem order71 {S : Nat → Prop} (e c : Nat) (a : Option Addr) (fs : List (Nat × Fd)) (w : World) (hs : Sh w S a fs) (hc : w.cell? ⟨e, 0, none⟩ = some (.slice a fs.length c)) (hl : fs.length ≤ 1000) :
  Calls Tryz.prog 105 #[.pointer (some ⟨e, 0, none⟩)] w fun r w' => ∃ v, r = .returned v ∧ w'.ownsRow w.heap.size 9 1 v fs.length (strs (nmsF fs)) ∧ Below w.heap.size w w' := by
 have H := tZ (names107 a c fs w hs hl)
 clear hs
 go_enter Tryz.func105, Tryz.ntmps105
 go_wp2_with (first | (go_at_call 142; refine H.out.mono ?_; rintro r w1 ⟨v, rfl, ho, hb1⟩))
 go_ret
 exact ⟨v, rfl, ho, hb1⟩
end
section
theorem okT_of (s : By) : OkT (toksOf s).1 := fun t p hm => ⟨⟨toks_ok _ _ _ t p hm, toks_good _ _ _ t p hm⟩, toks_allD _ _ _ t p hm⟩
theorem heads_set : ∀ k (h : k < 12), (headsW[k]'h).1 = [115, 101, 116] → k = 0 := by decide
end
section
theorem new44 (M : Nat) (hM : M ≤ 6) (w : World) :
  Calls Tryz.prog 45 #[.int .i64 (M : Int)] w fun r w' => r = .returned (.tuple #[.pointer (some ⟨w.heap.size, 0, none⟩), .int .i64 0]) ∧ w' = w.alloc (.cells #[.slice none 0 0, .int .i64 (M : Int), .slice none 0 0, .slice none 0 0, .bool false, .slice none 0 0] 108) := by
 have h0 : ¬ (M : Int) < 0 := by omega
 have h6 : ¬ (6 : Int) < (M : Int) := by omega
 clear hM
 go_enter Tryz.func45, Tryz.ntmps45
 go_wp2
 go_ret2
 exact ⟨rfl, rfl⟩
def lineV (vb : Int) (an : Option Addr) (ln cn : Nat) (k : Int) (nm : By) (n : Int) (ar : Option Addr) (lr cr : Nat) : Value := .agg #[.int .i64 vb, .slice an ln cn, .int .i64 k, .string ⟨nm.toArray⟩, .int .i64 n, .slice ar lr cr]
end
section
theorem followTell (e : Nat) (vb : Int) (hvb : vb = 9 ∨ vb = 10 ∨ vb = 11 ∨ vb = 12) (an : Option Addr) (ln cn : Nat) (k : Int) (nm : By) (n : Int) (ar : Option Addr) (lr cr : Nat) (w : World) (er at_ : Int) (tx : By) (bn : Option Addr) (ln' cn' : Nat) (kd nn : Int) (Q : World → Prop) (hQ : ∀ w1 j u, Q w1 → Q (w1.setCell ⟨w.heap.size + 1, j, none⟩ u))
  (hT : ∀ W, Below w.heap.size w W → w.heap.size + 1 < W.heap.size → Calls Tryz.prog 70 #[.pointer (some ⟨e, 0, none⟩), .agg #[.int .i64 vb, .slice an ln cn, .int .i64 k, .string ⟨nm.toArray⟩, .int .i64 n, .slice ar lr cr]] W fun r w' => r = .returned (.agg #[.int .i64 er, .int .i64 at_, .string ⟨tx.toArray⟩, .slice bn ln' cn', .int .i64 kd, .int .i64 nn]) ∧ (∀ q, q = w.heap.size + 1 → w'.heap[q]? = W.heap[q]?) ∧ Q w') :
  Calls Tryz.prog 47 #[.pointer (some ⟨e, 0, none⟩), .agg #[.int .i64 vb, .slice an ln cn, .int .i64 k, .string ⟨nm.toArray⟩, .int .i64 n, .slice ar lr cr]] w fun r w' => r = .returned (.agg #[.int .i64 er, .int .i64 at_, .string ⟨tx.toArray⟩, .slice bn ln' cn', .int .i64 kd, .int .i64 nn]) ∧ Q w' := by
 have HT := tZ hT
 have b1 : (vb == 1) = false := by simp; omega
 have b2 : (vb == 2) = false := by simp; omega
 have b3 : (vb == 3) = false := by simp; omega
 have b4 : (vb == 4) = false := by simp; omega
 have b5 : (vb == 5) = false := by simp; omega
 have b6 : (vb == 6) = false := by simp; omega
 have b7 : (vb == 7) = false := by simp; omega
 have b8 : (vb == 8) = false := by simp; omega
 clear hT hvb
 go_enter Tryz.func47, Tryz.ntmps47
 have HT2 := tZ (HT.out ((w.alloc (.cells #[.int .i64 vb, .slice an ln cn, .int .i64 k, .string ⟨nm.toArray⟩, .int .i64 n, .slice ar lr cr] 97)).alloc (.cells #[.int .i64 0, .int .i64 0, .string ⟨#[]⟩, .slice none 0 0, .int .i64 0, .int .i64 0] 39)) (below2 _ _ _) (by simp))
 have HROW := tZ (alloc2_new' w (.cells #[.int .i64 vb, .slice an ln cn, .int .i64 k, .string ⟨nm.toArray⟩, .int .i64 n, .slice ar lr cr] 97) #[.int .i64 0, .int .i64 0, .string ⟨#[]⟩, .slice none 0 0, .int .i64 0, .int .i64 0] 39)
 clear HT
 go_wp2_with (first | (go_at_call 70; refine HT2.out.mono ?_; rintro r w1 ⟨rfl, hk1, hq⟩; refine Hid.out ?_))
 obtain ⟨⟨k0, k1, k2, k3, k4, k5⟩, ⟨f0, f1, f2, f3, f4, f5⟩, hsz⟩ := row6 ((hk1 (w.heap.size + 1) rfl).trans HROW.out)
 have HQ := tZ hq
 clear hk1 hq HT2
 refine tZ ?_
 go_wp2
 refine bodyPost_ret (v := .agg #[.int .i64 er, .int .i64 at_, .string ⟨tx.toArray⟩, .slice bn ln' cn', .int .i64 kd, .int .i64 nn]) (by simp [results, Tryz.results47, go_sem, k0, k1, k2, k3, k4, k5, hsz]) rfl ?_
 exact ⟨rfl, hQ _ _ _ (hQ _ _ _ (hQ _ _ _ (hQ _ _ _ (hQ _ _ _ (hQ _ _ _ HQ.out)))))⟩
theorem followEdit (e : Nat) (vb : Int) (hvb : vb = 1 ∨ vb = 2 ∨ vb = 3) (an : Option Addr) (ln cn : Nat) (k : Int) (nm : By) (n : Int) (ar : Option Addr) (lr cr : Nat) (w : World) (Q : Int → Option Addr → Nat → Nat → World → Prop) (hQ : ∀ er a l c w1 j u, Q er a l c w1 → Q er a l c (w1.setCell ⟨w.heap.size + 1, j, none⟩ u))
  (hT : ∀ W, Below w.heap.size w W → w.heap.size + 1 < W.heap.size → Calls Tryz.prog 65 #[.pointer (some ⟨e, 0, none⟩), .agg #[.int .i64 vb, .slice an ln cn, .int .i64 k, .string ⟨nm.toArray⟩, .int .i64 n, .slice ar lr cr]] W fun r w' => ∃ er bn ln' cn', r = .returned (.agg #[.int .i64 er, .int .i64 0, .string ⟨#[]⟩, .slice bn ln' cn', .int .i64 0, .int .i64 0]) ∧ (∀ q, q = w.heap.size + 1 → w'.heap[q]? = W.heap[q]?) ∧ Q er bn ln' cn' w') :
  Calls Tryz.prog 47 #[.pointer (some ⟨e, 0, none⟩), .agg #[.int .i64 vb, .slice an ln cn, .int .i64 k, .string ⟨nm.toArray⟩, .int .i64 n, .slice ar lr cr]] w fun r w' => ∃ er bn ln' cn', r = .returned (.agg #[.int .i64 er, .int .i64 0, .string ⟨#[]⟩, .slice bn ln' cn', .int .i64 0, .int .i64 0]) ∧ Q er bn ln' cn' w' := by
 have HT := tZ hT
 clear hT
 have HT2 := tZ (HT.out ((w.alloc (.cells #[.int .i64 vb, .slice an ln cn, .int .i64 k, .string ⟨nm.toArray⟩, .int .i64 n, .slice ar lr cr] 97)).alloc (.cells #[.int .i64 0, .int .i64 0, .string ⟨#[]⟩, .slice none 0 0, .int .i64 0, .int .i64 0] 39)) (below2 _ _ _) (by simp))
 have HROW := tZ (alloc2_new' w (.cells #[.int .i64 vb, .slice an ln cn, .int .i64 k, .string ⟨nm.toArray⟩, .int .i64 n, .slice ar lr cr] 97) #[.int .i64 0, .int .i64 0, .string ⟨#[]⟩, .slice none 0 0, .int .i64 0, .int .i64 0] 39)
 clear HT
 rcases hvb with rfl | rfl | rfl <;> go_enter Tryz.func47, Tryz.ntmps47
 all_goals go_wp2_with (first | (go_at_call 65; refine HT2.out.mono ?_; rintro r w1 ⟨er, bn, ln', cn', rfl, hk1, hq⟩; refine Hid.out ?_))
 all_goals obtain ⟨⟨k0, k1, k2, k3, k4, k5⟩, ⟨f0, f1, f2, f3, f4, f5⟩, hsz⟩ := row6 ((hk1 (w.heap.size + 1) rfl).trans HROW.out)
 all_goals have HQ := tZ hq
 all_goals clear hk1 hq HT2
 all_goals refine tZ ?_
 all_goals go_wp2
 all_goals refine bodyPost_ret (v := .agg #[.int .i64 er, .int .i64 0, .string ⟨#[]⟩, .slice bn ln' cn', .int .i64 0, .int .i64 0]) (by simp [results, Tryz.results47, go_sem, k0, k1, k2, k3, k4, k5, hsz]) rfl ?_
 all_goals exact ⟨er, bn, ln', cn', rfl, hQ _ _ _ _ _ _ _ (hQ _ _ _ _ _ _ _ (hQ _ _ _ _ _ _ _ (hQ _ _ _ _ _ _ _ (hQ _ _ _ _ _ _ _ (hQ _ _ _ _ _ _ _ HQ.out)))))⟩
end
section
def zRep : Obj := .cells #[.int .i64 0, .int .i64 0, .string ⟨#[]⟩, .slice none 0 0, .int .i64 0, .int .i64 0] 39 (0, 0)
def rpV (er at_ : Int) (tx : By) (bn : Option Addr) (ln cn : Nat) (kd nn : Int) : Value := .agg #[.int .i64 er, .int .i64 at_, .string ⟨tx.toArray⟩, .slice bn ln cn, .int .i64 kd, .int .i64 nn]
def lineO (vb : Int) (an : Option Addr) (ln cn : Nat) (k : Int) (nm : By) (n : Int) (ar : Option Addr) (lr cr : Nat) : Obj := .cells #[.int .i64 vb, .slice an ln cn, .int .i64 k, .string ⟨nm.toArray⟩, .int .i64 n, .slice ar lr cr] 97 (0, 0)
end
end Go.Proofs.YtihgojcfpnhelaaGreatDoor
