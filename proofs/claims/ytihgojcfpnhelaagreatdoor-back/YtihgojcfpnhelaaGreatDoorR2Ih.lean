import Derived.Test.YtihgojcfpnhelaaGreatDoorR2Jc
set_option maxRecDepth 100000
set_option maxHeartbeats 4000000
set_option linter.unusedVariables false
set_option linter.unusedSimpArgs false
namespace Go.Proofs.YtihgojcfpnhelaaGreatDoor
open Go.RowKit
section
def FollowH (vb : Int) (N : Nat) : Prop := ∀ (e : Nat) (an : Option Addr) (ln cn : Nat) (k : Int) (nm : By) (n : Int) (ar : Option Addr) (lr cr : Nat) (w : World) (Q : Int → World → Prop) (_ : ∀ er w1 j u, Q er w1 → Q er (w1.setCell ⟨w.heap.size + 1, j, none⟩ u))
  (_ : ∀ W, Below w.heap.size w W → w.heap.size + 1 < W.heap.size → W.heap[w.heap.size + 1]? = some zRep → Calls Tryz.prog N #[.pointer (some ⟨e, 1, none⟩)] W fun r w' => ∃ er : Int, r = .returned (.int .i64 er) ∧ w'.heap[w.heap.size + 1]? = some zRep ∧ Q er w'),
  Calls Tryz.prog 47 #[.pointer (some ⟨e, 0, none⟩), .agg #[.int .i64 vb, .slice an ln cn, .int .i64 k, .string ⟨nm.toArray⟩, .int .i64 n, .slice ar lr cr]] w fun r w' => ∃ er : Int, r = .returned (.agg #[.int .i64 er, .int .i64 0, .string ⟨#[]⟩, .slice none 0 0, .int .i64 0, .int .i64 0]) ∧ Q er w'
theorem followBegin : FollowH 4 66 := by
 intro e an ln cn k nm n ar lr cr w Q hQ hT
 have HQ := tZ hQ
 have HT2 := tZ (hT ((w.alloc (.cells #[.int .i64 4, .slice an ln cn, .int .i64 k, .string ⟨nm.toArray⟩, .int .i64 n, .slice ar lr cr] 97)).alloc (.cells #[.int .i64 0, .int .i64 0, .string ⟨#[]⟩, .slice none 0 0, .int .i64 0, .int .i64 0] 39)) (below2 _ _ _) (by simp) (alloc2_new' w _ _ _))
 clear hT hQ
 go_enter Tryz.func47, Tryz.ntmps47
 go_wp2_with (first | (go_at_call 66; refine HT2.out.mono ?_; rintro r w1 ⟨er, rfl, hk1, hq⟩; refine Hid.out ?_))
 obtain ⟨⟨k0, k1, k2, k3, k4, k5⟩, ⟨f0, f1, f2, f3, f4, f5⟩, hsz⟩ := row6 hk1
 have HQ1 := tZ hq
 clear hk1 hq HT2
 refine tZ ?_
 go_wp2
 refine bodyPost_ret (v := .agg #[.int .i64 er, .int .i64 0, .string ⟨#[]⟩, .slice none 0 0, .int .i64 0, .int .i64 0]) (by simp [results, Tryz.results47, go_sem, k0, k1, k2, k3, k4, k5, hsz]) rfl ?_
 exact ⟨er, rfl, HQ.out _ _ _ _ (HQ.out _ _ _ _ (HQ.out _ _ _ _ (HQ.out _ _ _ _ (HQ.out _ _ _ _ (HQ.out _ _ _ _ HQ1.out)))))⟩
theorem followCommit : FollowH 5 67 := by
 intro e an ln cn k nm n ar lr cr w Q hQ hT
 have HQ := tZ hQ
 have HT2 := tZ (hT ((w.alloc (.cells #[.int .i64 5, .slice an ln cn, .int .i64 k, .string ⟨nm.toArray⟩, .int .i64 n, .slice ar lr cr] 97)).alloc (.cells #[.int .i64 0, .int .i64 0, .string ⟨#[]⟩, .slice none 0 0, .int .i64 0, .int .i64 0] 39)) (below2 _ _ _) (by simp) (alloc2_new' w _ _ _))
 clear hT hQ
 go_enter Tryz.func47, Tryz.ntmps47
 go_wp2_with (first | (go_at_call 67; refine HT2.out.mono ?_; rintro r w1 ⟨er, rfl, hk1, hq⟩; refine Hid.out ?_))
 obtain ⟨⟨k0, k1, k2, k3, k4, k5⟩, ⟨f0, f1, f2, f3, f4, f5⟩, hsz⟩ := row6 hk1
 have HQ1 := tZ hq
 clear hk1 hq HT2
 refine tZ ?_
 go_wp2
 refine bodyPost_ret (v := .agg #[.int .i64 er, .int .i64 0, .string ⟨#[]⟩, .slice none 0 0, .int .i64 0, .int .i64 0]) (by simp [results, Tryz.results47, go_sem, k0, k1, k2, k3, k4, k5, hsz]) rfl ?_
 exact ⟨er, rfl, HQ.out _ _ _ _ (HQ.out _ _ _ _ (HQ.out _ _ _ _ (HQ.out _ _ _ _ (HQ.out _ _ _ _ (HQ.out _ _ _ _ HQ1.out)))))⟩
theorem followCancel : FollowH 6 49 := by
 intro e an ln cn k nm n ar lr cr w Q hQ hT
 have HQ := tZ hQ
 have HT2 := tZ (hT ((w.alloc (.cells #[.int .i64 6, .slice an ln cn, .int .i64 k, .string ⟨nm.toArray⟩, .int .i64 n, .slice ar lr cr] 97)).alloc (.cells #[.int .i64 0, .int .i64 0, .string ⟨#[]⟩, .slice none 0 0, .int .i64 0, .int .i64 0] 39)) (below2 _ _ _) (by simp) (alloc2_new' w _ _ _))
 clear hT hQ
 go_enter Tryz.func47, Tryz.ntmps47
 go_wp2_with (first | (go_at_call 49; refine HT2.out.mono ?_; rintro r w1 ⟨er, rfl, hk1, hq⟩; refine Hid.out ?_))
 obtain ⟨⟨k0, k1, k2, k3, k4, k5⟩, ⟨f0, f1, f2, f3, f4, f5⟩, hsz⟩ := row6 hk1
 have HQ1 := tZ hq
 clear hk1 hq HT2
 refine tZ ?_
 go_wp2
 refine bodyPost_ret (v := .agg #[.int .i64 er, .int .i64 0, .string ⟨#[]⟩, .slice none 0 0, .int .i64 0, .int .i64 0]) (by simp [results, Tryz.results47, go_sem, k0, k1, k2, k3, k4, k5, hsz]) rfl ?_
 exact ⟨er, rfl, HQ.out _ _ _ _ (HQ.out _ _ _ _ (HQ.out _ _ _ _ (HQ.out _ _ _ _ (HQ.out _ _ _ _ (HQ.out _ _ _ _ HQ1.out)))))⟩
theorem followUndo : FollowH 7 68 := by
 intro e an ln cn k nm n ar lr cr w Q hQ hT
 have HQ := tZ hQ
 have HT2 := tZ (hT ((w.alloc (.cells #[.int .i64 7, .slice an ln cn, .int .i64 k, .string ⟨nm.toArray⟩, .int .i64 n, .slice ar lr cr] 97)).alloc (.cells #[.int .i64 0, .int .i64 0, .string ⟨#[]⟩, .slice none 0 0, .int .i64 0, .int .i64 0] 39)) (below2 _ _ _) (by simp) (alloc2_new' w _ _ _))
 clear hT hQ
 go_enter Tryz.func47, Tryz.ntmps47
 go_wp2_with (first | (go_at_call 68; refine HT2.out.mono ?_; rintro r w1 ⟨er, rfl, hk1, hq⟩; refine Hid.out ?_))
 obtain ⟨⟨k0, k1, k2, k3, k4, k5⟩, ⟨f0, f1, f2, f3, f4, f5⟩, hsz⟩ := row6 hk1
 have HQ1 := tZ hq
 clear hk1 hq HT2
 refine tZ ?_
 go_wp2
 refine bodyPost_ret (v := .agg #[.int .i64 er, .int .i64 0, .string ⟨#[]⟩, .slice none 0 0, .int .i64 0, .int .i64 0]) (by simp [results, Tryz.results47, go_sem, k0, k1, k2, k3, k4, k5, hsz]) rfl ?_
 exact ⟨er, rfl, HQ.out _ _ _ _ (HQ.out _ _ _ _ (HQ.out _ _ _ _ (HQ.out _ _ _ _ (HQ.out _ _ _ _ (HQ.out _ _ _ _ HQ1.out)))))⟩
theorem followRedo : FollowH 8 69 := by
 intro e an ln cn k nm n ar lr cr w Q hQ hT
 have HQ := tZ hQ
 have HT2 := tZ (hT ((w.alloc (.cells #[.int .i64 8, .slice an ln cn, .int .i64 k, .string ⟨nm.toArray⟩, .int .i64 n, .slice ar lr cr] 97)).alloc (.cells #[.int .i64 0, .int .i64 0, .string ⟨#[]⟩, .slice none 0 0, .int .i64 0, .int .i64 0] 39)) (below2 _ _ _) (by simp) (alloc2_new' w _ _ _))
 clear hT hQ
 go_enter Tryz.func47, Tryz.ntmps47
 go_wp2_with (first | (go_at_call 69; refine HT2.out.mono ?_; rintro r w1 ⟨er, rfl, hk1, hq⟩; refine Hid.out ?_))
 obtain ⟨⟨k0, k1, k2, k3, k4, k5⟩, ⟨f0, f1, f2, f3, f4, f5⟩, hsz⟩ := row6 hk1
 have HQ1 := tZ hq
 clear hk1 hq HT2
 refine tZ ?_
 go_wp2
 refine bodyPost_ret (v := .agg #[.int .i64 er, .int .i64 0, .string ⟨#[]⟩, .slice none 0 0, .int .i64 0, .int .i64 0]) (by simp [results, Tryz.results47, go_sem, k0, k1, k2, k3, k4, k5, hsz]) rfl ?_
 exact ⟨er, rfl, HQ.out _ _ _ _ (HQ.out _ _ _ _ (HQ.out _ _ _ _ (HQ.out _ _ _ _ (HQ.out _ _ _ _ (HQ.out _ _ _ _ HQ1.out)))))⟩
variable {S S' S1 O : Nat → Prop} {e k : Nat} {D D' F F' P R T : Nat → Prop} {σ σ0 σ1 : Sta} {w w' W w1 w2 w3 W0 : World} {a : Ab} {nm : List By} {bn : Option Addr} {ln cn : Nat}
def beginA (a : Ab) : Nat × Ab := match a.grp with
 | some _ => (9, a)
 | none => (0, ⟨a.M, a.fs, a.past, a.fut, some a.fs⟩)
def commitA (a : Ab) : Nat × Ab := match a.grp with
 | some g => (0, ⟨a.M, a.fs, (g :: a.past).take a.M, [], none⟩)
 | none => (10, a)
def cancelA (a : Ab) : Nat × Ab := match a.grp with
 | some g => (0, ⟨a.M, g, a.past, a.fut, none⟩)
 | none => (10, a)
def HPost (e k : Nat) (F : Nat → Prop) (x : Nat × Ab) (w : World) (r : Ending) (w' : World) : Prop := r = .returned (.int .i64 (x.1 : Int)) ∧ Ks F w w' ∧ ∃ F', EdA w' e F' k x.2 ∧ ∀ q, F' q → F q ∨ w.heap.size ≤ q
theorem EdTo.hpost {S : Nat → Prop} {dv uv gv : Value} {dn' ud' gr' : List (List Wr)} {σ' : Sta} {M : Nat} {x : Nat × Ab} {r : Ending} (hto : EdTo e (Ft S e D dv uv gv) (EdW e D dv uv gv) σ' M dn' ud' gr' x.2.grp.isSome w w') (hM : x.2.M = M) (hr : r = .returned (.int .i64 (x.1 : Int))) (hrep : Rep x.2 D σ' dn' ud' gr') (hl : gr'.length ≤ k) (h4 : ∀ q, Ft S e D dv uv gv q → F q) : HPost e k F x w r w' := by
 subst hM
 obtain ⟨h7, F', h8, h9⟩ := hto.at rfl hrep hl
 exact ⟨hr, h7.wide fun q hq => h4 q (Or.inr hq), F', h8, fun q hq => (h9 q hq).imp_left (h4 q)⟩
theorem EdA.undo (h : EdA w e F k a) : Calls Tryz.prog 68 #[.pointer (some ⟨e, 1, none⟩)] w (HPost e k F (undoA a) w) := by
 obtain ⟨S, D, σ, dv, uv, gv, dn, ud, gr, h1, h2, h3, h4, h5⟩ := h
 refine (undoS h1).mono ?_
 rintro r w' ⟨hr, hto⟩
 obtain ⟨k1, k2, k3, k4, k5⟩ := h2.undo
 rw [k4] at hto
 have hgl : (undoH ⟨σ, dn, ud, gr, a.grp.isSome⟩).2.gr.length ≤ k := by
  unfold undoH
  split
  ·exact h3
  ·split
   ·exact h3
   ·exact h3
 exact hto.hpost k2 (by rw [hr, k1]) k5 hgl h4
theorem EdA.redo (h : EdA w e F k a) : Calls Tryz.prog 69 #[.pointer (some ⟨e, 1, none⟩)] w (HPost e k F (redoA a) w) := by
 obtain ⟨S, D, σ, dv, uv, gv, dn, ud, gr, h1, h2, h3, h4, h5⟩ := h
 refine (redoS h1).mono ?_
 rintro r w' ⟨hr, hto⟩
 obtain ⟨k1, k2, k3, k4, k5⟩ := h2.redo
 rw [k4] at hto
 have hgl : (redoH ⟨σ, dn, ud, gr, a.grp.isSome⟩).2.gr.length ≤ k := by
  unfold redoH
  split
  ·exact h3
  ·split
   ·exact h3
   ·exact h3
 exact hto.hpost k2 (by rw [hr, k1]) k5 hgl h4
theorem EdA.cancelH (h : EdA w e F k a) (hk : k < 1000000000000) : Calls Tryz.prog 49 #[.pointer (some ⟨e, 1, none⟩)] w (HPost e k F (cancelA a) w) := by
 obtain ⟨S, D, σ, dv, uv, gv, dn, ud, gr, h1, h2, h3, h4, h5⟩ := h
 unfold cancelA
 cases hg : a.grp with
 | none =>
  rw [hg] at h1
  refine (cancelShut h1).mono ?_
  rintro r w' ⟨rfl, h6⟩
  exact EdTo.hpost (x := (10, a)) (by rw [hg]; exact h6) rfl rfl h2 h3 h4
 | some g =>
  rw [hg] at h1
  refine (cancelOpen h1 (by omega)).mono ?_
  rintro r w' ⟨rfl, h6⟩
  exact EdTo.hpost (x := (0, ⟨a.M, g, a.past, a.fut, none⟩)) h6 rfl rfl (h2.cancel hg) (by simp) h4
theorem EdA.commitH (h : EdA w e F k a) (hk : k < 1000000000000) : Calls Tryz.prog 67 #[.pointer (some ⟨e, 1, none⟩)] w (HPost e k F (commitA a) w) := by
 have h0 := h
 obtain ⟨S, D, σ, dv, uv, gv, dn, ud, gr, h1, h2, h3, h4, h5⟩ := h
 unfold commitA
 cases hg : a.grp with
 | none =>
  rw [hg] at h1
  obtain ⟨a', c', _, _, _, he⟩ := h1.ph.row
  obtain ⟨Ng, csg, hgr⟩ := h1.rg
  obtain ⟨ag, lg, cg, rfl⟩ := own_slice hgr.own
  refine (commitShut he ag lg cg rfl).mono ?_
  rintro r w' ⟨rfl, rfl⟩
  exact ⟨rfl, Ks.refl _ _, F, h0, fun q hq => Or.inl hq⟩
 | some g =>
  rw [hg] at h1
  refine (commitOpen h1 (by omega)).mono ?_
  rintro r w' ⟨rfl, h6⟩
  exact EdTo.hpost (x := (0, ⟨a.M, a.fs, (g :: a.past).take a.M, [], none⟩)) h6 rfl rfl (h2.commit hg (by have := h1.len; omega)) (by simp) h4
theorem EdA.beginH (h : EdA w e F k a) : Calls Tryz.prog 66 #[.pointer (some ⟨e, 1, none⟩)] w (HPost e k F (beginA a) w) := by
 have h0 := h
 obtain ⟨S, D, σ, dv, uv, gv, dn, ud, gr, h1, h2, h3, h4, h5⟩ := h
 obtain ⟨a', c', _, _, _, he⟩ := h1.ph.row
 refine (beginW he).mono ?_
 intro r w' hp
 unfold BeginPost at hp
 unfold beginA
 cases hg : a.grp with
 | some g =>
  rw [hg] at hp
  obtain ⟨rfl, rfl⟩ := hp
  exact ⟨rfl, Ks.refl _ _, F, h0, fun q hq => Or.inl hq⟩
 | none =>
  rw [hg] at hp h1
  obtain ⟨rfl, rfl⟩ := hp
  exact ⟨rfl, (Ks.refl _ _).set e 4 _ (h4 e (Or.inr (Or.inl rfl))), F, ⟨S, D, σ, dv, uv, gv, dn, ud, gr, h1.begin, h2.begin hg, h3, h4, fun q hq => by simpa using h5 q hq⟩, fun q hq => Or.inl hq⟩
theorem EdA.doHist (h : EdA w e F k a) (s : By) (vb : Int) (hvb : edV vb = false) (N : Nat) (hfol : FollowH vb N) (x : Nat × Ab) (hX : ∀ W, EdA W e F k a → Calls Tryz.prog N #[.pointer (some ⟨e, 1, none⟩)] W (HPost e k F x W))
  (hR : Calls Tryz.prog 46 #[.string ⟨s.toArray⟩] (w.alloc zRep) fun r w1 => Below (w.heap.size + 1) (w.alloc zRep) w1 ∧ ∃ an ln cn, r = .returned (.tuple #[lineV vb an ln cn 0 [] 0 none 0 0, .int .i64 0, .int .i64 0])) :
  Calls Tryz.prog 20 #[.pointer (some ⟨e, 0, none⟩), .string ⟨s.toArray⟩] w fun r w' => r = .returned (rpV (x.1 : Int) 0 [] none 0 0 0 0) ∧ Res F (fun _ => False) e k x.2 [] w none 0 0 w' := by
 have hF := h.lt
 refine (doFol e s w (fun er at_ tx bn ln cn kd nn w' => er = (x.1 : Int) ∧ at_ = 0 ∧ tx = [] ∧ kd = 0 ∧ nn = 0 ∧ (bn = none ∧ ln = 0 ∧ cn = 0) ∧ Res F (fun q => q = w.heap.size) e k x.2 [] w none 0 0 w') (hR.mono ?_)).mono ?_
 rotate_left
 ·rintro r w' ⟨er, at_, tx, bn, ln, cn, kd, nn, rfl, rfl, rfl, rfl, rfl, rfl, ⟨rfl, rfl, rfl⟩, h7⟩
  exact ⟨rfl, h7.less fun _ h => h.elim⟩
 rintro r w1 ⟨hb1, an, ln0, cn0, rfl⟩
 refine ⟨hb1, vb, an, ln0, cn0, 0, [], 0, none, 0, 0, rfl, ?_⟩
 have hs1 : w.heap.size + 1 ≤ w1.heap.size := by have := hb1.size; simpa using this
 have hb01 : Below w.heap.size w w1 := ((Below.refl _ _).alloc (Nat.le_refl _) zRep).trans (hb1.mono (by omega))
 generalize hw2 : (w1.alloc (lineO vb an ln0 cn0 0 [] 0 none 0 0)).alloc zRep = w2
 have hsz2 : w2.heap.size = w1.heap.size + 2 := by rw [← hw2]; simp
 have hb12 : Below w1.heap.size w1 w2 := by rw [← hw2]; exact below2 _ _ _
 have z0 : w2.heap[w.heap.size]? = some zRep := by
  rw [hb12.block _ (by omega), hb1.block _ (by omega)]
  exact heap_alloc_new w zRep
 have z1 : w2.heap[w1.heap.size + 1]? = some zRep := by
  rw [← hw2]
  exact alloc2_new' w1 _ _ _
 have z2 : w2.heap[w1.heap.size]? = some (lineO vb an ln0 cn0 0 [] 0 none 0 0) := by
  rw [← hw2]
  exact alloc2_old w1 _ _ _
 have hb02 : Below w.heap.size w w2 := hb01.trans (hb12.mono (by omega))
 refine (hfol e an ln0 cn0 0 [] 0 none 0 0 w2 (fun er w' => er = (x.1 : Int) ∧ Res F (fun q => q = w.heap.size ∨ q = w1.heap.size ∨ q = w1.heap.size + 1 ∨ q = w2.heap.size + 1) e k x.2 [] w2 none 0 0 w') ?_ ?_).mono ?_
 ·rintro er w' j u ⟨h1, h2⟩
  exact ⟨h1, h2.set (by simp) (by omega) j u⟩
 ·intro W hW hWs hz
  have hsW := hW.size
  refine (hX W (h.next (hb02.trans (hW.mono (by omega))))).mono ?_
  rintro r w3 ⟨rfl, h1, F2, h2, h3⟩
  refine ⟨(x.1 : Int), rfl, (h1.block _ hWs fun hp => by have := hF _ hp; omega).trans hz, rfl, rfl, ?_, World.ownsRow_nil _ _ _ _, F2, h2, fun q hq => (h3 q hq).imp_right fun h => by omega, fun q hq => by simp [Value.ownBlock] at hq, fun q hq hf => ?_⟩
  ·exact (Ks.of hW).trans h1
  ·rcases h3 q hf with h4 | h4
   ·have := hF q h4; omega
   ·omega
 ·rintro r w3 ⟨er, rfl, rfl, h2⟩
  have hks := h2.2.1
  refine ⟨_, 0, [], none, 0, 0, 0, 0, fun W => Res F (fun q => q = w.heap.size ∨ q = w1.heap.size + 1) e k x.2 [] w none 0 0 W, rfl, ?_, ?_, ?_, ⟨?_, ?_⟩, ?_, ?_, ?_⟩
  ·exact (hks.block _ (by omega) fun hp => by have := hF _ hp; omega).trans z0
  ·exact (hks.block _ (by omega) fun hp => by have := hF _ hp; omega).trans z1
  ·exact (hks.block _ (by omega) fun hp => by have := hF _ hp; omega).trans z2
  ·intro W j u h4
   exact h4.set (by simp) (by omega) j u
  ·intro W j u h4
   exact h4.set (by simp) (by omega) j u
  ·refine (h2.base hb02 fun q hq => Or.inl hq).less ?_
   rintro q (h3 | h3)
   ·exact Or.inl h3
   ·exact Or.inr (Or.inr (Or.inl h3))
  ·rintro W j u ⟨h3, h4, h5, h6, h7, h8, h9⟩
   exact ⟨h3, h4, h5, h6, h7, h8, h9.set rfl (Nat.le_refl _) j u⟩
  ·rw [if_neg (by rintro ⟨_, h3⟩; rw [hvb] at h3; cases h3)]
   intro W h4
   exact ⟨rfl, rfl, rfl, rfl, rfl, ⟨rfl, rfl, rfl⟩, h4.less fun q hq => Or.inl hq⟩
end
end Go.Proofs.YtihgojcfpnhelaaGreatDoor
