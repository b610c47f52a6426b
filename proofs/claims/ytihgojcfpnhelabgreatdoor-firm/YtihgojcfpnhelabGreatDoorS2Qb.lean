import Derived.Test.YtihgojcfpnhelabGreatDoorS2Sl
set_option maxRecDepth 100000
set_option maxHeartbeats 4000000
set_option linter.unusedVariables false
set_option linter.unusedSimpArgs false
namespace Go.Proofs.YtihgojcfpnhelabGreatDoor
open Go.RowKit
section
theorem okT_of (s : By) : OkT (toksOf s).1 := fun t p hm => ⟨⟨toks_ok _ _ _ t p hm, toks_good _ _ _ t p hm⟩, toks_allD _ _ _ t p hm⟩
theorem heads_set : ∀ k (h : k < 12), (headsW[k]'h).1 = [115, 101, 116] → k = 0 := by decide
end
section
theorem new44 (M : Nat) (hM : M ≤ 6) (w : World) :
  Calls Tryz.prog 13 #[.int .i64 (M : Int)] w fun r w' => r = .returned (.tuple #[.pointer (some ⟨w.heap.size, 0, none⟩), .int .i64 0]) ∧ w' = w.alloc (.cells #[.slice none 0 0, .int .i64 (M : Int), .slice none 0 0, .slice none 0 0, .bool false, .slice none 0 0] 65) := by
 have h0 : ¬ (M : Int) < 0 := by omega
 have h6 : ¬ (6 : Int) < (M : Int) := by omega
 clear hM
 go_enter Tryz.func13, Tryz.ntmps13
 go_wp2
 go_ret2
 exact ⟨rfl, rfl⟩
def lineV (vb : Int) (an : Option Addr) (ln cn : Nat) (k : Int) (nm : By) (n : Int) (ar : Option Addr) (lr cr : Nat) : Value := .agg #[.int .i64 vb, .slice an ln cn, .int .i64 k, .string ⟨nm.toArray⟩, .int .i64 n, .slice ar lr cr]
end
section
theorem followTell (e : Nat) (vb : Int) (hvb : vb = 9 ∨ vb = 10 ∨ vb = 11 ∨ vb = 12) (an : Option Addr) (ln cn : Nat) (k : Int) (nm : By) (n : Int) (ar : Option Addr) (lr cr : Nat) (w : World) (er at_ : Int) (tx : By) (bn : Option Addr) (ln' cn' : Nat) (kd nn : Int) (Q : World → Prop) (hQ : ∀ w1 j u, Q w1 → Q (w1.setCell ⟨w.heap.size + 1, j, none⟩ u))
  (hT : ∀ W, Below w.heap.size w W → w.heap.size + 1 < W.heap.size → Calls Tryz.prog 29 #[.pointer (some ⟨e, 0, none⟩), .agg #[.int .i64 vb, .slice an ln cn, .int .i64 k, .string ⟨nm.toArray⟩, .int .i64 n, .slice ar lr cr]] W fun r w' => r = .returned (.agg #[.int .i64 er, .int .i64 at_, .string ⟨tx.toArray⟩, .slice bn ln' cn', .int .i64 kd, .int .i64 nn]) ∧ (∀ q, q = w.heap.size + 1 → w'.heap[q]? = W.heap[q]?) ∧ Q w') :
  Calls Tryz.prog 15 #[.pointer (some ⟨e, 0, none⟩), .agg #[.int .i64 vb, .slice an ln cn, .int .i64 k, .string ⟨nm.toArray⟩, .int .i64 n, .slice ar lr cr]] w fun r w' => r = .returned (.agg #[.int .i64 er, .int .i64 at_, .string ⟨tx.toArray⟩, .slice bn ln' cn', .int .i64 kd, .int .i64 nn]) ∧ Q w' := by
 have HT := tZ hT
 have b1 : (vb == 1) = false := by simp; omega
 have b2 : (vb == 2) = false := by simp; omega
 have b3 : (vb == 3) = false := by simp; omega
 have b4 : (vb == 4) = false := by simp; omega
 have b5 : (vb == 5) = false := by simp; omega
 have b6 : (vb == 6) = false := by simp; omega
 have b7 : (vb == 7) = false := by simp; omega
 have b8 : (vb == 8) = false := by simp; omega
 clear hT hvb
 go_enter Tryz.func15, Tryz.ntmps15
 have HT2 := tZ (HT.out ((w.alloc (.cells #[.int .i64 vb, .slice an ln cn, .int .i64 k, .string ⟨nm.toArray⟩, .int .i64 n, .slice ar lr cr] 53)).alloc (.cells #[.int .i64 0, .int .i64 0, .string ⟨#[]⟩, .slice none 0 0, .int .i64 0, .int .i64 0] 30)) (below2 _ _ _) (by simp))
 have HROW := tZ (alloc2_new' w (.cells #[.int .i64 vb, .slice an ln cn, .int .i64 k, .string ⟨nm.toArray⟩, .int .i64 n, .slice ar lr cr] 53) #[.int .i64 0, .int .i64 0, .string ⟨#[]⟩, .slice none 0 0, .int .i64 0, .int .i64 0] 30)
 clear HT
 go_wp2_with (first | (go_at_call 29; refine HT2.out.mono ?_; rintro r w1 ⟨rfl, hk1, hq⟩; refine Hid.out ?_))
 obtain ⟨⟨k0, k1, k2, k3, k4, k5⟩, ⟨f0, f1, f2, f3, f4, f5⟩, hsz⟩ := row6 ((hk1 (w.heap.size + 1) rfl).trans HROW.out)
 have HQ := tZ hq
 clear hk1 hq HT2
 refine tZ ?_
 go_wp2
 refine bodyPost_ret (v := .agg #[.int .i64 er, .int .i64 at_, .string ⟨tx.toArray⟩, .slice bn ln' cn', .int .i64 kd, .int .i64 nn]) (by simp [results, Tryz.results15, go_sem, k0, k1, k2, k3, k4, k5, hsz]) rfl ?_
 exact ⟨rfl, hQ _ _ _ (hQ _ _ _ (hQ _ _ _ (hQ _ _ _ (hQ _ _ _ (hQ _ _ _ HQ.out)))))⟩
theorem followEdit (e : Nat) (vb : Int) (hvb : vb = 1 ∨ vb = 2 ∨ vb = 3) (an : Option Addr) (ln cn : Nat) (k : Int) (nm : By) (n : Int) (ar : Option Addr) (lr cr : Nat) (w : World) (Q : Int → Option Addr → Nat → Nat → World → Prop) (hQ : ∀ er a l c w1 j u, Q er a l c w1 → Q er a l c (w1.setCell ⟨w.heap.size + 1, j, none⟩ u))
  (hT : ∀ W, Below w.heap.size w W → w.heap.size + 1 < W.heap.size → Calls Tryz.prog 24 #[.pointer (some ⟨e, 0, none⟩), .agg #[.int .i64 vb, .slice an ln cn, .int .i64 k, .string ⟨nm.toArray⟩, .int .i64 n, .slice ar lr cr]] W fun r w' => ∃ er bn ln' cn', r = .returned (.agg #[.int .i64 er, .int .i64 0, .string ⟨#[]⟩, .slice bn ln' cn', .int .i64 0, .int .i64 0]) ∧ (∀ q, q = w.heap.size + 1 → w'.heap[q]? = W.heap[q]?) ∧ Q er bn ln' cn' w') :
  Calls Tryz.prog 15 #[.pointer (some ⟨e, 0, none⟩), .agg #[.int .i64 vb, .slice an ln cn, .int .i64 k, .string ⟨nm.toArray⟩, .int .i64 n, .slice ar lr cr]] w fun r w' => ∃ er bn ln' cn', r = .returned (.agg #[.int .i64 er, .int .i64 0, .string ⟨#[]⟩, .slice bn ln' cn', .int .i64 0, .int .i64 0]) ∧ Q er bn ln' cn' w' := by
 have HT := tZ hT
 clear hT
 have HT2 := tZ (HT.out ((w.alloc (.cells #[.int .i64 vb, .slice an ln cn, .int .i64 k, .string ⟨nm.toArray⟩, .int .i64 n, .slice ar lr cr] 53)).alloc (.cells #[.int .i64 0, .int .i64 0, .string ⟨#[]⟩, .slice none 0 0, .int .i64 0, .int .i64 0] 30)) (below2 _ _ _) (by simp))
 have HROW := tZ (alloc2_new' w (.cells #[.int .i64 vb, .slice an ln cn, .int .i64 k, .string ⟨nm.toArray⟩, .int .i64 n, .slice ar lr cr] 53) #[.int .i64 0, .int .i64 0, .string ⟨#[]⟩, .slice none 0 0, .int .i64 0, .int .i64 0] 30)
 clear HT
 rcases hvb with rfl | rfl | rfl <;> go_enter Tryz.func15, Tryz.ntmps15
 all_goals go_wp2_with (first | (go_at_call 24; refine HT2.out.mono ?_; rintro r w1 ⟨er, bn, ln', cn', rfl, hk1, hq⟩; refine Hid.out ?_))
 all_goals obtain ⟨⟨k0, k1, k2, k3, k4, k5⟩, ⟨f0, f1, f2, f3, f4, f5⟩, hsz⟩ := row6 ((hk1 (w.heap.size + 1) rfl).trans HROW.out)
 all_goals have HQ := tZ hq
 all_goals clear hk1 hq HT2
 all_goals refine tZ ?_
 all_goals go_wp2
 all_goals refine bodyPost_ret (v := .agg #[.int .i64 er, .int .i64 0, .string ⟨#[]⟩, .slice bn ln' cn', .int .i64 0, .int .i64 0]) (by simp [results, Tryz.results15, go_sem, k0, k1, k2, k3, k4, k5, hsz]) rfl ?_
 all_goals exact ⟨er, bn, ln', cn', rfl, hQ _ _ _ _ _ _ _ (hQ _ _ _ _ _ _ _ (hQ _ _ _ _ _ _ _ (hQ _ _ _ _ _ _ _ (hQ _ _ _ _ _ _ _ (hQ _ _ _ _ _ _ _ HQ.out)))))⟩
end
section
def zRep : Obj := .cells #[.int .i64 0, .int .i64 0, .string ⟨#[]⟩, .slice none 0 0, .int .i64 0, .int .i64 0] 30 (0, 0)
def rpV (er at_ : Int) (tx : By) (bn : Option Addr) (ln cn : Nat) (kd nn : Int) : Value := .agg #[.int .i64 er, .int .i64 at_, .string ⟨tx.toArray⟩, .slice bn ln cn, .int .i64 kd, .int .i64 nn]
def lineO (vb : Int) (an : Option Addr) (ln cn : Nat) (k : Int) (nm : By) (n : Int) (ar : Option Addr) (lr cr : Nat) : Obj := .cells #[.int .i64 vb, .slice an ln cn, .int .i64 k, .string ⟨nm.toArray⟩, .int .i64 n, .slice ar lr cr] 53 (0, 0)
end
section
attribute [local go_sem] idx_eq app_eq
theorem does_ok (e : Nat) (s : By) (w : World) (Q : World → Prop) (hQ : ∀ w1 w2, Q w1 → Below w1.heap.size w1 w2 → Q w2)
  (hD : Calls Tryz.prog 8 #[.pointer (some ⟨e, 0, none⟩), .string ⟨s.toArray⟩] w fun r w' => (∃ (tx : By) (an : Option Addr) (ln cn : Nat) (k n : Int), r = .returned (.agg #[.int .i64 0, .int .i64 0, .string ⟨tx.toArray⟩, .slice an ln cn, .int .i64 k, .int .i64 n])) ∧ Q w') :
  Calls Tryz.prog 6 #[.pointer (some ⟨e, 0, none⟩), .string ⟨s.toArray⟩] w fun r w' => r = .returned (.bool true) ∧ Q w' := by
 have HD := tZ hD
 clear hD
 go_enter Tryz.func6, Tryz.ntmps6
 go_wp2_with (first | (go_at_call 8; refine HD.out.mono ?_; rintro r w1 ⟨⟨tx, an, ln, cn, k, n, rfl⟩, hq⟩; have HQ := tZ hq; clear hq))
 go_ret
 exact ⟨rfl, hQ _ _ HQ.out (bZ _)⟩
theorem worth_ok (e : Nat) (s : By) (w : World) (hl : s.length ≤ 100) (Q : World → Prop) (hQ : ∀ w1 w2, Q w1 → Below w1.heap.size w1 w2 → Q w2) (k n : Int)
  (hD : Calls Tryz.prog 8 #[.pointer (some ⟨e, 0, none⟩), .string ⟨(118 :: 97 :: 108 :: 117 :: 101 :: 32 :: s).toArray⟩] w fun r w' => (∃ (er at_ : Int) (tx : By) (an : Option Addr) (ln cn : Nat), r = .returned (.agg #[.int .i64 er, .int .i64 at_, .string ⟨tx.toArray⟩, .slice an ln cn, .int .i64 k, .int .i64 n])) ∧ Q w') :
  Calls Tryz.prog 18 #[.pointer (some ⟨e, 0, none⟩), .string ⟨s.toArray⟩] w fun r w' => r = .returned (.tuple #[.int .i64 k, .int .i64 n]) ∧ Q w' := by
 have HD := tZ hD
 clear hD
 go_enter Tryz.func18, Tryz.ntmps18
 go_wp2_with (first | (go_at_call 8; refine HD.out.mono ?_; rintro r w1 ⟨⟨er, at_, tx, an, ln, cn, rfl⟩, hq⟩; have HQ := tZ hq; clear hq))
 go_region
 all_goals go_wp2
 all_goals go_ret2
 all_goals exact ⟨rfl, hQ _ _ HQ.out (bZ _).drew⟩
theorem fails_ok (e : Nat) (s : By) (w : World) (Q : World → Prop) (n : Int)
  (hD : Calls Tryz.prog 18 #[.pointer (some ⟨e, 0, none⟩), .string ⟨s.toArray⟩] w fun r w' => r = .returned (.tuple #[.int .i64 3, .int .i64 n]) ∧ Q w') :
  Calls Tryz.prog 9 #[.pointer (some ⟨e, 0, none⟩), .string ⟨s.toArray⟩, .int .i64 n] w fun r w' => r = .returned (.bool true) ∧ Q w' := by
 have HD := tZ hD
 have hnb : (n == n) = true := by simp
 clear hD
 go_enter Tryz.func9, Tryz.ntmps9
 go_wp2_with (first | (go_at_call 18; refine HD.out.mono ?_; rintro r w1 ⟨rfl, hq⟩; have HQ := tZ hq; clear hq))
 go_ret
 exact ⟨rfl, HQ.out⟩
theorem begin_ok (u : Int) (w : World) (Q : Nat → World → Prop)
  (hN : Calls Tryz.prog 13 #[.int .i64 u] w fun r w' => ∃ e, r = .returned (.tuple #[.pointer (some ⟨e, 0, none⟩), .int .i64 0]) ∧ Q e w') :
  Calls Tryz.prog 5 #[.int .i64 u] w fun r w' => ∃ e, r = .returned (.tuple #[.pointer (some ⟨e, 0, none⟩), .bool true]) ∧ Q e w' := by
 have HN := tZ hN
 clear hN
 go_enter Tryz.func5, Tryz.ntmps5
 go_wp2_with (first | (go_at_call 13; refine HN.out.mono ?_; rintro r w1 ⟨e, rfl, hq⟩; have HQ := tZ hq; clear hq))
 go_ret2
 exact ⟨e, rfl, HQ.out⟩
end
section
def rhoF (fs : List Fd) (x : By) : Vl := match fs.find? (fun f => f.nm == x) with | some f => f.v | none => (3, 3)
end
section
theorem valP_off (x : By) (ρ ρ' : By → Vl) (h : ∀ z, z ≠ x → ρ z = ρ' z) : ∀ p, Shape p → mentP x p = false → valP ρ p = valP ρ' p
 | .atom k nm n, hs, hm => by
  rcases hs with rfl | rfl | rfl | rfl <;> simp [valP, mentP] at hm ⊢
  exact h nm hm
 | .un k a, hs, hm => by
  simp [mentP] at hm
  simp only [valP, valP_off x ρ ρ' h a hs.2 hm.2]
 | .bin k a b, hs, hm => by
  simp [mentP] at hm
  simp only [valP, valP_off x ρ ρ' h a hs.2.1 hm.2.1, valP_off x ρ ρ' h b hs.2.2 hm.2.2]
 | .ifs a b c, hs, hm => by
  simp [mentP] at hm
  simp only [valP, valP_off x ρ ρ' h a hs.1 hm.1, valP_off x ρ ρ' h b hs.2.1 hm.2.1, valP_off x ρ ρ' h c hs.2.2 hm.2.2]
theorem findF_snd (gs : List (Nat × Fd)) (x : By) : (findF gs x).map Prod.snd = (gs.map Prod.snd).find? (fun f => f.nm == x) := by
 rw [List.find?_map]
 rfl
theorem rho_rhoF (gs : List (Nat × Fd)) (x : By) : rho gs x = rhoF (gs.map Prod.snd) x := by
 rw [rho, rhoF, ← findF_snd]
 cases findF gs x <;> rfl
structure EdP (W0 w : World) (e : Nat) (gs : List (Nat × Fd)) (S : Nat → Prop) (a : Option Addr) (c : Nat) (dv : Value) (M n : Nat) (F : Nat → Prop) : Prop where
 low : Below W0.heap.size W0 w
 he : W0.heap.size ≤ e
 sh : Sh w S a gs
 row : w.heap[e]? = some (.cells #[.slice a gs.length c, .int .i64 (M : Int), dv, .slice none 0 0, .bool false, .slice none 0 0] 65 (0, 0))
 hf : ∀ f, f ∈ gs → f.1 ≠ e ∧ W0.heap.size ≤ f.1
 hS : ¬ S e
 ha : a = none → c = 0
 own : ∃ bs, w.ownsRow W0.heap.size 84 1 dv n bs
 sl : ∃ ad ld cd, dv = .slice ad ld cd
 dn : ∀ q, dv.ownBlock = some q → q ≠ e ∧ ¬ S q ∧ ∀ f, f ∈ gs → f.1 ≠ q
 free : ∀ q, F q → W0.heap.size ≤ q ∧ q ≠ e ∧ ¬ S q ∧ (∀ f, f ∈ gs → f.1 ≠ q) ∧ dv.ownBlock ≠ some q
variable {W0 w w' : World} {e : Nat} {gs : List (Nat × Fd)} {S F : Nat → Prop} {a : Option Addr} {c : Nat} {dv : Value} {M n : Nat}
def Ed (W0 : World) (M n : Nat) (w : World) (e : Nat) (fs : List Fd) : Prop := Env W0 ∧ EnvL W0 ∧ ∃ gs S a c dv, fs = gs.map Prod.snd ∧ EdP W0 w e gs S a c dv M n (fun _ => False) ∧ gs.length ≤ 10
end
section
def withV (gs : List (Nat × Fd)) (V : Nat → Vl) : List (Nat × Fd) := gs.map fun g => (g.1, ⟨g.2.nm, g.2.p, V g.1⟩)
def rhoV (gs : List (Nat × Fd)) (V : Nat → Vl) (y : By) : Vl := match findF gs y with | some f => V f.1 | none => (3, 3)
def updV (V : Nat → Vl) (b : Nat) (v : Vl) (q : Nat) : Vl := if q = b then v else V q
def workV (gs : List (Nat × Fd)) : (Nat → Vl) → List (Nat × Fd) → (Nat → Vl)
 | V, [] => V
 | V, g :: r => workV gs (updV V g.1 (valP (rhoV gs V) g.2.p)) r
theorem withV_self (gs : List (Nat × Fd)) (hn : (gs.map Prod.fst).Nodup) : ∃ V, withV gs V = gs ∧ ∀ g, g ∈ gs → V g.1 = g.2.v := by
 refine ⟨fun q => ((gs.find? fun g => g.1 == q).map fun g => g.2.v).getD (0, 0), ?_, ?_⟩
 ·have h : ∀ g, g ∈ gs → ((gs.find? fun h => h.1 == g.1).map fun g => g.2.v).getD (0, 0) = g.2.v := fun g hg => by
   rw [find_blk gs hn g hg]
   rfl
  unfold withV
  conv => rhs; rw [← List.map_id gs]
  refine List.map_congr_left fun g hg => ?_
  show (g.1, (⟨g.2.nm, g.2.p, ((gs.find? fun h => h.1 == g.1).map fun g => g.2.v).getD (0, 0)⟩ : Fd)) = g
  rw [h g hg]
 ·intro g hg
  simp only
  rw [find_blk gs hn g hg]
  rfl
 where
 find_blk (gs : List (Nat × Fd)) (hn : (gs.map Prod.fst).Nodup) (g : Nat × Fd) (hg : g ∈ gs) : (gs.find? fun h => h.1 == g.1) = some g := by
  induction gs with
  | nil => simp at hg
  | cons x r ih =>
   rw [List.map_cons, List.nodup_cons] at hn
   rcases List.mem_cons.1 hg with rfl | hg
   ·simp
   ·have hne : x.1 ≠ g.1 := fun e => hn.1 (e ▸ List.mem_map_of_mem hg)
    rw [List.find?_cons_of_neg (by simpa using hne)]
    exact ih hn.2 hg
theorem findF_withV (gs : List (Nat × Fd)) (V : Nat → Vl) (y : By) : findF (withV gs V) y = (findF gs y).map fun g => (g.1, ⟨g.2.nm, g.2.p, V g.1⟩) := by
 unfold findF withV
 rw [List.find?_map]
 rfl
theorem rho_withV (gs : List (Nat × Fd)) (V : Nat → Vl) : rho (withV gs V) = rhoV gs V := by
 funext y
 unfold rho rhoV
 rw [findF_withV]
 cases findF gs y <;> rfl
theorem setV_withV (gs : List (Nat × Fd)) (V : Nat → Vl) (b : Nat) (v : Vl) : setV (withV gs V) b v = withV gs (updV V b v) := by
 unfold setV withV
 rw [List.map_map]
 refine List.map_congr_left fun g hg => ?_
 simp only [Function.comp, updV]
 split <;> rfl
theorem ruleOf_withV (gs : List (Nat × Fd)) (hn : (gs.map Prod.fst).Nodup) (V : Nat → Vl) (g : Nat × Fd) (hg : g ∈ gs) : ruleOf (withV gs V) g.1 = g.2.p := by
 unfold ruleOf withV
 rw [List.find?_map]
 have : ((fun f : Nat × Fd => f.1 == g.1) ∘ fun g => (g.1, (⟨g.2.nm, g.2.p, V g.1⟩ : Fd))) = fun h : Nat × Fd => h.1 == g.1 := rfl
 rw [this, withV_self.find_blk gs hn g hg]
 rfl
theorem workP_withV (gs : List (Nat × Fd)) (hn : (gs.map Prod.fst).Nodup) : ∀ (hs : List (Nat × Fd)) (V : Nat → Vl), (∀ g, g ∈ hs → g ∈ gs) → workP (withV gs V) (hs.map fun g => g.1) = withV gs (workV gs V hs)
 | [], V, _ => rfl
 | g :: r, V, h => by
  simp only [List.map_cons, workP, workV]
  rw [ruleOf_withV gs hn V g (h g (by simp)), rho_withV, setV_withV]
  exact workP_withV gs hn r _ fun x hx => h x (by simp [hx])
theorem rhoV_upd (gs : List (Nat × Fd)) (hn : (gs.map Prod.fst).Nodup) (V : Nat → Vl) (g : Nat × Fd) (hg : g ∈ gs) (v : Vl) (z : By) (hz : z ≠ g.2.nm) : rhoV gs (updV V g.1 v) z = rhoV gs V z := by
 unfold rhoV
 cases hf : findF gs z with
 | none => rfl
 | some f =>
  obtain ⟨h1, h2⟩ := findF_mem hf
  simp only [updV]
  have hne : f.1 ≠ g.1 := by
   intro e
   have a1 := withV_self.find_blk gs hn g hg
   have a2 := withV_self.find_blk gs hn f h1
   rw [e, a1] at a2
   cases a2
   exact hz h2.symm
  rw [if_neg hne]
def RightV (gs : List (Nat × Fd)) (V : Nat → Vl) (g : Nat × Fd) : Prop := V g.1 = valP (rhoV gs V) g.2.p
theorem RightV.keep {gs : List (Nat × Fd)} {V : Nat → Vl} {g h : Nat × Fd} {v : Vl} (hn : (gs.map Prod.fst).Nodup) (hr : RightV gs V g) (hg : g ∈ gs) (hh : h ∈ gs) (hne : g.1 ≠ h.1) (hm : NM g h) (hs : Shape g.2.p) : RightV gs (updV V h.1 v) g := by
 unfold RightV at *
 rw [valP_off h.2.nm (rhoV gs (updV V h.1 v)) (rhoV gs V) (fun z hz => rhoV_upd gs hn V h hh v z hz) g.2.p hs hm, ← hr]
 simp [updV, hne]
theorem RightV.made {gs : List (Nat × Fd)} {V : Nat → Vl} {g : Nat × Fd} (hn : (gs.map Prod.fst).Nodup) (hg : g ∈ gs) (hm : NM g g) (hs : Shape g.2.p) : RightV gs (updV V g.1 (valP (rhoV gs V) g.2.p)) g := by
 unfold RightV
 rw [valP_off g.2.nm (rhoV gs (updV V g.1 (valP (rhoV gs V) g.2.p))) (rhoV gs V) (fun z hz => rhoV_upd gs hn V g hg _ z hz) g.2.p hs hm]
 simp [updV]
theorem scan_right (gs : List (Nat × Fd)) (hn : (gs.map Prod.fst).Nodup) (hT : Topo gs) (hsh : ∀ g, g ∈ gs → Shape g.2.p) : ∀ (r pre : List (Nat × Fd)) (V : Nat → Vl) (on : List By), gs = pre ++ r → (∀ g, g ∈ pre → RightV gs V g) → (∀ g, g ∈ r → anyM on g.2.p = false → RightV gs V g) → ∀ g, g ∈ gs → RightV gs (workV gs V (hangP on r)) g
 | [], pre, V, on, e, hp, _, g, hg => by
  rw [List.append_nil] at e
  simp only [hangP, workV]
  exact hp g (e ▸ hg)
 | h :: r, pre, V, on, e, hp, hr, g, hg => by
  have hh : h ∈ gs := by rw [e]; simp
  have hnd : ∀ x, x ∈ pre ++ r → x.1 ≠ h.1 := by
   have : ((pre ++ h :: r).map Prod.fst).Nodup := e ▸ hn
   rw [List.map_append, List.map_cons] at this
   have hp : (pre.map Prod.fst ++ h.1 :: r.map Prod.fst).Perm (h.1 :: (pre.map Prod.fst ++ r.map Prod.fst)) := List.perm_middle
   have h2 := hp.nodup_iff.1 this
   rw [List.nodup_cons] at h2
   intro x hx e'
   refine h2.1 ?_
   rw [← List.map_append, ← e']
   exact List.mem_map_of_mem hx
  by_cases ha : anyM on h.2.p = true
  ·have hk : hangP on (h :: r) = h :: hangP (on ++ [h.2.nm]) r := by simp [hangP, ha]
   rw [hk]
   simp only [workV]
   have hNN := hT.2 h hh
   refine scan_right gs hn hT hsh r (pre ++ [h]) _ _ (by rw [e]; simp) (fun x hx => ?_) (fun x hx hx' => ?_) g hg
   ·rcases List.mem_append.1 hx with hx | hx
    ·have hxg : x ∈ gs := by rw [e]; simp [hx]
     have hpw := hT.1
     rw [e] at hpw
     exact (hp x hx).keep hn hxg hh (hnd x (by simp [hx])) ((List.pairwise_append.1 hpw).2.2 x hx h (by simp)) (hsh x hxg)
    ·obtain rfl : x = h := by simpa using hx
     exact RightV.made hn hh hNN (hsh _ hh)
   ·have hxg : x ∈ gs := by rw [e]; simp [hx]
    have hq := anyM_app.1 hx'
    exact (hr x (by simp [hx]) hq.1).keep hn hxg hh (hnd x (by simp [hx])) hq.2 (hsh x hxg)
  ·have ha' : anyM on h.2.p = false := by simpa using ha
   have hk : hangP on (h :: r) = hangP on r := by simp [hangP, ha']
   rw [hk]
   refine scan_right gs hn hT hsh r (pre ++ [h]) V on (by rw [e]; simp) (fun x hx => ?_) (fun x hx => hr x (by simp [hx])) g hg
   rcases List.mem_append.1 hx with hx | hx
   ·exact hp x hx
   ·obtain rfl : x = h := by simpa using hx
    exact hr x (by simp) ha'
 where
 anyM_app {on : List By} {y : By} {p : Pt} : anyM (on ++ [y]) p = false ↔ anyM on p = false ∧ mentP y p = false := by
  simp [anyM]
theorem work_right (gs : List (Nat × Fd)) (f : Nat × Fd) (hn : (gs.map Prod.fst).Nodup) (hT : Topo gs) (hsh : ∀ g, g ∈ gs → Shape g.2.p) (hf : f ∈ gs) (hi : ∀ g, g ∈ gs → g.1 ≠ f.1 → mentP f.2.nm g.2.p = false → g.2.v = valP (rho gs) g.2.p) :
  ∃ V, workP gs ((f :: hangP [f.2.nm] gs).map fun x => x.1) = withV gs V ∧ ∀ g, g ∈ gs → RightV gs V g := by
 obtain ⟨V, hV, hVg⟩ := withV_self gs hn
 have hr : rho gs = rhoV gs V := by
  conv => lhs; rw [← hV]
  exact rho_withV gs V
 refine ⟨workV gs V (f :: hangP [f.2.nm] gs), ?_, ?_⟩
 ·have := workP_withV gs hn (f :: hangP [f.2.nm] gs) V (fun g hg => by
   rcases List.mem_cons.1 hg with rfl | hg
   ·exact hf
   ·exact hangP_sub _ _ g hg)
  rw [hV] at this
  exact this
 ·simp only [workV]
  refine scan_right gs hn hT hsh gs [] _ _ rfl (fun g hg => by simp at hg) fun g hg ha => ?_
  by_cases e : g.1 = f.1
  ·have a1 := withV_self.find_blk gs hn f hf
   have a2 := withV_self.find_blk gs hn g hg
   rw [e, a1] at a2
   cases a2
   exact RightV.made hn hf (hT.2 f hf) (hsh f hf)
  ·have hm : mentP f.2.nm g.2.p = false := by simpa [anyM] using ha
   have h0 : RightV gs V g := by
    unfold RightV
    rw [hVg g hg, ← hr]
    exact hi g hg e hm
   exact h0.keep hn hg hf e hm (hsh g hg)
end
section
theorem behP_perm (f : Nat × Fd) : ∀ (gs st mv : List (Nat × Fd)) (ls : List (List (Nat × Fd))) (st' mv' : List (Nat × Fd)), behP f gs st mv ls = .ok st' mv' → (st' ++ mv').Perm (st ++ mv ++ gs)
 | [], st, mv, ls, st', mv', h => by
  simp only [behP] at h
  cases h
  simp
 | g :: r, st, mv, ls, st', mv', h => by
  have key : ∀ X Y : List (Nat × Fd), (X ++ [g] ++ Y).Perm (X ++ g :: Y) := fun X Y => by simp
  simp only [behP] at h
  split at h
  ·refine (behP_perm f r _ _ _ _ _ h).trans ?_
   have : (st ++ [g] ++ mv ++ r).Perm (st ++ (mv ++ g :: r)) := by
    rw [List.append_assoc, List.append_assoc]
    refine List.Perm.append_left st ?_
    rw [List.singleton_append]
    exact List.perm_middle.symm
   simpa using this
  ·split at h
   ·cases h
   ·refine (behP_perm f r _ _ _ _ _ h).trans ?_
    simp
theorem mend_perm (A B gs : List (Nat × Fd)) (f : Nat × Fd) (h : mendF (A ++ f :: B) A.length f = .ok gs) : gs.Perm (A ++ f :: B) := by
 obtain ⟨L, M, e1, e2, e3, _⟩ := ahead_split A B f
 have hp : (L ++ f :: M).Perm (A ++ f :: B) := by
  refine List.perm_middle.trans (List.Perm.trans ?_ List.perm_middle.symm)
  rw [e3]
 unfold mendF at h
 rw [e1, e2] at h
 unfold behindF at h
 cases hL : lstM f.2.p (L ++ f :: M) with
 | none =>
  rw [hL] at h
  cases h
  exact hp
 | some l =>
  rw [hL] at h
  simp only at h
  split at h
  ·cases h
   exact hp
  ·rename_i hlt
   have d1 : ((L ++ f :: M).drop L.length).take (l + 1 - L.length) = f :: M.take (l - L.length) := by
    rw [List.drop_left, show l + 1 - L.length = (l - L.length) + 1 by omega, List.take_succ_cons]
   have d2 : (L ++ f :: M).drop (l + 1) = M.drop (l - L.length) := by
    rw [List.drop_append, List.drop_of_length_le (by omega), List.nil_append, show l + 1 - L.length = (l - L.length) + 1 by omega, List.drop_succ_cons]
   rw [d1, d2, List.take_left] at h
   cases hB : behP f (f :: M.take (l - L.length)) [] [] [] with
   | circ ch => rw [hB] at h; cases h
   | ok st mv =>
    rw [hB] at h
    cases h
    refine List.Perm.trans ?_ hp
    have hq := behP_perm _ _ _ _ _ _ _ hB
    simp only [List.nil_append] at hq
    simp only [catP, List.append_nil]
    refine List.Perm.append_left L ?_
    rw [← List.append_assoc]
    have : (f :: M) = (f :: M.take (l - L.length)) ++ M.drop (l - L.length) := by simp
    rw [this]
    exact hq.append_right _
structure GS (fs : List (Nat × Fd)) : Prop where
 nb : (fs.map Prod.fst).Nodup
 nn : (fs.map fun g => g.2.nm).Nodup
 topo : Topo fs
 shp : ∀ g, g ∈ fs → Shape g.2.p
 val : ∀ g, g ∈ fs → g.2.v = valP (rho fs) g.2.p
theorem findF_nn {fs : List (Nat × Fd)} (hn : (fs.map fun g => g.2.nm).Nodup) {g : Nat × Fd} (hg : g ∈ fs) : findF fs g.2.nm = some g := by
 induction fs with
 | nil => simp at hg
 | cons x r ih =>
  rw [List.map_cons, List.nodup_cons] at hn
  unfold findF
  rcases List.mem_cons.1 hg with rfl | hg
  ·simp
  ·have hne : x.2.nm ≠ g.2.nm := fun e => hn.1 (e ▸ List.mem_map_of_mem hg)
   rw [List.find?_cons_of_neg (by simpa using hne)]
   exact ih hn.2 hg
theorem findF_perm {fs gs : List (Nat × Fd)} (hn : (fs.map fun g => g.2.nm).Nodup) (hp : gs.Perm fs) (y : By) : findF gs y = findF fs y := by
 have hn' : (gs.map fun g => g.2.nm).Nodup := (hp.map _).nodup_iff.2 hn
 cases h : findF fs y with
 | some g =>
  obtain ⟨h1, h2⟩ := findF_mem h
  rw [← h2]
  exact findF_nn hn' (hp.mem_iff.2 h1)
 | none =>
  cases h' : findF gs y with
  | none => rfl
  | some g =>
   obtain ⟨h1, h2⟩ := findF_mem h'
   rw [← h2, findF_nn hn (hp.mem_iff.1 h1)] at h
   cases h
theorem rho_perm {fs gs : List (Nat × Fd)} (hn : (fs.map fun g => g.2.nm).Nodup) (hp : gs.Perm fs) : rho gs = rho fs := by
 funext y
 unfold rho
 rw [findF_perm hn hp y]
theorem edit_right (A B gs : List (Nat × Fd)) (f : Nat × Fd) (nb : ((A ++ f :: B).map Prod.fst).Nodup) (nn : ((A ++ f :: B).map fun g => g.2.nm).Nodup) (hp : (A ++ B).Pairwise NM) (hs : ∀ g, g ∈ A ++ B → NM g g) (hsh : ∀ g, g ∈ A ++ f :: B → Shape g.2.p)
  (hv : ∀ g, g ∈ A ++ B → mentP f.2.nm g.2.p = false → g.2.v = valP (rho (A ++ f :: B)) g.2.p) (h : mendF (A ++ f :: B) A.length f = .ok gs) :
  ∃ V, workP gs ((f :: hangP [f.2.nm] gs).map fun x => x.1) = withV gs V ∧ GS (withV gs V) ∧ gs.Perm (A ++ f :: B) := by
 have hperm := mend_perm A B gs f h
 have hdf : ∀ g, g ∈ A ++ B → g.1 ≠ f.1 := by
  rw [List.map_append, List.map_cons] at nb
  have h2 := (List.perm_middle (a := f.1) (l₁ := A.map Prod.fst) (l₂ := B.map Prod.fst)).nodup_iff.1 nb
  rw [List.nodup_cons] at h2
  intro g hg e
  refine h2.1 ?_
  rw [← List.map_append, ← e]
  exact List.mem_map_of_mem hg
 have hT := mend_topo A B gs f hp hs hdf h
 have nb' : (gs.map Prod.fst).Nodup := (hperm.map _).nodup_iff.2 nb
 have nn' : (gs.map fun g => g.2.nm).Nodup := (hperm.map _).nodup_iff.2 nn
 have hfm : f ∈ gs := hperm.mem_iff.2 (by simp)
 have mem : ∀ g, g ∈ gs → g = f ∨ g ∈ A ++ B := fun g hg => by
  have := hperm.mem_iff.1 hg
  simp at this ⊢
  rcases this with h | h | h
  ·exact Or.inr (Or.inl h)
  ·exact Or.inl h
  ·exact Or.inr (Or.inr h)
 obtain ⟨V, hW, hR⟩ := work_right gs f nb' hT (fun g hg => hsh g (hperm.mem_iff.1 hg)) hfm (fun g hg hne hm => by
  rw [rho_perm nn hperm]
  rcases mem g hg with rfl | hg
  ·exact absurd rfl hne
  ·exact hv g hg hm)
 refine ⟨V, hW, ⟨?_, ?_, ⟨?_, ?_⟩, ?_, ?_⟩, hperm⟩
 ·have : (withV gs V).map Prod.fst = gs.map Prod.fst := by simp [withV]
  rw [this]; exact nb'
 ·have : (withV gs V).map (fun g => g.2.nm) = gs.map fun g => g.2.nm := by simp [withV]
  rw [this]; exact nn'
 ·unfold withV
  exact List.pairwise_map.2 (hT.1.imp fun h => h)
 ·intro g hg
  obtain ⟨x, hx, rfl⟩ := List.mem_map.1 hg
  exact hT.2 x hx
 ·intro g hg
  obtain ⟨x, hx, rfl⟩ := List.mem_map.1 hg
  exact hsh x (hperm.mem_iff.1 hx)
 ·intro g hg
  obtain ⟨x, hx, rfl⟩ := List.mem_map.1 hg
  rw [rho_withV]
  exact hR x hx
end
section
def OrdAt (S : Nat → Prop) (w w' : World) (a : Option Addr) (c : Nat) (gs : List (Nat × Fd)) : Prop :=
 ∃ S' : Nat → Prop, (∀ q, S q → S' q) ∧ (∀ q, S' q → S q ∨ w.heap.size ≤ q) ∧ Sh w' S' a gs ∧ gs.length ≤ c
theorem Sh.of_own {w W : World} {S : Nat → Prop} {a : Option Addr} {fs gs : List (Nat × Fd)} {v : Value} (hs : Sh w S a fs) (hb : Below w.heap.size w W) (ho : W.ownsRow w.heap.size 116 1 v gs.length (ptrs gs)) (hsub : ∀ x, x ∈ gs → x ∈ fs) (hne : gs ≠ []) :
  ∃ a' c', v = .slice a' gs.length c' ∧ OrdAt S w W a' c' gs := by
 rcases ho.2 with ⟨_, h0⟩ | ⟨g, cap, cur, rfl, h1, h2, h3, _⟩
 ·exact absurd (List.eq_nil_of_length_eq_zero h0) hne
 ·have hgl := (Array.getElem?_eq_some_iff.1 h2).1
  refine ⟨_, _, rfl, fun q => S q ∨ q = g, fun q hq => Or.inl hq, fun q hq => hq.imp id fun e => by omega, ⟨?_, ?_, ?_⟩, by simpa using h3⟩
  ·rintro q (hq | rfl)
   ·exact Nat.lt_of_lt_of_le (hs.still q hq) hb.size
   ·exact hgl
  ·intro j hj
   refine ⟨g, 0, rfl, Or.inr rfl, ?_⟩
   have := ho.cellAt j (by omega)
   rw [Nat.zero_add]
   simpa [ptrs, hj] using this
  ·intro x hx
   have hf := hs.fld x (hsub x hx)
   have hlt := hf.lt
   have hf' := hf.next hs.still hb
   obtain ⟨f1, f2, f3, f4, a1, l1, c1, f5, f6⟩ := hf'
   refine ⟨?_, f2, f3, f4, a1, l1, c1, f5, f6.wide fun q hq => Or.inl hq⟩
   rintro (h | h)
   ·exact f1 h
   ·omega
def MdPost (S : Nat → Prop) (r : MdR) (w : World) (e : Ending) (w' : World) : Prop :=
 Below w.heap.size w w' ∧ match r with
 | .ok gs => ∃ a' c', e = .returned (.tuple #[.slice a' gs.length c', .slice none 0 0]) ∧ OrdAt S w w' a' c' gs
 | .circ ch => ∃ v, e = .returned (.tuple #[.slice none 0 0, v]) ∧ w'.ownsRow w.heap.size 116 1 v ch.length (ptrs ch)
theorem catP4_mem {fs st mv : List (Nat × Fd)} {at_ l : Nat} (h : ∀ x, x ∈ st ++ mv → x ∈ fs) : ∀ x, x ∈ catP [fs.take at_, st, mv, fs.drop l] → x ∈ fs := by
 intro x hx
 simp [catP] at hx
 rcases hx with hx | hx | hx | hx
 ·exact List.mem_of_mem_take hx
 ·exact h x (by simp [hx])
 ·exact h x (by simp [hx])
 ·exact List.mem_of_mem_drop hx
theorem behindAny {S : Nat → Prop} (a : Option Addr) (c at_ : Nat) (fs : List (Nat × Fd)) (f : Nat × Fd) (w : World) (hs : Sh w S a fs) (hl : fs.length ≤ 100) (hat : at_ < fs.length) (hf : fs[at_] = f) (hc : fs.length ≤ c) (hu : ∀ i (h : i < fs.length), i < at_ → (fs[i]).1 ≠ f.1) :
  Calls Tryz.prog 123 #[.slice a fs.length c, .pointer (some ⟨f.1, 0, none⟩)] w (MdPost S (behindF fs at_ f) w) := by
 subst hf
 have same : ∀ w', Below w.heap.size w w' → MdPost S (.ok fs) w (.returned (.tuple #[.slice a fs.length c, .slice none 0 0])) w' := fun w' hb => ⟨hb, a, c, rfl, S, fun q h => h, fun q h => Or.inl h, hs.next hb, hc⟩
 unfold behindF
 cases hL : lstM (fs[at_]).2.p fs with
 | none =>
  refine (behindNone a c at_ fs w hs (by omega) hat hu fun i hi _ => lstM_none hL i hi).mono ?_
  rintro e w' ⟨rfl, hb⟩
  exact same w' hb
 | some l =>
  obtain ⟨h1, h2, h3⟩ := lstM_some hL
  simp only
  split
  ·rename_i hlt
   refine (behindNone a c at_ fs w hs (by omega) hat hu fun i hi h => h3 i hi (by omega)).mono ?_
   rintro e w' ⟨rfl, hb⟩
   exact same w' hb
  ·rename_i hlt
   refine (behindSome a c at_ l fs w hs hl h1 (by omega) hc hu h2 h3).mono ?_
   rintro e w' ⟨hb, h⟩
   cases hB : behP fs[at_] ((fs.drop at_).take (l + 1 - at_)) [] [] [] with
   | ok st mv =>
    rw [hB] at h
    obtain ⟨v, rfl, ho⟩ := h
    have hmem := catP4_mem (at_ := at_) (l := l + 1) (fs := fs) (st := st) (mv := mv) fun x hx => by
     have := behP_mem _ _ _ _ _ _ _ hB x hx
     simp at this
     exact List.mem_of_mem_drop (List.mem_of_mem_take this)
    have hne : catP [fs.take at_, st, mv, fs.drop (l + 1)] ≠ [] := by
     intro e
     have hlen := congrArg List.length e
     have := behP_len _ _ _ _ _ _ _ hB
     simp only [catP, List.length_append, List.length_nil, List.length_take, List.length_drop] at hlen this
     omega
    obtain ⟨a', c', rfl, hO⟩ := hs.of_own hb ho hmem hne
    exact ⟨hb, a', c', rfl, hO⟩
   | circ ch =>
    rw [hB] at h
    exact ⟨hb, h⟩
theorem aheadP_facts (fs : List (Nat × Fd)) (at_ j : Nat) (hat : at_ < fs.length) (hj : j < at_) : (aheadP fs at_ j).length = fs.length ∧ (∀ x, x ∈ aheadP fs at_ j → x ∈ fs) ∧ (∀ (h : j < (aheadP fs at_ j).length), (aheadP fs at_ j)[j] = fs[at_]) ∧ ∀ i (h : i < (aheadP fs at_ j).length) (h' : i < fs.length), i < j → (aheadP fs at_ j)[i] = fs[i] := by
 have hlen : (aheadP fs at_ j).length = fs.length := by
  simp only [aheadP, catP, List.length_append, List.length_nil, List.length_take, List.length_drop]
  omega
 refine ⟨hlen, ?_, ?_, ?_⟩
 ·intro x hx
  simp only [aheadP, catP, List.mem_append, List.not_mem_nil, or_false] at hx
  rcases hx with hx | hx | hx | hx
  ·exact List.mem_of_mem_take hx
  ·exact List.mem_of_mem_drop (List.mem_of_mem_take hx)
  ·exact List.mem_of_mem_drop (List.mem_of_mem_take hx)
  ·exact List.mem_of_mem_drop hx
 ·intro h
  have e : (aheadP fs at_ j)[j]? = some fs[at_] := by
   simp only [aheadP, catP]
   rw [List.getElem?_append_right (by simp; omega), List.getElem?_append_left (by simp; omega)]
   simp
   rw [show j - min j fs.length = 0 by omega]
   simp [hat]
  rw [List.getElem?_eq_getElem h] at e
  exact Option.some.inj e
 ·intro i h h' hij
  have e : (aheadP fs at_ j)[i]? = some fs[i] := by
   simp only [aheadP, catP]
   rw [List.getElem?_append_left (by simp; omega)]
   simp [hij, h']
  rw [List.getElem?_eq_getElem h] at e
  exact Option.some.inj e
theorem MdPost.after {S : Nat → Prop} {S1 : Nat → Prop} {r : MdR} {w w1 : World} {e : Ending} {w' : World} (h : MdPost S1 r w1 e w') (hb : Below w.heap.size w w1) (h1 : ∀ q, S q → S1 q) (h2 : ∀ q, S1 q → S q ∨ w.heap.size ≤ q) : MdPost S r w e w' := by
 obtain ⟨hb', h⟩ := h
 refine ⟨hb.trans (hb'.mono hb.size), ?_⟩
 cases r with
 | ok gs =>
  obtain ⟨a', c', he, S', s1, s2, s3⟩ := h
  exact ⟨a', c', he, S', fun q hq => s1 q (h1 q hq), fun q hq => (s2 q hq).elim (fun h => h2 q h) fun h => Or.inr (Nat.le_trans hb.size h), s3⟩
 | circ ch =>
  obtain ⟨v, he, ho⟩ := h
  exact ⟨v, he, own_base ho hb.size⟩
theorem mendedAny {S : Nat → Prop} (a : Option Addr) (c at_ : Nat) (fs : List (Nat × Fd)) (f : Nat × Fd) (w : World) (hs : Sh w S a fs) (hl : fs.length ≤ 100) (hat : at_ < fs.length) (hf : fs[at_] = f) (hc : fs.length ≤ c) (hu : ∀ i (h : i < fs.length), i < at_ → (fs[i]).1 ≠ f.1) :
  Calls Tryz.prog 93 #[.slice a fs.length c, .pointer (some ⟨f.1, 0, none⟩)] w (MdPost S (mendF fs at_ f) w) := by
 have H1 : Calls Tryz.prog 124 #[.slice a fs.length c, .pointer (some ⟨f.1, 0, none⟩)] w fun e w' => ∃ a' c', e = .returned (.slice a' (aheadF fs at_ f).1.length c') ∧ OrdAt S w w' a' c' (aheadF fs at_ f).1 ∧ Below w.heap.size w w' := by
  subst hf
  unfold aheadF
  cases hF : fstM (fs[at_]).2.nm (fs.take at_) with
  | none =>
   refine (aheadNone a c at_ fs w hs (by omega) hat hu (fun i hi h => ?_) hc).mono ?_
   ·have := fstM_none hF i (by simp; omega)
    simpa using this
   ·rintro e w' ⟨rfl, hb⟩
    exact ⟨a, c, rfl, ⟨S, fun q h => h, fun q h => Or.inl h, hs.next hb, hc⟩, hb⟩
  | some j =>
   obtain ⟨h1, h2, h3⟩ := fstM_some hF
   simp at h1
   obtain ⟨p1, p2, _, _⟩ := aheadP_facts fs at_ j hat (by omega)
   refine (aheadSome a c at_ j fs w hs hl hat (by omega) hu (by simpa using h2) (fun i hi h => ?_) hc).mono ?_
   ·have := h3 i (by simp; omega) h
    simpa using this
   ·rintro e w' ⟨v, rfl, ho, hb⟩
    obtain ⟨a', c', rfl, hO⟩ := hs.of_own hb ho p2 (fun e => by rw [e] at p1; simp only [List.length_nil] at p1; omega)
    exact ⟨a', c', rfl, hO, hb⟩
 have H2 : ∀ a' c' W, OrdAt S w W a' c' (aheadF fs at_ f).1 → Below w.heap.size w W → Calls Tryz.prog 123 #[.slice a' (aheadF fs at_ f).1.length c', .pointer (some ⟨f.1, 0, none⟩)] W (MdPost S (mendF fs at_ f) w) := by
  rintro a' c' W ⟨S1, s1, s2, s3, s4⟩ hb
  have hfacts : (aheadF fs at_ f).1.length = fs.length ∧ ∃ h : (aheadF fs at_ f).2 < (aheadF fs at_ f).1.length, (aheadF fs at_ f).1[(aheadF fs at_ f).2] = f ∧ ∀ i (h : i < (aheadF fs at_ f).1.length), i < (aheadF fs at_ f).2 → ((aheadF fs at_ f).1[i]).1 ≠ f.1 := by
   unfold aheadF
   cases hF : fstM f.2.nm (fs.take at_) with
   | none => exact ⟨rfl, hat, hf, hu⟩
   | some j =>
    obtain ⟨h1, _, _⟩ := fstM_some hF
    simp at h1
    obtain ⟨p1, p2, p3, p4⟩ := aheadP_facts fs at_ j hat (by omega)
    refine ⟨p1, by simp only; omega, by simp only; rw [p3 (by omega)]; exact hf, fun i hi hij => ?_⟩
    simp only at hi hij ⊢
    rw [p4 i hi (by omega) hij]
    exact hu i (by omega) (by omega)
  obtain ⟨e1, e2, e3, e4⟩ := hfacts
  exact (behindAny a' c' _ _ f W s3 (by omega) e2 e3 s4 e4).mono fun e w' h => h.after hb s1 s2
 have HH1 := tZ H1
 have HH2 := tZ H2
 clear H1 H2 hs hu hf
 generalize (aheadF fs at_ f).1 = fs1 at *
 generalize mendF fs at_ f = mr at *
 go_enter Tryz.func93, Tryz.ntmps93
 go_wp2_with (first | (go_at_call 124; refine HH1.out.mono ?_; rintro e w1 ⟨a', c', rfl, hO, hb1⟩; refine Hid.out ?_))
 have HC := tZ ((HH2.out a' c' w1 hO hb1).mono (R' := fun e w' => ∃ (a1 : Option Addr) (l1 c1 : Nat) (a2 : Option Addr) (l2 c2 : Nat), e = .returned (.tuple #[.slice a1 l1 c1, .slice a2 l2 c2]) ∧ Hid (MdPost S mr w e w')) (by
  rintro e w' h
  have h' := h
  obtain ⟨_, h⟩ := h
  cases mr with
  | ok gs =>
   obtain ⟨a', c', he, _⟩ := h
   exact ⟨_, _, _, _, _, _, he, h'⟩
  | circ ch =>
   obtain ⟨v, he, ho⟩ := h
   obtain ⟨av, cv, rfl⟩ := own_len ho
   exact ⟨_, _, _, _, _, _, he, h'⟩))
 clear hO hb1 HH1 HH2
 refine tZ ?_
 go_wp2_with (first | (go_at_call 123; refine HC.out.mono ?_; rintro e w2 ⟨a1, l1, c1, a2, l2, c2, rfl, hp⟩; refine Hid.out ?_))
 clear HC
 refine tZ ?_
 go_wp2
 refine bodyPost_ret (v := .tuple #[.slice a1 l1 c1, .slice a2 l2 c2]) (by simp [results, Tryz.results93, go_sem]) (by simp [go_sem]) ?_
 exact hp.out
end
end Go.Proofs.YtihgojcfpnhelabGreatDoor
