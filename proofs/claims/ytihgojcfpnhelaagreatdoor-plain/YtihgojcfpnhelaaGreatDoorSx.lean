import Derived.Test.YtihgojcfpnhelaaGreatDoorSr
set_option linter.unusedVariables false
set_option linter.unusedSimpArgs false
namespace Go.Proofs.YtihgojcfpnhelaaGreatDoor
open Go.RowKit

set_option maxRecDepth 100000 in
set_option maxHeartbeats 4000000 in
theorem followTell (e : Nat) (vb : Int) (hvb : vb = 9 ∨ vb = 10 ∨ vb = 11 ∨ vb = 12) (an : Option Addr) (ln cn : Nat) (k : Int) (nm : By) (n : Int) (ar : Option Addr) (lr cr : Nat) (w : World) (er at_ : Int) (tx : By) (bn : Option Addr) (ln' cn' : Nat) (kd nn : Int) (Q : World → Prop) (hQ : ∀ w1 j u, Q w1 → Q (w1.setCell ⟨w.heap.size + 1, j, none⟩ u))
    (hT : ∀ W, Below w.heap.size w W → w.heap.size + 1 < W.heap.size → Calls Tryz.prog 70 #[.pointer (some ⟨e, 0, none⟩), .agg #[.int .i64 vb, .slice an ln cn, .int .i64 k, .string ⟨nm.toArray⟩, .int .i64 n, .slice ar lr cr]] W fun r w' => r = .returned (.agg #[.int .i64 er, .int .i64 at_, .string ⟨tx.toArray⟩, .slice bn ln' cn', .int .i64 kd, .int .i64 nn]) ∧ (∀ q, q = w.heap.size + 1 → w'.heap[q]? = W.heap[q]?) ∧ Q w') :
    Calls Tryz.prog 47 #[.pointer (some ⟨e, 0, none⟩), .agg #[.int .i64 vb, .slice an ln cn, .int .i64 k, .string ⟨nm.toArray⟩, .int .i64 n, .slice ar lr cr]] w fun r w' => r = .returned (.agg #[.int .i64 er, .int .i64 at_, .string ⟨tx.toArray⟩, .slice bn ln' cn', .int .i64 kd, .int .i64 nn]) ∧ Q w' := by
  have HT := toHid hT
  have b1 : (vb == 1) = false := by simp; omega
  have b2 : (vb == 2) = false := by simp; omega
  have b3 : (vb == 3) = false := by simp; omega
  have b4 : (vb == 4) = false := by simp; omega
  have b5 : (vb == 5) = false := by simp; omega
  have b6 : (vb == 6) = false := by simp; omega
  have b7 : (vb == 7) = false := by simp; omega
  have b8 : (vb == 8) = false := by simp; omega
  clear hT hvb
  go_enter Tryz.func47, Tryz.ntmps47
  have HT2 := toHid (HT.out ((w.alloc (.cells #[.int .i64 vb, .slice an ln cn, .int .i64 k, .string ⟨nm.toArray⟩, .int .i64 n, .slice ar lr cr] 97)).alloc (.cells #[.int .i64 0, .int .i64 0, .string ⟨#[]⟩, .slice none 0 0, .int .i64 0, .int .i64 0] 39)) (below2 _ _ _) (by simp))
  have HROW := toHid (alloc2_new' w (.cells #[.int .i64 vb, .slice an ln cn, .int .i64 k, .string ⟨nm.toArray⟩, .int .i64 n, .slice ar lr cr] 97) #[.int .i64 0, .int .i64 0, .string ⟨#[]⟩, .slice none 0 0, .int .i64 0, .int .i64 0] 39)
  clear HT
  go_wp2_with (first | (go_at_call 70; refine HT2.out.mono ?_; rintro r w1 ⟨rfl, hk1, hq⟩; refine Hid.out ?_))
  obtain ⟨⟨k0, k1, k2, k3, k4, k5⟩, ⟨f0, f1, f2, f3, f4, f5⟩, hsz⟩ := row6 ((hk1 (w.heap.size + 1) rfl).trans HROW.out)
  have HQ := toHid hq
  clear hk1 hq HT2
  refine toHid ?_
  go_wp2
  refine bodyPost_ret (v := .agg #[.int .i64 er, .int .i64 at_, .string ⟨tx.toArray⟩, .slice bn ln' cn', .int .i64 kd, .int .i64 nn]) (by simp [results, Tryz.results47, go_sem, k0, k1, k2, k3, k4, k5, hsz]) rfl ?_
  exact ⟨rfl, hQ _ _ _ (hQ _ _ _ (hQ _ _ _ (hQ _ _ _ (hQ _ _ _ (hQ _ _ _ HQ.out)))))⟩
set_option maxRecDepth 100000 in
set_option maxHeartbeats 4000000 in
theorem followEdit (e : Nat) (vb : Int) (hvb : vb = 1 ∨ vb = 2 ∨ vb = 3) (an : Option Addr) (ln cn : Nat) (k : Int) (nm : By) (n : Int) (ar : Option Addr) (lr cr : Nat) (w : World) (Q : Int → Option Addr → Nat → Nat → World → Prop) (hQ : ∀ er a l c w1 j u, Q er a l c w1 → Q er a l c (w1.setCell ⟨w.heap.size + 1, j, none⟩ u))
    (hT : ∀ W, Below w.heap.size w W → w.heap.size + 1 < W.heap.size → Calls Tryz.prog 65 #[.pointer (some ⟨e, 0, none⟩), .agg #[.int .i64 vb, .slice an ln cn, .int .i64 k, .string ⟨nm.toArray⟩, .int .i64 n, .slice ar lr cr]] W fun r w' => ∃ er bn ln' cn', r = .returned (.agg #[.int .i64 er, .int .i64 0, .string ⟨#[]⟩, .slice bn ln' cn', .int .i64 0, .int .i64 0]) ∧ (∀ q, q = w.heap.size + 1 → w'.heap[q]? = W.heap[q]?) ∧ Q er bn ln' cn' w') :
    Calls Tryz.prog 47 #[.pointer (some ⟨e, 0, none⟩), .agg #[.int .i64 vb, .slice an ln cn, .int .i64 k, .string ⟨nm.toArray⟩, .int .i64 n, .slice ar lr cr]] w fun r w' => ∃ er bn ln' cn', r = .returned (.agg #[.int .i64 er, .int .i64 0, .string ⟨#[]⟩, .slice bn ln' cn', .int .i64 0, .int .i64 0]) ∧ Q er bn ln' cn' w' := by
  have HT := toHid hT
  clear hT
  have HT2 := toHid (HT.out ((w.alloc (.cells #[.int .i64 vb, .slice an ln cn, .int .i64 k, .string ⟨nm.toArray⟩, .int .i64 n, .slice ar lr cr] 97)).alloc (.cells #[.int .i64 0, .int .i64 0, .string ⟨#[]⟩, .slice none 0 0, .int .i64 0, .int .i64 0] 39)) (below2 _ _ _) (by simp))
  have HROW := toHid (alloc2_new' w (.cells #[.int .i64 vb, .slice an ln cn, .int .i64 k, .string ⟨nm.toArray⟩, .int .i64 n, .slice ar lr cr] 97) #[.int .i64 0, .int .i64 0, .string ⟨#[]⟩, .slice none 0 0, .int .i64 0, .int .i64 0] 39)
  clear HT
  rcases hvb with rfl | rfl | rfl <;> go_enter Tryz.func47, Tryz.ntmps47
  all_goals go_wp2_with (first | (go_at_call 65; refine HT2.out.mono ?_; rintro r w1 ⟨er, bn, ln', cn', rfl, hk1, hq⟩; refine Hid.out ?_))
  all_goals obtain ⟨⟨k0, k1, k2, k3, k4, k5⟩, ⟨f0, f1, f2, f3, f4, f5⟩, hsz⟩ := row6 ((hk1 (w.heap.size + 1) rfl).trans HROW.out)
  all_goals have HQ := toHid hq
  all_goals clear hk1 hq HT2
  all_goals refine toHid ?_
  all_goals go_wp2
  all_goals refine bodyPost_ret (v := .agg #[.int .i64 er, .int .i64 0, .string ⟨#[]⟩, .slice bn ln' cn', .int .i64 0, .int .i64 0]) (by simp [results, Tryz.results47, go_sem, k0, k1, k2, k3, k4, k5, hsz]) rfl ?_
  all_goals exact ⟨er, bn, ln', cn', rfl, hQ _ _ _ _ _ _ _ (hQ _ _ _ _ _ _ _ (hQ _ _ _ _ _ _ _ (hQ _ _ _ _ _ _ _ (hQ _ _ _ _ _ _ _ (hQ _ _ _ _ _ _ _ HQ.out)))))⟩
end Go.Proofs.YtihgojcfpnhelaaGreatDoor
namespace Go.Proofs.YtihgojcfpnhelaaGreatDoor
open Go.RowKit

/-- A reply that tells nothing. -/
def zRep : Obj := .cells #[.int .i64 0, .int .i64 0, .string ⟨#[]⟩, .slice none 0 0, .int .i64 0, .int .i64 0] 39 (0, 0)

def rpV (er at_ : Int) (tx : By) (bn : Option Addr) (ln cn : Nat) (kd nn : Int) : Value := .agg #[.int .i64 er, .int .i64 at_, .string ⟨tx.toArray⟩, .slice bn ln cn, .int .i64 kd, .int .i64 nn]

def lineO (vb : Int) (an : Option Addr) (ln cn : Nat) (k : Int) (nm : By) (n : Int) (ar : Option Addr) (lr cr : Nat) : Obj := .cells #[.int .i64 vb, .slice an ln cn, .int .i64 k, .string ⟨nm.toArray⟩, .int .i64 n, .slice ar lr cr] 97 (0, 0)

/-- What follows a line that was read, told of what is answered. -/
def FolPost (Q : Nat → Int → By → Option Addr → Nat → Nat → Int → Int → World → Prop) (q g : Nat) (r : Ending) (w2 : World) : Prop :=
  ∃ at_ tx bn ln cn kd nn, r = .returned (rpV 0 at_ tx bn ln cn kd nn) ∧ w2.heap[q]? = some zRep ∧ w2.heap[g]? = some zRep ∧ Q g at_ tx bn ln cn kd nn w2

def RdFol (Q : Nat → Int → By → Option Addr → Nat → Nat → Int → Int → World → Prop) (e : Nat) (w : World) (r : Ending) (w1 : World) : Prop :=
  Below (w.heap.size + 1) (w.alloc zRep) w1 ∧ ∃ vb an ln cn k nm n ar lr cr, r = .returned (.tuple #[lineV vb an ln cn k nm n ar lr cr, .int .i64 0, .int .i64 0]) ∧
    Calls Tryz.prog 47 #[.pointer (some ⟨e, 0, none⟩), lineV vb an ln cn k nm n ar lr cr] ((w1.alloc (lineO vb an ln cn k nm n ar lr cr)).alloc zRep) (FolPost Q w.heap.size (w1.heap.size + 1))

set_option maxRecDepth 100000 in
set_option maxHeartbeats 4000000 in
theorem doOk (e : Nat) (s : By) (w : World) (Q : Nat → Int → By → Option Addr → Nat → Nat → Int → Int → World → Prop)
    (hQ : ∀ g at_ tx bn ln cn kd nn w' j u, w.heap.size < g → Q g at_ tx bn ln cn kd nn w' → Q g at_ tx bn ln cn kd nn (w'.setCell ⟨w.heap.size, j, none⟩ u) ∧ Q g at_ tx bn ln cn kd nn (w'.setCell ⟨g, j, none⟩ u))
    (hR : Calls Tryz.prog 46 #[.string ⟨s.toArray⟩] (w.alloc zRep) (RdFol Q e w)) :
    Calls Tryz.prog 20 #[.pointer (some ⟨e, 0, none⟩), .string ⟨s.toArray⟩] w fun r w' => ∃ g at_ tx bn ln cn kd nn, r = .returned (rpV 0 at_ tx bn ln cn kd nn) ∧ Q g at_ tx bn ln cn kd nn w' := by
  have HR := toHid hR
  have HQ := toHid hQ
  clear hR hQ
  unfold zRep at HR
  go_enter Tryz.func20, Tryz.ntmps20
  go_wp2_with (first | (go_at_call 46; refine HR.out.mono ?_; rintro r w1 ⟨hb1, vb, an, ln, cn, k, nm, n, ar, lr, cr, hr, hf⟩; unfold lineV at hr; subst hr; refine Hid.out ?_))
  have hs1 : w.heap.size < w1.heap.size := by have := hb1.size; simp at this; omega
  have HF := toHid hf
  unfold lineV lineO zRep at HF
  clear hb1 hf HR
  refine toHid ?_
  go_wp2_with (first | (go_at_call 47; refine HF.out.mono ?_; rintro r w2 ⟨at_, tx, bn, ln', cn', kd, nn, hr, h1, h2, hq⟩; unfold rpV at hr; subst hr; refine Hid.out ?_))
  have HQ2 := toHid hq
  obtain ⟨⟨k0, k1, k2, k3, k4, k5⟩, ⟨f0, f1, f2, f3, f4, f5⟩, hsz⟩ := row6 h1
  obtain ⟨⟨j0, j1, j2, j3, j4, j5⟩, ⟨g0, g1, g2, g3, g4, g5⟩, hsz2⟩ := row6 h2
  have hne : w.heap.size ≠ w1.heap.size + 1 := by omega
  have hne' : w1.heap.size + 1 ≠ w.heap.size := by omega
  clear h1 h2 hq HF
  refine toHid ?_
  go_wp2
  refine bodyPost_ret (v := .agg #[.int .i64 0, .int .i64 at_, .string ⟨tx.toArray⟩, .slice bn ln' cn', .int .i64 kd, .int .i64 nn]) (by simp [results, Tryz.results20, go_sem, k0, k1, k2, k3, k4, k5, hsz, hne]) (by simp [go_sem]) ?_
  have sA : ∀ w' j u, Q (w1.heap.size + 1) at_ tx bn ln' cn' kd nn w' → Q (w1.heap.size + 1) at_ tx bn ln' cn' kd nn (w'.setCell ⟨w.heap.size, j, none⟩ u) := fun w' j u h => (HQ.out _ _ _ _ _ _ _ _ w' j u (by omega) h).1
  have sB : ∀ w' j u, Q (w1.heap.size + 1) at_ tx bn ln' cn' kd nn w' → Q (w1.heap.size + 1) at_ tx bn ln' cn' kd nn (w'.setCell ⟨w1.heap.size + 1, j, none⟩ u) := fun w' j u h => (HQ.out _ _ _ _ _ _ _ _ w' j u (by omega) h).2
  exact ⟨w1.heap.size + 1, at_, tx, bn, ln', cn', kd, nn, rfl, sA _ _ _ (sA _ _ _ (sA _ _ _ (sA _ _ _ (sA _ _ _ (sA _ _ _ (sB _ _ _ (sB _ _ _ (sB _ _ _ (sB _ _ _ (sB _ _ _ (sB _ _ _ HQ2.out)))))))))))⟩
end Go.Proofs.YtihgojcfpnhelaaGreatDoor
namespace Go.Proofs.YtihgojcfpnhelaaGreatDoor
open Go.RowKit

theorem zRep_new (w : World) : (w.alloc zRep).heap[w.heap.size]? = some zRep := heap_alloc_new w _

theorem two_rows (w1 : World) (o : Obj) (q : Nat) (h : w1.heap[q]? = some zRep) : ((w1.alloc o).alloc zRep).heap[q]? = some zRep ∧ ((w1.alloc o).alloc zRep).heap[w1.heap.size + 1]? = some zRep := by
  have hq := (Array.getElem?_eq_some_iff.1 h).1
  refine ⟨?_, ?_⟩
  · rw [Below.heap_alloc _ _ _ (by simp; omega), Below.heap_alloc _ _ _ hq]
    exact h
  · have := zRep_new (w1.alloc o)
    simpa using this

/-- A line that tells something of a field. -/
theorem doTell (e : Nat) (s : By) (vb : Int) (hvb : vb = 9 ∨ vb = 10) (x : By) (tx : By) (k n : Int) (w : World) (hE : Env w) (hEL : EnvL w)
    (hRd : ∀ W, Env W → EnvL W → Calls Tryz.prog 46 #[.string ⟨s.toArray⟩] W fun r w' => ∃ (gn cn : Nat), r = .returned (.tuple #[.agg #[.int .i64 vb, .slice (some ⟨gn, 0, none⟩) 1 cn, .int .i64 0, .string ⟨#[]⟩, .int .i64 0, .slice none 0 0], .int .i64 0, .int .i64 0]) ∧ w'.cell? ⟨gn, 0, none⟩ = some (.string ⟨x.toArray⟩) ∧ gn < w'.heap.size ∧ Below W.heap.size W w')
    (hT : ∀ gn cn W, Below w.heap.size w W → W.cell? ⟨gn, 0, none⟩ = some (.string ⟨x.toArray⟩) → gn < W.heap.size → Calls Tryz.prog 70 #[.pointer (some ⟨e, 0, none⟩), .agg #[.int .i64 vb, .slice (some ⟨gn, 0, none⟩) 1 cn, .int .i64 0, .string ⟨#[]⟩, .int .i64 0, .slice none 0 0]] W fun r w' => r = .returned (.agg #[.int .i64 0, .int .i64 0, .string ⟨tx.toArray⟩, .slice none 0 0, .int .i64 k, .int .i64 n]) ∧ Below W.heap.size W w') :
    Calls Tryz.prog 20 #[.pointer (some ⟨e, 0, none⟩), .string ⟨s.toArray⟩] w fun r w' => r = .returned (.agg #[.int .i64 0, .int .i64 0, .string ⟨tx.toArray⟩, .slice none 0 0, .int .i64 k, .int .i64 n]) ∧ Below w.heap.size w w' := by
  have hb0 : Below w.heap.size w (w.alloc zRep) := (Below.refl _ _).alloc (Nat.le_refl _) _
  refine (doOk e s w (fun g at_ tx' bn ln cn kd nn w' => (at_ = 0 ∧ tx' = tx ∧ bn = none ∧ ln = 0 ∧ cn = 0 ∧ kd = k ∧ nn = n) ∧ Below w.heap.size w w') ?_ ?_).mono ?_
  · rintro g at_ tx' bn ln cn kd nn w' j u hg ⟨h1, h2⟩
    exact ⟨⟨h1, h2.setCell (p := ⟨w.heap.size, j, none⟩) (Nat.le_refl _) _⟩, h1, h2.setCell (p := ⟨g, j, none⟩) (by show w.heap.size ≤ g; omega) _⟩
  · refine (hRd _ (hE.next hb0) (hEL.next hE hb0)).mono ?_
    rintro r w1 ⟨gn, cn, rfl, hc, hg, hb1⟩
    have hs1 := hb1.size
    simp at hs1
    refine ⟨by simpa using hb1, vb, some ⟨gn, 0, none⟩, 1, cn, 0, [], 0, none, 0, 0, rfl, ?_⟩
    obtain ⟨r1, r2⟩ := two_rows w1 (lineO vb (some ⟨gn, 0, none⟩) 1 cn 0 [] 0 none 0 0) w.heap.size ((hb1.block _ (by simp)).trans (zRep_new w))
    have hbw : Below w.heap.size w ((w1.alloc (lineO vb (some ⟨gn, 0, none⟩) 1 cn 0 [] 0 none 0 0)).alloc zRep) := (hb0.trans (hb1.mono (by simp))).trans ((below2 w1 _ _).mono (by omega))
    refine (followTell e vb (by omega) (some ⟨gn, 0, none⟩) 1 cn 0 [] 0 none 0 0 _ 0 0 tx none 0 0 k n (fun w' => w'.heap[w.heap.size]? = some zRep ∧ w'.heap[w1.heap.size + 1]? = some zRep ∧ Below w.heap.size w w') ?_ ?_).mono ?_
    · rintro w2 j u ⟨a1, a2, a3⟩
      refine ⟨(Below.heap_setCell _ _ _ _ ?_).trans a1, (Below.heap_setCell _ _ _ _ ?_).trans a2, a3.setCell ?_ _⟩
      · simp; omega
      · simp
      · simp; omega
    · intro W hW hsz
      have hW' := hW.size
      simp at hW'
      refine (hT gn cn W (hbw.trans (hW.mono (by simp; omega))) ?_ (by omega)).mono ?_
      · rw [hW.cell (p := ⟨gn, 0, none⟩) (by simp; omega)]
        exact ((below2 w1 _ _).cell (p := ⟨gn, 0, none⟩) hg).trans hc
      · rintro r w' ⟨rfl, hb⟩
        refine ⟨rfl, fun q hq => hb.block q (by omega), (hb.block _ (by omega)).trans ((hW.block _ (by simp; omega)).trans r1), (hb.block _ (by simp at hsz; omega)).trans ((hW.block _ (by simp)).trans r2), ?_⟩
        exact (hbw.trans (hW.mono (by simp; omega))).trans (hb.mono (by omega))
    · rintro r w' ⟨rfl, h1, h2, h3⟩
      exact ⟨0, tx, none, 0, 0, k, n, rfl, h1, h2, ⟨rfl, rfl, rfl, rfl, rfl, rfl, rfl⟩, h3⟩
  · rintro r w' ⟨g, at_, tx', bn, ln, cn, kd, nn, rfl, ⟨rfl, rfl, rfl, rfl, rfl, rfl, rfl⟩, hb⟩
    exact ⟨rfl, hb⟩

theorem doValue (e : Nat) (nm : UInt8) (hnm : isL nm = true) (k n : Int) (w : World) (hE : Env w) (hEL : EnvL w)
    (hS : ∀ W, Below w.heap.size w W → Calls Tryz.prog 102 #[.pointer (some ⟨e, 0, none⟩), .string ⟨([nm] : By).toArray⟩] W fun r w' => r = .returned (.tuple #[.agg #[.int .i64 k, .int .i64 n], .int .i64 0]) ∧ Below W.heap.size W w') :
    Calls Tryz.prog 20 #[.pointer (some ⟨e, 0, none⟩), .string ⟨([118, 97, 108, 117, 101, 32, nm] : By).toArray⟩] w fun r w' => r = .returned (.agg #[.int .i64 0, .int .i64 0, .string ⟨#[]⟩, .slice none 0 0, .int .i64 k, .int .i64 n]) ∧ Below w.heap.size w w' :=
  doTell e _ 9 (Or.inl rfl) [nm] [] k n w hE hEL (fun W h1 h2 => readValue nm hnm W h1 h2) fun gn cn W hW hc hg => tellValue e gn cn [nm] k n W hc hg fun W' hW' => hS W' (hW.trans (hW'.mono hW.size))

theorem doSet (e : Nat) (nm : UInt8) (hnm : isL nm = true) (rest : By) (rts : List (By × Nat)) (p : Pt) (hl : rest.length ≤ 112) (ht : toks (rest.length + 2) rest 8 = (rts, none)) (hD : Der rts 1 0 rts.length p) (ho : opn p ≤ 6) (hx : (txt p).length ≤ 100) (w : World) (hE : Env w) (hEL : EnvL w) (Q : (Nat → Prop) → World → Prop) (hQ : ∀ F w1 q j u, F q → Q F w1 → Q F (w1.setCell ⟨q, j, none⟩ u))
    (hEd : ∀ (gn cn : Nat) (ar : Option Addr) (lr cr : Nat) W1 W (F : Nat → Prop), Below w.heap.size w W1 → w.heap.size < W1.heap.size → Below W1.heap.size W1 W → (∀ q, F q → q < W.heap.size ∧ (q = w.heap.size ∨ W1.heap.size ≤ q)) → W1.cell? ⟨gn, 0, none⟩ = some (.string ⟨([nm] : By).toArray⟩) → gn < W1.heap.size → PIs W1 (fun q => w.heap.size + 1 ≤ q ∧ q < W1.heap.size) p ar lr cr → Calls Tryz.prog 65 #[.pointer (some ⟨e, 0, none⟩), .agg #[.int .i64 1, .slice (some ⟨gn, 0, none⟩) 1 cn, .int .i64 (p.k : Int), .string ⟨p.nm.toArray⟩, .int .i64 (p.n : Int), .slice ar lr cr]] W fun r w' => ∃ (bn : Option Addr) (ln' cn' : Nat), r = .returned (.agg #[.int .i64 0, .int .i64 0, .string ⟨#[]⟩, .slice bn ln' cn', .int .i64 0, .int .i64 0]) ∧ (∀ q, F q → w'.heap[q]? = W.heap[q]?) ∧ Q F w') :
    Calls Tryz.prog 20 #[.pointer (some ⟨e, 0, none⟩), .string ⟨(setL nm rest).toArray⟩] w fun r w' => (∃ (bn : Option Addr) (ln' cn' : Nat), r = .returned (.agg #[.int .i64 0, .int .i64 0, .string ⟨#[]⟩, .slice bn ln' cn', .int .i64 0, .int .i64 0])) ∧ ∃ F, Q F w' := by
  have hb0 : Below w.heap.size w (w.alloc zRep) := (Below.refl _ _).alloc (Nat.le_refl _) _
  refine (doOk e _ w (fun g at_ tx' bn ln cn kd nn w' => (at_ = 0 ∧ tx' = [] ∧ kd = 0 ∧ nn = 0) ∧ ∃ F, F w.heap.size ∧ F g ∧ Q F w') ?_ ?_).mono ?_
  · rintro g at_ tx' bn ln cn kd nn w' j u hg ⟨h1, F, h2, h3, h4⟩
    exact ⟨⟨h1, F, h2, h3, hQ F _ _ _ _ h2 h4⟩, h1, F, h2, h3, hQ F _ _ _ _ h3 h4⟩
  · refine (readSet nm hnm rest rts p hl ht hD ho hx _ (hE.next hb0) (hEL.next hE hb0)).mono ?_
    rintro r w1 ⟨gn, cn, ar, lr, cr, rfl, hc, hg, hp, hb1⟩
    have hs1 := hb1.size
    simp at hs1
    refine ⟨by simpa using hb1, 1, some ⟨gn, 0, none⟩, 1, cn, p.k, p.nm, p.n, ar, lr, cr, rfl, ?_⟩
    obtain ⟨r1, r2⟩ := two_rows w1 (lineO 1 (some ⟨gn, 0, none⟩) 1 cn p.k p.nm p.n ar lr cr) w.heap.size ((hb1.block _ (by simp)).trans (zRep_new w))
    have hbw1 : Below w.heap.size w w1 := hb0.trans (hb1.mono (by simp))
    refine (followEdit e 1 (Or.inl rfl) (some ⟨gn, 0, none⟩) 1 cn p.k p.nm p.n ar lr cr _ (fun er bn0 ln0 cn0 w' => er = 0 ∧ w'.heap[w.heap.size]? = some zRep ∧ w'.heap[w1.heap.size + 1]? = some zRep ∧ ∃ F, F w.heap.size ∧ F (w1.heap.size + 1) ∧ F (((w1.alloc (lineO 1 (some ⟨gn, 0, none⟩) 1 cn p.k p.nm p.n ar lr cr)).alloc zRep).heap.size + 1) ∧ Q F w') ?_ ?_).mono ?_
    · rintro er a l c w2 j u ⟨a0, a1, a2, F, a3, a4, a5, a6⟩
      refine ⟨a0, (Below.heap_setCell _ _ _ _ ?_).trans a1, (Below.heap_setCell _ _ _ _ ?_).trans a2, F, a3, a4, a5, hQ F _ _ _ _ a5 a6⟩
      · simp; omega
      · simp
    · intro W hW hsz
      have hW' := hW.size
      simp at hW' hsz
      refine (hEd gn cn ar lr cr w1 W (fun q => q = w.heap.size ∨ q = w1.heap.size + 1 ∨ q = w1.heap.size + 1 + 1 + 1) hbw1 (by omega) ((below2 w1 _ _).trans (hW.mono (by simp; omega))) ?_ hc hg ?_).mono ?_
      · intro q hq
        omega
      · exact hp.wide fun q hq => ⟨by have := hq.1; simpa using this, hq.2⟩
      · rintro r w' ⟨bn, ln', cn', rfl, hk, hq⟩
        refine ⟨0, bn, ln', cn', rfl, fun q h => hk q (by simp at h; omega), rfl, (hk _ (Or.inl rfl)).trans ((hW.block _ (by simp; omega)).trans r1), (hk _ (Or.inr (Or.inl rfl))).trans ((hW.block _ (by simp)).trans r2), _, Or.inl rfl, Or.inr (Or.inl rfl), Or.inr (Or.inr (by simp)), hq⟩
    · rintro r w' ⟨er, bn, ln', cn', rfl, rfl, h1, h2, F, h3, h4, _, h5⟩
      exact ⟨0, [], bn, ln', cn', 0, 0, rfl, h1, h2, ⟨rfl, rfl, rfl, rfl⟩, F, h3, h4, h5⟩
  · rintro r w' ⟨g, at_, tx', bn, ln, cn, kd, nn, rfl, ⟨rfl, rfl, rfl, rfl⟩, F, _, _, hq⟩
    exact ⟨⟨bn, ln, cn, rfl⟩, F, hq⟩
end Go.Proofs.YtihgojcfpnhelaaGreatDoor
