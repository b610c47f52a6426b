import Derived.Test.YtihgojcfpnhelaaGreatDoorSk
import Derived.Lib.SliceRun
import Derived.Test.YtihgojcfpnhelaaGreatDoorSb
import Derived.Test.YtihgojcfpnhelaaGreatDoorXba
import Derived.Test.YtihgojcfpnhelaaGreatDoorMt
set_option linter.unusedVariables false
set_option linter.unusedSimpArgs false
namespace Go.Proofs.YtihgojcfpnhelaaGreatDoor
open Go.RowKit

theorem own_setNe {w : World} {base z n q j : Nat} {e : TypeId} {v u : Value} {xs : List Value} (h : w.ownsRow base e z v n xs) (hq : v.ownBlock ≠ some q) : (w.setCell ⟨q, j, none⟩ u).ownsRow base e z v n xs := by
  obtain ⟨h1, h2⟩ := h
  refine ⟨h1, h2.imp id ?_⟩
  rintro ⟨g, cap, cur, rfl, h4, h5, h6⟩
  exact ⟨g, cap, cur, rfl, h4, (Below.heap_setCell _ _ _ _ (by show g ≠ q; intro e; exact hq (by rw [e]; rfl))).trans h5, h6⟩

set_option maxRecDepth 100000 in
set_option maxHeartbeats 1000000 in
/-- 'Add' keeps, where no group is open. -/
theorem addKeep (e : Nat) (fv : Fn) (cs : Array Value) (w : World) (Q : Ending → World → Prop) (h4 : w.cell? ⟨e, 4, none⟩ = some (.bool false))
    (hK : Calls Tryz.prog 100 #[.pointer (some ⟨e, 1, none⟩), .func fv #[] cs] w fun r w' => r = .returned (.tuple #[]) ∧ Q r w') :
    Calls Tryz.prog 99 #[.pointer (some ⟨e, 1, none⟩), .func fv #[] cs] w fun r w' => r = .returned (.tuple #[]) ∧ Q r w' := by
  have HK := toHid hK
  clear hK
  go_enter Tryz.func99, Tryz.ntmps99
  go_wp2_with (first | (go_at_call 100; refine HK.out.mono ?_; rintro r w2 ⟨rfl, hq⟩; refine Hid.out ?_))
  have HQ := toHid hq
  clear hq HK
  refine toHid ?_
  go_wp2
  go_end0
  exact ⟨rfl, HQ.out⟩
end Go.Proofs.YtihgojcfpnhelaaGreatDoor
namespace Go.Proofs.YtihgojcfpnhelaaGreatDoor
open Go.RowKit

set_option maxRecDepth 100000 in
set_option maxHeartbeats 4000000 in
theorem value68 (x : By) {S : Nat → Prop} (e c : Nat) (a : Option Addr) (fs : List (Nat × Fd)) (w : World) (hs : Sh w S a fs) (hc : w.cell? ⟨e, 0, none⟩ = some (.slice a fs.length c)) (he : e < w.heap.size) (hl : fs.length ≤ 1000) :
    Calls Tryz.prog 102 #[.pointer (some ⟨e, 0, none⟩), .string ⟨x.toArray⟩] w fun r w' => r = .returned (.tuple #[.agg #[.int .i64 (match findF fs x with | some f => f.2.v.1 | none => 0), .int .i64 (match findF fs x with | some f => f.2.v.2 | none => 0)], .int .i64 (match findF fs x with | some _ => 0 | none => 5)]) ∧ Below w.heap.size w w' := by
  have H := toHid (fun W (hb : Below w.heap.size w W) => find101 x e c a fs W (hs.next hb) ((hb.cell (p := ⟨e, 0, none⟩) he).trans hc) hl)
  have HS := toHid hs
  clear hs
  cases hf : findF fs x with
  | some f =>
    have hfb : findB fs x = some ⟨f.1, 0, none⟩ := by simp [findB, hf]
    rw [hfb] at H
    obtain ⟨_, _, _, _, a1, l1, c1, hb, _⟩ := HS.out.fld f (findF_mem hf).1
    have HR := toHid hb
    clear hb
    go_enter Tryz.func102, Tryz.ntmps102
    go_wp2_with (first | (go_at_call 137; refine (H.out _ ((Below.refl _ _).alloc (Nat.le_refl _) _)).mono ?_; rintro r w1 ⟨rfl, rfl⟩; refine Hid.out ?_))
    obtain ⟨⟨k0, k1, k2, k3, k4, k5, k6⟩, hfz, hsz⟩ := row7 ((Below.heap_alloc w (.cells #[.int .i64 0, .int .i64 0] 177) _ (HS.out.fld f (findF_mem hf).1).lt).trans HR.out)
    have hne : f.1 ≠ w.heap.size := by have := (HS.out.fld f (findF_mem hf).1).lt; omega
    have hne' : w.heap.size ≠ f.1 := fun h => hne h.symm
    generalize f.1 = q at *
    clear hfz H hf hfb
    refine toHid ?_
    go_wp2
    refine bodyPost_ret (v := .tuple #[.agg #[.int .i64 f.2.v.1, .int .i64 f.2.v.2], .int .i64 0]) (by simp [results, Tryz.results102, go_sem]) rfl ?_
    exact ⟨rfl, (Below.refl _ _).alloc (Nat.le_refl _) _⟩
  | none =>
    have hfb : findB fs x = none := by simp [findB, hf]
    rw [hfb] at H
    go_enter Tryz.func102, Tryz.ntmps102
    go_wp2_with (first | (go_at_call 137; refine (H.out _ ((Below.refl _ _).alloc (Nat.le_refl _) _)).mono ?_; rintro r w1 ⟨rfl, rfl⟩))
    refine bodyPost_ret (v := .tuple #[.agg #[.int .i64 0, .int .i64 0], .int .i64 5]) (by simp [results, Tryz.results102, go_sem]) rfl ?_
    exact ⟨rfl, (Below.refl _ _).alloc (Nat.le_refl _) _⟩

/-- What 'Rule' answers. -/
def RlPost (fs : List (Nat × Fd)) (x : By) (w : World) (r : Ending) (w' : World) : Prop :=
  Below w.heap.size w w' ∧ match findF fs x with | some f => r = .returned (.tuple #[.string ⟨(txt f.2.p).toArray⟩, .int .i64 0]) | none => r = .returned (.tuple #[.string ⟨#[]⟩, .int .i64 5])

set_option maxRecDepth 100000 in
set_option maxHeartbeats 4000000 in
theorem rule69 (x : By) {S : Nat → Prop} (e c : Nat) (a : Option Addr) (fs : List (Nat × Fd)) (w : World) (hs : Sh w S a fs) (hE : Env w) (hc : w.cell? ⟨e, 0, none⟩ = some (.slice a fs.length c)) (he : e < w.heap.size) (hl : fs.length ≤ 1000) :
    Calls Tryz.prog 103 #[.pointer (some ⟨e, 0, none⟩), .string ⟨x.toArray⟩] w (RlPost fs x w) := by
  have H := toHid (find101 x e c a fs w hs hc hl)
  unfold RlPost
  cases hf : findF fs x with
  | some f =>
    have hfb : findB fs x = some ⟨f.1, 0, none⟩ := by simp [findB, hf]
    rw [hfb] at H
    obtain ⟨_, hsh, hgd, htx, a1, l1, c1, hb, hP⟩ := hs.fld f (findF_mem hf).1
    have HPL := toHid (rulePlain9 f.2.p a1 l1 c1 w hP hs.still hE hgd (by omega))
    obtain ⟨⟨k0, k1, k2, k3, k4, k5, k6⟩, hfz, hsz⟩ := row7 hb
    clear hb hs hE hP hsh hgd htx
    go_enter Tryz.func103, Tryz.ntmps103
    go_wp2_with (first | (go_at_call 137; refine H.out.mono ?_; rintro r w1 ⟨rfl, rfl⟩) | (go_at_call 44; refine HPL.out.mono ?_; rintro r w2 ⟨rfl, hb2⟩))
    go_ret2
    exact ⟨hb2, rfl⟩
  | none =>
    have hfb : findB fs x = none := by simp [findB, hf]
    rw [hfb] at H
    go_enter Tryz.func103, Tryz.ntmps103
    go_wp2_with (first | (go_at_call 137; refine H.out.mono ?_; rintro r w1 ⟨rfl, rfl⟩))
    go_ret2
    exact ⟨Below.refl _ _, rfl⟩

set_option maxRecDepth 100000 in
set_option maxHeartbeats 4000000 in
theorem order71 {S : Nat → Prop} (e c : Nat) (a : Option Addr) (fs : List (Nat × Fd)) (w : World) (hs : Sh w S a fs) (hc : w.cell? ⟨e, 0, none⟩ = some (.slice a fs.length c)) (hl : fs.length ≤ 1000) :
    Calls Tryz.prog 105 #[.pointer (some ⟨e, 0, none⟩)] w fun r w' => ∃ v, r = .returned v ∧ w'.ownsRow w.heap.size 9 1 v fs.length (strs (nmsF fs)) ∧ Below w.heap.size w w' := by
  have H := toHid (names107 a c fs w hs hl)
  clear hs
  go_enter Tryz.func105, Tryz.ntmps105
  go_wp2_with (first | (go_at_call 142; refine H.out.mono ?_; rintro r w1 ⟨v, rfl, ho, hb1⟩))
  go_ret
  exact ⟨v, rfl, ho, hb1⟩
end Go.Proofs.YtihgojcfpnhelaaGreatDoor
namespace Go.Proofs.YtihgojcfpnhelaaGreatDoor
open Go.RowKit

section
variable {ts : List (By × Nat)}

/-- No sign of a level from n on stands there. -/
def Fo (ts : List (By × Nat)) (n j : Nat) : Prop := ∀ m, n ≤ m → m ≤ 5 → inB (tAt ts j) (sgn m) = false

theorem Fo.up {n j : Nat} (h : Fo ts n j) : Fo ts (n + 1) j := fun m h1 h5 => h m (by omega) h5

theorem sgn_apart (n m : Nat) (h1 : 1 ≤ n) (h2 : n < m) (h5 : m ≤ 5) (t : By) (h : inB t (sgn n) = true) : inB t (sgn m) = false := by
  have hn : n = 1 ∨ n = 2 ∨ n = 3 ∨ n = 4 := by omega
  have hm : m = 2 ∨ m = 3 ∨ m = 4 ∨ m = 5 := by omega
  simp only [inB, List.contains_iff_mem] at h
  rcases hn with rfl | rfl | rfl | rfl <;> simp only [sgn, List.mem_cons, List.not_mem_nil, or_false] at h <;> rcases hm with rfl | rfl | rfl | rfl <;> first | (exfalso; omega) | (subst h; decide) | (rcases h with rfl | rfl <;> decide)

theorem Fo.sgn {n j : Nat} (h : inB (tAt ts j) (sgn n) = true) (h1 : 1 ≤ n) : Fo ts (n + 1) j := fun m h2 h5 => sgn_apart n m h1 (by omega) h5 _ h

theorem fo_of {j : Nat} (x : By) (n : Nat) (hn : 1 ≤ n) (h : tAt ts j = x) (hx : inB x (Go.Proofs.YtihgojcfpnhelaaGreatDoor.sgn 1) = false ∧ inB x (Go.Proofs.YtihgojcfpnhelaaGreatDoor.sgn 2) = false ∧ inB x (Go.Proofs.YtihgojcfpnhelaaGreatDoor.sgn 3) = false ∧ inB x (Go.Proofs.YtihgojcfpnhelaaGreatDoor.sgn 4) = false ∧ inB x (Go.Proofs.YtihgojcfpnhelaaGreatDoor.sgn 5) = false) : Fo ts n j := by
  intro m h1 h5
  rw [h]
  obtain ⟨a1, a2, a3, a4, a5⟩ := hx
  rcases (show m = 1 ∨ m = 2 ∨ m = 3 ∨ m = 4 ∨ m = 5 by omega) with rfl | rfl | rfl | rfl | rfl <;> assumption

theorem cls_uniq (t : By) (k k' : Nat) (h : Cls t k) (h' : Cls t k') : k = k' := by
  have hx : ∀ y, y ∈ meanN → headD y.1 = false ∧ nameB y.1 = false ∧ y.1 ≠ [] := by decide
  rcases h with ⟨h, rfl⟩ | ⟨h0, h, rfl⟩ | ⟨rfl, rfl⟩ | h
  · rcases h' with ⟨_, rfl⟩ | ⟨g, _, rfl⟩ | ⟨rfl, rfl⟩ | g
    · rfl
    · rw [h] at g; cases g
    · cases h
    · have := (hx _ g).1; rw [h] at this; cases this
  · rcases h' with ⟨g, rfl⟩ | ⟨_, _, rfl⟩ | ⟨rfl, rfl⟩ | g
    · rw [h0] at g; cases g
    · rfl
    · cases h
    · have := (hx _ g).2.1; rw [h] at this; cases this
  · rcases h' with ⟨g, rfl⟩ | ⟨_, g, rfl⟩ | ⟨_, rfl⟩ | g
    · cases g
    · cases g
    · rfl
    · exact absurd rfl (hx _ g).2.2
  · exact ((cls_word t k h t k' h').2 rfl).symm

/-- Signs and parts of one level, one behind the other. -/
inductive Ch (ts : List (By × Nat)) (n : Nat) : Nat → Pt → Nat → Pt → Prop
  | nil (j : Nat) (a : Pt) : Ch ts n j a j a
  | cons (j j1 j2 k : Nat) (a b p : Pt) : inB (tAt ts j) (sgn n) = true → Cls (tAt ts j) k → Der ts (n + 1) (j + 1) j1 b → Ch ts n j1 (.bin k a b) j2 p → Ch ts n j a j2 p

theorem Ch.snoc {n i j j' k : Nat} {a p b : Pt} (h : Ch ts n i a j p) (h1 : inB (tAt ts j) (Go.Proofs.YtihgojcfpnhelaaGreatDoor.sgn n) = true) (h2 : Cls (tAt ts j) k) (h3 : Der ts (n + 1) (j + 1) j' b) : Ch ts n i a j' (.bin k p b) := by
  induction h with
  | nil j a => exact .cons _ _ _ _ _ _ _ h1 h2 h3 (.nil _ _)
  | cons j0 j1 j2 k0 a0 b0 p0 g1 g2 g3 _ ih => exact .cons _ _ _ _ _ _ _ g1 g2 g3 (ih h1 h2 h3)

theorem Ch.le {n i j : Nat} {a p : Pt} (h : Ch ts n i a j p) : i ≤ j := by
  induction h with
  | nil => exact Nat.le_refl _
  | cons j0 j1 j2 k0 a0 b0 p0 g1 g2 g3 _ ih => have := g3.lt; omega

theorem Der.level {n i j : Nat} {p : Pt} (h : Der ts n i j p) : 1 ≤ n ∧ n ≤ 6 := by
  cases h <;> omega

theorem Der.chain {n i j : Nat} {p : Pt} (h : Der ts n i j p) : n ≤ 5 → n ≠ 3 → ∃ j0 a0, Der ts (n + 1) i j0 a0 ∧ Ch ts n j0 a0 j p := by
  induction h with
  | atom => intro h; omega
  | nots => intro _ h; exact absurd rfl h
  | neg => intro h; omega
  | br => intro h; omega
  | ifs => intro h; omega
  | up n i j a h1 h5 h ih => intro _ _; exact ⟨j, a, h, .nil _ _⟩
  | more n i j j' k a b h1 h5 ha hs hc hb iha _ =>
    intro _ h3
    rw [if_neg h3] at iha
    obtain ⟨j0, a0, g1, g2⟩ := iha h5 h3
    exact ⟨j0, a0, g1, g2.snoc hs hc hb⟩

theorem Der.three {i j : Nat} {p : Pt} (h : Der ts 3 i j p) : (tAt ts i = [110, 111, 116] ∧ ∃ a, p = .un 6 a ∧ Der ts 3 (i + 1) j a) ∨ Der ts 4 i j p ∨ (∃ j0 k a b, p = .bin k a b ∧ Der ts 4 i j0 a ∧ inB (tAt ts j0) (Go.Proofs.YtihgojcfpnhelaaGreatDoor.sgn 3) = true ∧ Cls (tAt ts j0) k ∧ Der ts 4 (j0 + 1) j b) := by
  cases h with
  | nots _ _ a h1 h2 => exact Or.inl ⟨h1, a, rfl, h2⟩
  | up _ _ _ _ _ _ h => exact Or.inr (Or.inl h)
  | more _ _ j0 _ k a b _ _ ha hs hc hb => exact Or.inr (Or.inr ⟨j0, k, a, b, rfl, ha, hs, hc, hb⟩)

theorem Der.sixC {i j : Nat} {p : Pt} (h : Der ts 6 i j p) : (∃ k, Cls (tAt ts i) k ∧ (k = 1 ∨ k = 2 ∨ k = 7 ∨ k = 8) ∧ j = i + 1 ∧ p = .atom k (nmB (tAt ts i)) (nuB (tAt ts i))) ∨ (tAt ts i = [45] ∧ ∃ a, p = .un 14 a ∧ Der ts 6 (i + 1) j a) ∨ (tAt ts i = [40] ∧ ∃ j0 a, j = j0 + 1 ∧ p = .un 9 a ∧ Der ts 1 (i + 1) j0 a ∧ tAt ts j0 = [41]) ∨
    (tAt ts i = [105, 102] ∧ ∃ j1 j2 j3 a b c, j = j3 + 1 ∧ p = .ifs a b c ∧ Der ts 1 (i + 1 + 1) j1 a ∧ tAt ts j1 = [44] ∧ Der ts 1 (j1 + 1) j2 b ∧ tAt ts j2 = [44] ∧ Der ts 1 (j2 + 1) j3 c ∧ tAt ts j3 = [41]) := by
  cases h with
  | atom _ k _ hc hk => exact Or.inl ⟨k, hc, hk, rfl, rfl⟩
  | neg _ _ a h1 h2 => exact Or.inr (Or.inl ⟨h1, a, rfl, h2⟩)
  | br _ j0 a h1 h2 h3 => exact Or.inr (Or.inr (Or.inl ⟨h1, j0, a, rfl, rfl, h2, h3⟩))
  | ifs _ j1 j2 j3 a b c h1 _ h3 h4 h5 h6 h7 h8 => exact Or.inr (Or.inr (Or.inr ⟨h1, j1, j2, j3, a, b, c, rfl, rfl, h3, h4, h5, h6, h7, h8⟩))
  | up _ _ _ _ _ h5 => omega
  | more _ _ _ _ _ _ _ _ h5 => omega

theorem Der.start {n i j : Nat} {p : Pt} (h : Der ts n i j p) : 4 ≤ n → tAt ts i ≠ [110, 111, 116] := by
  induction h with
  | atom i k _ hc hk => intro _ h; have := (cls_word _ 6 (by decide) _ k hc).2 h; omega
  | nots => intro h; omega
  | neg i j a h => intro _ g; rw [h] at g; cases g
  | br i j a h => intro _ g; rw [h] at g; cases g
  | ifs i j1 j2 j3 a b c h => intro _ g; rw [h] at g; cases g
  | up n i j a h1 h5 _ ih => intro h; exact ih (by omega)
  | more n i j j' k a b h1 h5 _ _ _ _ ih _ => intro h; rw [if_neg (by omega)] at ih; exact ih h

theorem Ch.uniq {n i J j : Nat} {a p : Pt} (hn : 1 ≤ n) (U : ∀ s e e' b b', i < s → e ≤ J → Der ts (n + 1) s e b → Der ts (n + 1) s e' b' → Fo ts (n + 1) e → Fo ts (n + 1) e' → e = e' ∧ b = b') {s : Nat} (h : Ch ts n s a j p) : i ≤ s → j ≤ J → ∀ {j' : Nat} {p' : Pt}, Ch ts n s a j' p' → Fo ts n j → Fo ts n j' → n ≤ 5 → j = j' ∧ p = p' := by
  induction h with
  | nil s a =>
    intro _ _ j' p' h' hf _ h5
    cases h' with
    | nil => exact ⟨rfl, rfl⟩
    | cons _ _ _ _ _ _ _ g1 => rw [hf n (Nat.le_refl _) h5] at g1; cases g1
  | cons s j1 j2 k a b p g1 g2 g3 g4 ih =>
    intro hi hJ j' p' h' hf hf' h5
    cases h' with
    | nil => rw [hf' n (Nat.le_refl _) h5] at g1; cases g1
    | cons _ j1' _ k' _ b' _ q1 q2 q3 q4 =>
      have f1 : Fo ts (n + 1) j1 := by
        cases g4 with
        | nil => exact hf.up
        | cons _ _ _ _ _ _ _ r1 => exact Fo.sgn r1 hn
      have f1' : Fo ts (n + 1) j1' := by
        cases q4 with
        | nil => exact hf'.up
        | cons _ _ _ _ _ _ _ r1 => exact Fo.sgn r1 hn
      have hle := g4.le
      have hlt := g3.lt
      obtain ⟨rfl, rfl⟩ := U _ _ _ _ _ (by omega) (by omega) g3 q3 f1 f1'
      obtain rfl := cls_uniq _ _ _ g2 q2
      exact ih (by omega) hJ q4 hf hf' h5

theorem Ch.head {n i j : Nat} {a p : Pt} (h : Ch ts n i a j p) (hn : 1 ≤ n) (hf : Fo ts n j) : Fo ts (n + 1) i := by
  cases h with
  | nil => exact hf.up
  | cons _ _ _ _ _ _ _ r1 => exact Fo.sgn r1 hn

theorem Der.uniqM : ∀ (M n i j : Nat) (p : Pt) (j' : Nat) (p' : Pt), (j - i) * 8 + (7 - n) ≤ M → Der ts n i j p → Der ts n i j' p' → Fo ts n j → Fo ts n j' → j = j' ∧ p = p'
  | 0, n, i, j, p, j', p', hM, h, _, _, _ => by have := h.level; have := h.lt; omega
  | M + 1, n, i, j, p, j', p', hM, h, h', hf, hf' => by
    have ih := Der.uniqM M
    have hlv := h.level
    have hlt := h.lt
    by_cases h6 : n = 6
    · subst h6
      rcases h.sixC with ⟨k, hc, hk, rfl, rfl⟩ | ⟨ht, a, rfl, ha⟩ | ⟨ht, j0, a, rfl, rfl, ha, he⟩ | ⟨ht, j1, j2, j3, a, b, c, rfl, rfl, ha, e1, hb, e2, hc, e3⟩
      · have n1 := cls_word [45] 13 (by decide) _ k hc
        have n2 := cls_word [40] 9 (by decide) _ k hc
        have n3 := cls_word [105, 102] 3 (by decide) _ k hc
        rcases h'.sixC with ⟨k', hc', hk', rfl, rfl⟩ | ⟨ht', _⟩ | ⟨ht', _⟩ | ⟨ht', _⟩
        · obtain rfl := cls_uniq _ _ _ hc hc'
          exact ⟨rfl, rfl⟩
        · have := n1.2 ht'; omega
        · have := n2.2 ht'; omega
        · have := n3.2 ht'; omega
      · rcases h'.sixC with ⟨k', hc', hk', rfl, rfl⟩ | ⟨ht', a', rfl, ha'⟩ | ⟨ht', _⟩ | ⟨ht', _⟩
        · have := (cls_word [45] 13 (by decide) _ k' hc').2 ht; omega
        · have := ha.lt
          obtain ⟨rfl, rfl⟩ := ih 6 (i + 1) j a j' a' (by omega) ha ha' hf hf'
          exact ⟨rfl, rfl⟩
        · rw [ht] at ht'; cases ht'
        · rw [ht] at ht'; cases ht'
      · rcases h'.sixC with ⟨k', hc', hk', rfl, rfl⟩ | ⟨ht', _⟩ | ⟨ht', j0', a', rfl, rfl, ha', he'⟩ | ⟨ht', _⟩
        · have := (cls_word [40] 9 (by decide) _ k' hc').2 ht; omega
        · rw [ht] at ht'; cases ht'
        · have := ha.lt
          obtain ⟨rfl, rfl⟩ := ih 1 (i + 1) j0 a j0' a' (by omega) ha ha' (fo_of _ 1 (Nat.le_refl _) he (by decide)) (fo_of _ 1 (Nat.le_refl _) he' (by decide))
          exact ⟨rfl, rfl⟩
        · rw [ht] at ht'; cases ht'
      · rcases h'.sixC with ⟨k', hc', hk', rfl, rfl⟩ | ⟨ht', _⟩ | ⟨ht', _⟩ | ⟨ht', j1', j2', j3', a', b', c', rfl, rfl, ha', e1', hb', e2', hc', e3'⟩
        · have := (cls_word [105, 102] 3 (by decide) _ k' hc').2 ht; omega
        · rw [ht] at ht'; cases ht'
        · rw [ht] at ht'; cases ht'
        · have := ha.lt
          have := hb.lt
          have := hc.lt
          obtain ⟨rfl, rfl⟩ := ih 1 _ _ _ _ _ (by omega) ha ha' (fo_of _ 1 (Nat.le_refl _) e1 (by decide)) (fo_of _ 1 (Nat.le_refl _) e1' (by decide))
          obtain ⟨rfl, rfl⟩ := ih 1 _ _ _ _ _ (by omega) hb hb' (fo_of _ 1 (Nat.le_refl _) e2 (by decide)) (fo_of _ 1 (Nat.le_refl _) e2' (by decide))
          obtain ⟨rfl, rfl⟩ := ih 1 _ _ _ _ _ (by omega) hc hc' (fo_of _ 1 (Nat.le_refl _) e3 (by decide)) (fo_of _ 1 (Nat.le_refl _) e3' (by decide))
          exact ⟨rfl, rfl⟩
    · by_cases h3 : n = 3
      · subst h3
        rcases h.three with ⟨ht, a, rfl, ha⟩ | ha | ⟨j0, k, a, b, rfl, ha, hs, hc, hb⟩
        · rcases h'.three with ⟨ht', a', rfl, ha'⟩ | ha' | ⟨j0', k', a', b', rfl, ha', _⟩
          · have := ha.lt
            obtain ⟨rfl, rfl⟩ := ih 3 (i + 1) j a j' a' (by omega) ha ha' hf hf'
            exact ⟨rfl, rfl⟩
          · exact absurd ht (ha'.start (by omega))
          · exact absurd ht (ha'.start (by omega))
        · rcases h'.three with ⟨ht', a', rfl, ha'⟩ | ha' | ⟨j0', k', a', b', rfl, ha', hs', hc', hb'⟩
          · exact absurd ht' (ha.start (by omega))
          · exact ih 4 i j p j' p' (by omega) ha ha' hf.up hf'.up
          · obtain ⟨rfl, rfl⟩ := ih 4 i j p j0' a' (by omega) ha ha' hf.up (Fo.sgn hs' (by omega))
            rw [hf 3 (by omega) (by omega)] at hs'
            cases hs'
        · have h1 := ha.lt
          have h2 := hb.lt
          rcases h'.three with ⟨ht', a', rfl, ha'⟩ | ha' | ⟨j0', k', a', b', rfl, ha', hs', hc', hb'⟩
          · exact absurd ht' (ha.start (by omega))
          · obtain ⟨rfl, rfl⟩ := ih 4 i j0 a j' p' (by omega) ha ha' (Fo.sgn hs (by omega)) hf'.up
            rw [hf' 3 (by omega) (by omega)] at hs
            cases hs
          · obtain ⟨rfl, rfl⟩ := ih 4 i j0 a j0' a' (by omega) ha ha' (Fo.sgn hs (by omega)) (Fo.sgn hs' (by omega))
            obtain ⟨rfl, rfl⟩ := ih 4 (j0 + 1) j b j' b' (by omega) hb hb' hf.up hf'.up
            obtain rfl := cls_uniq _ _ _ hc hc'
            exact ⟨rfl, rfl⟩
      · obtain ⟨j0, a0, g1, g2⟩ := h.chain (by omega) h3
        obtain ⟨j0', a0', g1', g2'⟩ := h'.chain (by omega) h3
        have h1 := g1.lt
        have h2 := g2.le
        obtain ⟨rfl, rfl⟩ := ih (n + 1) i j0 a0 j0' a0' (by omega) g1 g1' (g2.head hlv.1 hf) (g2'.head hlv.1 hf')
        exact g2.uniq (i := i) (J := j) hlv.1 (fun s e e' b b' hs he hb hb' f f' => ih (n + 1) s e b e' b' (by have := hb.lt; omega) hb hb' f f') (by omega) (Nat.le_refl _) g2' hf hf' (by omega)

/-- Tokens are read as one tree at most. -/
theorem Der.uniq {p p' : Pt} (h : Der ts 1 0 ts.length p) (h' : Der ts 1 0 ts.length p') : p = p' := by
  have hf : Fo ts 1 ts.length := fo_of [] 1 (Nat.le_refl _) (tAt_ge ts _ (Nat.le_refl _)) (by decide)
  exact (Der.uniqM _ 1 0 _ p _ p' (Nat.le_refl _) h h' hf hf).2
end
end Go.Proofs.YtihgojcfpnhelaaGreatDoor
namespace Go.Proofs.YtihgojcfpnhelaaGreatDoor
open Go.RowKit

/-- How many are open at once, at most. -/
def opn : Pt → Nat
  | .atom _ _ _ => 0
  | .un _ a => opn a + 1
  | .bin _ a b => max (opn a) (opn b)
  | .ifs a b c => max (opn a) (max (opn b) (opn c)) + 1

theorem runB_mono (len : Nat) : ∀ (n : Nat) (K : List By) (ts : List (By × Nat)) (x : Int × Nat), runB len n K ts = some x → ∀ k, runB len (n + k) K ts = some x
  | 0, K, ts, x, h, k => by simp [runB] at h
  | n + 1, [], ts, x, h, k => by
    rw [show n + 1 + k = (n + k) + 1 by omega]
    simp only [runB] at h ⊢
    exact h
  | n + 1, s :: K, ts, x, h, k => by
    rw [show n + 1 + k = (n + k) + 1 by omega]
    obtain ⟨t, p, htp⟩ : ∃ t p, (ts = [] ∧ t = [] ∧ p = len) ∨ ∃ r, ts = (t, p) :: r := by
      match ts with
      | [] => exact ⟨[], len, Or.inl ⟨rfl, rfl, rfl⟩⟩
      | (t, p) :: r => exact ⟨t, p, Or.inr ⟨r, rfl⟩⟩
    rw [runB_step len n s K ts t p htp] at h
    rw [runB_step len (n + k) s K ts t p htp]
    by_cases h1 : s = wDeep
    · rw [if_pos h1] at h ⊢
      exact h
    · rw [if_neg h1] at h ⊢
      cases hb : becomesB s t with
      | some m =>
        rw [hb] at h
        exact runB_mono len n _ _ x h k
      | none =>
        rw [hb] at h
        simp only at h ⊢
        generalize hq : (if s = wName then nameB t else decide (t ≠ []) && decide (s = t)) = q at h ⊢
        cases q with
        | true => exact runB_mono len n _ _ x h k
        | false => exact h

theorem runB_same {len n n' : Nat} {K : List By} {ts : List (By × Nat)} {x x' : Int × Nat} (h : runB len n K ts = some x) (h' : runB len n' K ts = some x') : x = x' := by
  have h1 := runB_mono len n K ts x h n'
  have h2 := runB_mono len n' K ts x' h' n
  rw [Nat.add_comm] at h2
  rw [h1] at h2
  exact Option.some.inj h2

section
variable {len : Nat} {ts : List (By × Nat)}

theorem bec_atom (t : By) (k o : Nat) (hc : Cls t k) (hk : k = 1 ∨ k = 2 ∨ k = 7 ∨ k = 8) : becB 65 o t = [t] := by
  have hne : t ≠ [] := by
    rintro rfl
    have := cls_uniq [] k 0 hc (Or.inr (Or.inr (Or.inl ⟨rfl, rfl⟩)))
    omega
  have hmn : ∀ y, y ∈ meanN → y.2 ≠ 1 ∧ y.2 ≠ 2 := by decide
  have h1 : (headD t || t = [116, 114, 117, 101] || t = [102, 97, 108, 115, 101] || nameB t) = true := by
    rcases hk with rfl | rfl | rfl | rfl
    · rcases hc with ⟨h, _⟩ | ⟨_, _, h⟩ | ⟨_, h⟩ | h
      · simp [h]
      · omega
      · omega
      · exact absurd rfl (hmn _ h).1
    · rcases hc with ⟨_, h⟩ | ⟨_, h, _⟩ | ⟨_, h⟩ | h
      · omega
      · simp [h]
      · omega
      · exact absurd rfl (hmn _ h).2
    · simp [(cls_word [116, 114, 117, 101] 7 (by decide) t 7 hc).1 rfl]
    · simp [(cls_word [102, 97, 108, 115, 101] 8 (by decide) t 8 hc).1 rfl]
  show atomB t o = [t]
  unfold atomB
  rw [if_neg hne, if_pos h1]

theorem Ch.opLe {n i j : Nat} {a p : Pt} (h : Ch ts n i a j p) : opn a ≤ opn p := by
  induction h with
  | nil => exact Nat.le_refl _
  | cons j j1 j2 k a b p _ _ _ _ ih => simp only [opn] at ih; omega

theorem Ch.go (hok : OkT ts) {n i J o : Nat} (h1 : 1 ≤ n) (h5 : n ≤ 5) (h3 : n ≠ 3) (ho : o ≤ 6) (U : ∀ s e b, i < s → e ≤ J → Der ts (n + 1) s e b → opn b + o ≤ 6 → Fo ts (n + 1) e → ∃ m, Go1 len ts [symB (lv (n + 1)) o] s e m) {s j : Nat} {a p : Pt} (h : Ch ts n s a j p) : i ≤ s → j ≤ J → opn p + o ≤ 6 → Fo ts n j → ∃ m, Go1 len ts [symB (tl n) o] s j m := by
  induction h with
  | nil s a =>
    intro _ _ _ hf
    refine ⟨_, Go1.sym (by omega) ?_ (m := 0)⟩
    rw [bec_tl_stop n h1 h5 o _ (hf n (Nat.le_refl _) h5)]
    exact Go1.nil _
  | cons s j1 j2 k a b p g1 g2 g3 g4 ih =>
    intro hi hJ ho2 hf
    have hle := g4.le
    have hlt := g3.lt
    have hop := g4.opLe
    simp only [opn] at hop
    obtain ⟨m2, hm2⟩ := ih (by omega) hJ ho2 hf
    obtain ⟨m1, hm1⟩ := U (s + 1) j1 b (by omega) (by omega) g3 (by omega) (g4.head h1 hf)
    have hst : s < ts.length := by
      rcases Nat.lt_or_ge s ts.length with h | h
      · exact h
      · rw [tAt_ge ts s h] at g1
        exact absurd g1 (by rw [show inB [] (Go.Proofs.YtihgojcfpnhelaaGreatDoor.sgn n) = false by rcases (show n = 1 ∨ n = 2 ∨ n = 4 ∨ n = 5 by omega) with rfl | rfl | rfl | rfl <;> decide]; simp)
    refine ⟨_, Go1.sym (by omega) ?_ (m := m1 + m2 + 1)⟩
    rw [bec_tl_go n h1 h5 o _ g1, if_neg h3]
    exact Go1.tok (hok.tk hst) rfl (hm1.trans hm2)

theorem tk_of (x : By) (h : ∃ c r, x = c :: r ∧ c ≠ 63 ∧ c ≠ 78) : Tk x := by
  obtain ⟨c, r, rfl, h63, h78⟩ := h
  exact ⟨c, r, rfl, h63, fun he => h78 (by unfold wName at he; simp at he; exact he.1)⟩

theorem Der.goM (hok : OkT ts) : ∀ (M n i j : Nat) (p : Pt) (o : Nat), (j - i) * 8 + (7 - n) ≤ M → Der ts n i j p → opn p + o ≤ 6 → Fo ts n j → ∃ m, Go1 len ts [symB (lv n) o] i j m
  | 0, n, i, j, p, o, hM, h, _, _ => by have := h.level; have := h.lt; omega
  | M + 1, n, i, j, p, o, hM, h, ho, hf => by
    have ih := Der.goM hok M
    have hlv := h.level
    have hlt := h.lt
    by_cases h6 : n = 6
    · subst h6
      rcases h.sixC with ⟨k, hc, hk, rfl, rfl⟩ | ⟨ht, a, rfl, ha⟩ | ⟨ht, j0, a, rfl, rfl, ha, he⟩ | ⟨ht, j1, j2, j3, a, b, c, rfl, rfl, ha, e1, hb, e2, hc, e3⟩
      · refine ⟨_, Go1.sym (by omega) ?_ (m := 1)⟩
        rw [show lv 6 = 65 from rfl, bec_atom _ k o hc hk]
        have hi : i < ts.length := by
          rcases Nat.lt_or_ge i ts.length with h | h
          · exact h
          · rw [tAt_ge ts i h] at hc
            have := cls_uniq [] k 0 hc (Or.inr (Or.inr (Or.inl ⟨rfl, rfl⟩)))
            omega
        exact Go1.tok (hok.tk hi) rfl (Go1.nil _)
      · simp only [opn] at ho
        have := ha.lt
        obtain ⟨m, hm⟩ := ih 6 (i + 1) j a (o + 1) (by omega) ha (by omega) hf
        refine ⟨_, Go1.sym (by omega) ?_ (m := m + 1)⟩
        rw [bec_ahead_go 6 _ o (Or.inr ⟨rfl, ht⟩) (by omega), ht]
        exact Go1.tok (tk_of _ ⟨45, [], rfl, by decide, by decide⟩) ht hm
      · simp only [opn] at ho
        have := ha.lt
        obtain ⟨m, hm⟩ := ih 1 (i + 1) j0 a (o + 1) (by omega) ha (by omega) (fo_of _ 1 (Nat.le_refl _) he (by decide))
        refine ⟨_, Go1.sym (by omega) ?_ (m := m + 1 + 1)⟩
        have e0 : becB (lv 6) o (tAt ts i) = [40] :: ([symB 82 (o + 1)] ++ [[41]]) := by
          rw [ht]
          show atomB [40] o = _
          unfold atomB deepB
          rw [if_neg (by decide), if_neg (by decide), if_neg (by decide), if_pos rfl, if_neg (by omega)]
          rfl
        rw [e0]
        exact Go1.tok (tk_of _ ⟨40, [], rfl, by decide, by decide⟩) ht (hm.trans (Go1.tok (tk_of _ ⟨41, [], rfl, by decide, by decide⟩) he (Go1.nil _)))
      · simp only [opn] at ho
        have := ha.lt
        have := hb.lt
        have := hc.lt
        have ht2 : tAt ts (i + 1) = [40] := by
          cases h with
          | ifs _ _ _ _ _ _ _ _ h2 => exact h2
          | up _ _ _ _ _ h5 => omega
        obtain ⟨ma, hma⟩ := ih 1 _ _ a (o + 1) (by omega) ha (by omega) (fo_of _ 1 (Nat.le_refl _) e1 (by decide))
        obtain ⟨mb, hmb⟩ := ih 1 _ _ b (o + 1) (by omega) hb (by omega) (fo_of _ 1 (Nat.le_refl _) e2 (by decide))
        obtain ⟨mc, hmc⟩ := ih 1 _ _ c (o + 1) (by omega) hc (by omega) (fo_of _ 1 (Nat.le_refl _) e3 (by decide))
        have e0 : becB (lv 6) o (tAt ts i) = [105, 102] :: [40] :: ([symB 82 (o + 1)] ++ ([44] :: ([symB 82 (o + 1)] ++ ([44] :: ([symB 82 (o + 1)] ++ [[41]]))))) := by
          rw [ht]
          show atomB [105, 102] o = _
          unfold atomB
          rw [if_neg (by decide), if_neg (by decide), if_neg (by decide), if_neg (by decide), if_neg (by simp; omega), if_pos rfl]
          rfl
        have tc := tk_of [44] ⟨44, [], rfl, by decide, by decide⟩
        refine ⟨_, Go1.sym (by omega) (by
          rw [e0]
          exact Go1.tok (tk_of _ ⟨105, [102], rfl, by decide, by decide⟩) ht (Go1.tok (tk_of _ ⟨40, [], rfl, by decide, by decide⟩) ht2 (hma.trans (Go1.tok tc e1 (hmb.trans (Go1.tok tc e2 (hmc.trans (Go1.tok (tk_of _ ⟨41, [], rfl, by decide, by decide⟩) e3 (Go1.nil _)))))))))⟩
    · by_cases h3 : n = 3
      · subst h3
        rcases h.three with ⟨ht, a, rfl, ha⟩ | ha | ⟨j0, k, a, b, rfl, ha, hs, hc, hb⟩
        · simp only [opn] at ho
          have := ha.lt
          obtain ⟨m, hm⟩ := ih 3 (i + 1) j a (o + 1) (by omega) ha (by omega) hf
          refine ⟨_, Go1.sym (by omega) ?_ (m := m + 1)⟩
          rw [bec_ahead_go 3 _ o (Or.inl ⟨rfl, ht⟩) (by omega), ht]
          exact Go1.tok (tk_of _ ⟨110, [111, 116], rfl, by decide, by decide⟩) ht hm
        · obtain ⟨m, hm⟩ := ih 4 i j p o (by omega) ha ho hf.up
          refine ⟨_, Go1.sym (by omega) ?_ (m := m + (0 + 1))⟩
          rw [bec_lv 3 (by omega) (by omega) o _ (fun _ => ha.start (by omega))]
          refine hm.trans (Go1.sym (by omega) ?_)
          rw [bec_tl_stop 3 (by omega) (by omega) o _ (hf 3 (Nat.le_refl _) (by omega))]
          exact Go1.nil _
        · simp only [opn] at ho
          have := ha.lt
          have := hb.lt
          obtain ⟨m, hm⟩ := ih 4 i j0 a o (by omega) ha (by omega) (Fo.sgn hs (by omega))
          obtain ⟨m', hm'⟩ := ih 4 (j0 + 1) j b o (by omega) hb (by omega) hf.up
          have hst : j0 < ts.length := by
            rcases Nat.lt_or_ge j0 ts.length with h | h
            · exact h
            · rw [tAt_ge ts j0 h] at hs
              exact absurd hs (by decide)
          refine ⟨_, Go1.sym (by omega) ?_ (m := m + (m' + 1 + 1))⟩
          rw [bec_lv 3 (by omega) (by omega) o _ (fun _ => ha.start (by omega))]
          refine hm.trans (Go1.sym (by omega) ?_)
          rw [bec_tl_go 3 (by omega) (by omega) o _ hs, if_pos rfl]
          exact Go1.tok (hok.tk hst) rfl hm'
      · obtain ⟨j0, a0, g1, g2⟩ := h.chain (by omega) h3
        have h1 := g1.lt
        have h2 := g2.le
        have hop := g2.opLe
        obtain ⟨m, hm⟩ := ih (n + 1) i j0 a0 o (by omega) g1 (by omega) (g2.head hlv.1 hf)
        obtain ⟨m', hm'⟩ := g2.go (len := len) (i := i) (J := j) hok hlv.1 (by omega) h3 (by omega) (fun s e b hs he hb hob hfo => ih (n + 1) s e b o (by have := hb.lt; omega) hb hob hfo) (by omega) (Nat.le_refl _) ho hf
        refine ⟨_, Go1.sym (by omega) ?_ (m := m + m')⟩
        rw [bec_lv n hlv.1 (by omega) o _ (fun h => absurd h h3)]
        exact hm.trans hm'

/-- What can be read as a rule, and is not too deep, is read so. -/
theorem Der.run (hok : OkT ts) {p : Pt} (h : Der ts 1 0 ts.length p) (hd : opn p ≤ 6) {n0 : Nat} {er : Int} {q : Nat} (hr : runB len n0 [symB 82 0] ts = some (er, q)) : er = 0 ∧ q = 0 := by
  have hf : Fo ts 1 ts.length := fo_of [] 1 (Nat.le_refl _) (tAt_ge ts _ (Nat.le_refl _)) (by decide)
  obtain ⟨m, hm⟩ := Der.goM (len := len) hok _ 1 0 _ p 0 (Nat.le_refl _) h (by omega) hf
  have h1 := hm [] 1
  rw [List.drop_zero, List.drop_length] at h1
  have h2 : runB len (m + 1) [symB 82 0] ts = some (0, 0) := h1
  have := runB_same hr h2
  simp only [Prod.mk.injEq] at this
  exact this
end
end Go.Proofs.YtihgojcfpnhelaaGreatDoor
namespace Go.Proofs.YtihgojcfpnhelaaGreatDoor
open Go.RowKit

theorem toks_sp (f : Nat) (rest : By) (k : Nat) : toks (f + 1) (32 :: rest) k = toks f rest (k + 1) := by
  conv => lhs; unfold toks
  rw [if_pos rfl]

theorem toks_nil (f k : Nat) : toks f [] k = ([], none) := by cases f <;> rfl

theorem toks_to (f : Nat) (c : UInt8) (r rest : By) (k : Nat) (hc : c ≠ 32) (hlen : rowLen (c :: r ++ rest) = (c :: r).length) (hok : tokOK (c :: r) = true) :
    toks (f + 1) (c :: r ++ rest) k = ((c :: r, k) :: (toks f rest (k + (c :: r).length)).1, (toks f rest (k + (c :: r).length)).2) := by
  have e1 : (c :: r ++ rest).take (rowLen (c :: r ++ rest)) = c :: r := by rw [hlen, List.take_left']; rfl
  have e2 : (c :: r ++ rest).drop (rowLen (c :: r ++ rest)) = rest := by rw [hlen, List.drop_left']; rfl
  conv => lhs; unfold toks
  simp only [List.cons_append] at e1 e2 hlen ⊢
  rw [if_neg hc, e1, if_pos hok, e2, hlen]

theorem Der.ups {ts : List (By × Nat)} {i j : Nat} {p : Pt} (m n : Nat) (h : Der ts (n + m) i j p) (h1 : 1 ≤ n) (h6 : n + m ≤ 6) : Der ts n i j p := by
  induction m with
  | zero => exact h
  | succ m ih => exact ih (.up _ _ _ _ (by omega) (by omega) h) (by omega)

theorem Der.at6 {ts : List (By × Nat)} {i j : Nat} {p : Pt} (h : Der ts 6 i j p) (n : Nat) (h1 : 1 ≤ n) (h6 : n ≤ 6) : Der ts n i j p := by
  have : n + (6 - n) = 6 := by omega
  exact Der.ups (6 - n) n (by rw [this]; exact h) h1 (by omega)

/-- A sign between two parts. -/
theorem Der.two {ts : List (By × Nat)} {i j j' k n : Nat} {a b : Pt} (h1 : 1 ≤ n) (h5 : n ≤ 5) (ha : Der ts 6 i j a) (hs : inB (tAt ts j) (sgn n) = true) (hc : Cls (tAt ts j) k) (hb : Der ts 6 (j + 1) j' b) : Der ts 1 i j' (.bin k a b) := by
  have h : Der ts n i j' (.bin k a b) := .more n i j j' k a b h1 h5 (by split <;> exact ha.at6 _ (by omega) (by omega)) hs hc (hb.at6 _ (by omega) (by omega))
  have e : 1 + (n - 1) = n := by omega
  exact Der.ups (n - 1) 1 (by rw [e]; exact h) (by omega) (by omega)
end Go.Proofs.YtihgojcfpnhelaaGreatDoor
namespace Go.Proofs.YtihgojcfpnhelaaGreatDoor
open Go.RowKit

theorem okT_of (s : By) : OkT (toksOf s).1 := fun t p hm => ⟨⟨toks_ok _ _ _ t p hm, toks_good _ _ _ t p hm⟩, toks_allD _ _ _ t p hm⟩

theorem heads_set : ∀ k (h : k < 12), (headsW[k]'h).1 = [115, 101, 116] → k = 0 := by decide
end Go.Proofs.YtihgojcfpnhelaaGreatDoor
