import Derived.Test.YtihgojcfpnhelaaGreatDoorSx
import Derived.Test.YtihgojcfpnhelaaGreatDoorSl
import Derived.Test.YtihgojcfpnhelaaGreatDoorRb
set_option linter.unusedVariables false
set_option linter.unusedSimpArgs false
namespace Go.Proofs.YtihgojcfpnhelaaGreatDoor
open Go.RowKit

/-- What a name that is not mentioned is worth does not matter. -/
theorem valP_off (x : By) (ρ ρ' : By → Vl) (h : ∀ z, z ≠ x → ρ z = ρ' z) : ∀ p, Shape p → mentP x p = false → valP ρ p = valP ρ' p
  | .atom k nm n, hs, hm => by
    rcases hs with rfl | rfl | rfl | rfl <;> simp [valP, mentP] at hm ⊢
    exact h nm hm
  | .un k a, hs, hm => by
    simp [mentP] at hm
    simp only [valP, valP_off x ρ ρ' h a hs.2 hm.2]
  | .bin k a b, hs, hm => by
    simp [mentP] at hm
    simp only [valP, valP_off x ρ ρ' h a hs.2.1 hm.2.1, valP_off x ρ ρ' h b hs.2.2 hm.2.2]
  | .ifs a b c, hs, hm => by
    simp [mentP] at hm
    simp only [valP, valP_off x ρ ρ' h a hs.1 hm.1, valP_off x ρ ρ' h b hs.2.1 hm.2.1, valP_off x ρ ρ' h c hs.2.2 hm.2.2]

theorem findF_snd (gs : List (Nat × Fd)) (x : By) : (findF gs x).map Prod.snd = (gs.map Prod.snd).find? (fun f => f.nm == x) := by
  rw [List.find?_map]
  rfl

theorem rho_rhoF (gs : List (Nat × Fd)) (x : By) : rho gs x = rhoF (gs.map Prod.snd) x := by
  rw [rho, rhoF, ← findF_snd]
  cases findF gs x <;> rfl

theorem rho_add (gs : List (Nat × Fd)) (b : Nat) (f : Fd) (z : By) (h : z ≠ f.nm) : rho (gs ++ [(b, f)]) z = rho gs z := by
  simp only [rho, findF, List.find?_append]
  cases hf : gs.find? (fun g => g.2.nm == z) with
  | some g => simp
  | none => simp [Ne.symm h]

theorem FdAt.wide {w : World} {S S' : Nat → Prop} {b : Nat} {f : Fd} (h : FdAt w S b f) (hs : ∀ q, S q → S' q) (hb : ¬ S' b) : FdAt w S' b f := by
  obtain ⟨_, h2, h3, h4, a, l, c, h5, h6⟩ := h
  exact ⟨hb, h2, h3, h4, a, l, c, h5, h6.wide hs⟩

theorem Sh.wide {w : World} {S S' : Nat → Prop} {a : Option Addr} {fs : List (Nat × Fd)} (h : Sh w S a fs) (hs : ∀ q, S q → S' q) (hl : ∀ q, S' q → q < w.heap.size) (hf : ∀ x, x ∈ fs → ¬ S' x.1) : Sh w S' a fs := by
  refine ⟨hl, fun j hj => ?_, fun x hx => (h.fld x hx).wide hs (hf x hx)⟩
  obtain ⟨g, o, h1, h2, h3⟩ := h.ptr j hj
  exact ⟨g, o, h1, hs g h2, h3⟩

theorem own_kn {P : Nat → Prop} {w w' : World} {base z n : Nat} {e : TypeId} {v : Value} {xs : List Value} (h : w.ownsRow base e z v n xs) (hk : Ks P w w') (hP : ∀ q, v.ownBlock = some q → ¬ P q) : w'.ownsRow base e z v n xs := by
  obtain ⟨h1, h2⟩ := h
  refine ⟨h1, h2.imp id ?_⟩
  rintro ⟨g, cap, cur, rfl, h4, h5, h6⟩
  exact ⟨g, cap, cur, rfl, h4, (hk.block g (Array.getElem?_eq_some_iff.1 h5).1 (hP g rfl)).trans h5, h6⟩

/-- An editor in block e, as it lies behind the world W0; the blocks of F are not its own. -/
structure EdP (W0 w : World) (e : Nat) (gs : List (Nat × Fd)) (S : Nat → Prop) (a : Option Addr) (c : Nat) (dv : Value) (M n : Nat) (F : Nat → Prop) : Prop where
  low : Below W0.heap.size W0 w
  he : W0.heap.size ≤ e
  sh : Sh w S a gs
  row : w.heap[e]? = some (.cells #[.slice a gs.length c, .int .i64 (M : Int), dv, .slice none 0 0, .bool false, .slice none 0 0] 108 (0, 0))
  hf : ∀ f, f ∈ gs → f.1 ≠ e ∧ W0.heap.size ≤ f.1
  hS : ¬ S e
  ha : a = none → c = 0
  own : ∃ bs, w.ownsRow W0.heap.size 151 1 dv n bs
  sl : ∃ ad ld cd, dv = .slice ad ld cd
  dn : ∀ q, dv.ownBlock = some q → q ≠ e ∧ ¬ S q ∧ ∀ f, f ∈ gs → f.1 ≠ q
  free : ∀ q, F q → W0.heap.size ≤ q ∧ q ≠ e ∧ ¬ S q ∧ (∀ f, f ∈ gs → f.1 ≠ q) ∧ dv.ownBlock ≠ some q

variable {W0 w w' : World} {e : Nat} {gs : List (Nat × Fd)} {S F : Nat → Prop} {a : Option Addr} {c : Nat} {dv : Value} {M n : Nat}

theorem EdP.lt (h : EdP W0 w e gs S a c dv M n F) : e < w.heap.size := (Array.getElem?_eq_some_iff.1 h.row).1

theorem EdP.next (h : EdP W0 w e gs S a c dv M n F) (hb : Below w.heap.size w w') : EdP W0 w' e gs S a c dv M n F :=
  ⟨h.low.trans (hb.mono h.low.size), h.he, h.sh.next hb, (hb.block e h.lt).trans h.row, h.hf, h.hS, h.ha, (by obtain ⟨bs, h0⟩ := h.own; exact ⟨bs, own_below h0 hb⟩), h.sl, h.dn, h.free⟩

theorem EdP.bare (h : EdP W0 w e gs S a c dv M n F) : EdP W0 w e gs S a c dv M n (fun _ => False) :=
  ⟨h.low, h.he, h.sh, h.row, h.hf, h.hS, h.ha, h.own, h.sl, h.dn, fun _ h => h.elim⟩

theorem EdP.less {F' : Nat → Prop} (h : EdP W0 w e gs S a c dv M n F) (hF : ∀ q, F' q → F q) : EdP W0 w e gs S a c dv M n F' :=
  ⟨h.low, h.he, h.sh, h.row, h.hf, h.hS, h.ha, h.own, h.sl, h.dn, fun q hq => h.free q (hF q hq)⟩

theorem EdP.set (h : EdP W0 w e gs S a c dv M n F) {q : Nat} (hq : F q) (j : Nat) (u : Value) : EdP W0 (w.setCell ⟨q, j, Option.none⟩ u) e gs S a c dv M n F := by
  obtain ⟨f1, f2, f3, f4, f5⟩ := h.free q hq
  have hk : Ks (fun k => k = q) w (w.setCell ⟨q, j, Option.none⟩ u) := (Ks.refl _ _).set q j u rfl
  refine ⟨h.low.setCell f1 u, h.he, h.sh.ks hk (fun k hk' e' => f3 (e' ▸ hk')) fun f hf => f4 f hf, ?_, h.hf, h.hS, h.ha, (by obtain ⟨bs, h0⟩ := h.own; exact ⟨bs, own_kn h0 hk fun k hk' e' => f5 (e' ▸ hk')⟩), h.sl, h.dn, h.free⟩
  rw [hk.block e h.lt (fun e' => f2 e'.symm)]
  exact h.row

/-- An editor. -/
def Ed (W0 : World) (M n : Nat) (w : World) (e : Nat) (fs : List Fd) : Prop := Env W0 ∧ EnvL W0 ∧ ∃ gs S a c dv, fs = gs.map Prod.snd ∧ EdP W0 w e gs S a c dv M n (fun _ => False) ∧ gs.length ≤ 10

theorem EnvL.low {W0 w : World} (h : EnvL W0) (hE : Env W0) (hb : Below W0.heap.size W0 w) : EnvL w := h.next hE hb

/-- What a new field, set and kept, leaves. -/
theorem EdP.kept {x : By} {p : Pt} {S1 S' : Nat → Prop} {b c' : Nat} {a' : Option Addr} {v : Vl} {dv' : Value} {n' : Nat} {bs' : List Value} {w1 w2 w3 : World} (h : EdP W0 w e gs S a c dv M n (fun _ => False)) (hb1 : Below w.heap.size w w1)
    (hS1 : ∀ q, S1 q → S q ∨ (w.heap.size ≤ q ∧ ¬ F q)) (hF : ∀ q, F q → w.heap.size ≤ q ∧ q < w1.heap.size)
    (hb : w1.heap.size ≤ b) (hsh : Sh w2 S' a' (gs ++ [(b, ⟨x, p, v⟩)])) (hS' : ∀ q, S' q → S1 q ∨ w1.heap.size ≤ q) (hc : gs.length + 1 ≤ c') (hk2 : Ks (fun q => q = e ∨ ∃ y, y ∈ gs ∧ y.1 = q) w1 w2)
    (hd : dv'.ownBlock = dv.ownBlock ∨ ∃ g, dv'.ownBlock = some g ∧ w2.heap.size ≤ g) (hsl : ∃ ad ld cd, dv' = .slice ad ld cd) (hk3 : Ks (fun q => q = e ∨ dv.ownBlock = some q) w2 w3) (hrow : w3.heap[e]? = some (.cells #[.slice a' (gs.length + 1) c', .int .i64 (M : Int), dv', .slice none 0 0, .bool false, .slice none 0 0] 108 (0, 0))) (ho : w3.ownsRow W0.heap.size 151 1 dv' n' bs') :
    EdP W0 w3 e (gs ++ [(b, ⟨x, p, v⟩)]) S' a' c' dv' M n' F := by
  have hel := h.lt
  have hs1 := hb1.size
  have hs2 := hk2.size
  have hs0 := h.low.size
  have hfl : ∀ f, f ∈ gs → f.1 < w.heap.size := fun f hf => (h.sh.fld f hf).lt
  have hdl : ∀ q, dv.ownBlock = some q → W0.heap.size ≤ q ∧ q < w.heap.size := by obtain ⟨bs, h0⟩ := h.own; exact h0.lt
  have hbl : b < w2.heap.size := (hsh.fld (b, ⟨x, p, v⟩) (by simp)).lt
  have hSq : ∀ q, S' q → S q ∨ (w.heap.size ≤ q ∧ ¬ F q) := fun q hq => by
    rcases hS' q hq with h1 | h1
    · exact hS1 q h1
    · exact Or.inr ⟨by omega, fun hf => by have := (hF q hf).2; omega⟩
  have hmem : ∀ f, f ∈ gs ++ [(b, (⟨x, p, v⟩ : Fd))] → f ∈ gs ∨ f.1 = b := fun f hf => by
    simp at hf
    rcases hf with hf | rfl
    · exact Or.inl hf
    · exact Or.inr rfl
  have hdb : ∀ q, dv'.ownBlock = some q → dv.ownBlock = some q ∨ w2.heap.size ≤ q := fun q hq => by
    rcases hd with h1 | ⟨g, h1, h2⟩
    · exact Or.inl (h1 ▸ hq)
    · rw [h1] at hq
      cases hq
      exact Or.inr h2
  refine ⟨?_, h.he, hsh.ks hk3 ?_ ?_, ?_, fun f hf => ?_, fun hh => ?_, ?_, ⟨_, ho⟩, hsl, fun q hq => ?_, fun q hq => ?_⟩
  · refine (h.low.trans (hb1.mono h.low.size)).trans ⟨hk3.os.trans hk2.os, hk3.tape.trans hk2.tape, hk3.output.trans hk2.output, Nat.le_trans hk2.size hk3.size, fun k hk => ?_⟩
    refine (hk3.block k (by omega) ?_).trans (hk2.block k (by omega) ?_)
    · rintro (rfl | hq)
      · have := h.he; omega
      · have := (hdl k hq).1; omega
    · rintro (rfl | ⟨y, hy, rfl⟩)
      · have := h.he; omega
      · have := (h.hf y hy).2; omega
  · rintro q hq (rfl | hd')
    · rcases hSq q hq with h1 | h1
      · exact h.hS h1
      · omega
    · rcases hSq q hq with h1 | h1
      · exact (h.dn q hd').2.1 h1
      · have := (hdl q hd').2; omega
  · rintro f hf (h1 | h1)
    · rcases hmem f hf with h2 | h2
      · exact (h.hf f h2).1 h1
      · omega
    · rcases hmem f hf with h2 | h2
      · exact (h.dn _ h1).2.2 f h2 rfl
      · have := (hdl _ h1).2; omega
  · rw [hrow]; simp
  · rcases hmem f hf with h2 | h2
    · exact h.hf f h2
    · exact ⟨by omega, by omega⟩
  · rcases hSq e hh with h1 | h1
    · exact h.hS h1
    · omega
  · intro ha
    obtain ⟨g, o, h1, _⟩ := hsh.ptr 0 (by simp)
    rw [ha] at h1
    cases h1
  · rcases hdb q hq with h1 | h1
    · obtain ⟨d1, d2, d3⟩ := h.dn q h1
      refine ⟨d1, fun hh => ?_, fun f hf => ?_⟩
      · rcases hSq q hh with h2 | h2
        · exact d2 h2
        · have := (hdl q h1).2; omega
      · rcases hmem f hf with h2 | h2
        · exact d3 f h2
        · have := (hdl q h1).2; omega
    · refine ⟨by omega, fun hh => ?_, fun f hf => ?_⟩
      · have := hsh.still q hh; omega
      · have := (hsh.fld f hf).lt; omega
  · obtain ⟨q1, q2⟩ := hF q hq
    refine ⟨by omega, by omega, fun hh => ?_, fun f hf => ?_, fun hh => ?_⟩
    · rcases hSq q hh with h2 | h2
      · have := h.sh.still q h2; omega
      · exact h2.2 hq
    · rcases hmem f hf with h2 | h2
      · have := hfl f h2; omega
      · omega
    · rcases hdb q hh with h2 | h2
      · have := (hdl q h2).2; omega
      · omega
end Go.Proofs.YtihgojcfpnhelaaGreatDoor
namespace Go.Proofs.YtihgojcfpnhelaaGreatDoor
open Go.RowKit
variable {W0 : World} {M n : Nat}

theorem edValue (w : World) (e : Nat) (fs : List Fd) (nm : UInt8) (f : Fd) (h : Ed W0 M n w e fs) (hnm : isL nm = true) (hf : fs.find? (fun f => f.nm == [nm]) = some f) :
    Calls Tryz.prog 20 #[.pointer (some ⟨e, 0, none⟩), .string ⟨(118 :: 97 :: 108 :: 117 :: 101 :: 32 :: [nm]).toArray⟩] w fun r w' => (∃ (er at_ : Int) (tx : By) (an : Option Addr) (ln cn : Nat), r = .returned (.agg #[.int .i64 er, .int .i64 at_, .string ⟨tx.toArray⟩, .slice an ln cn, .int .i64 f.v.1, .int .i64 f.v.2])) ∧ Ed W0 M n w' e fs := by
  obtain ⟨hE, hEL, gs, S, a, c, dv, rfl, hP, hlen⟩ := h
  rw [← findF_snd] at hf
  obtain ⟨g, hg, rfl⟩ := Option.map_eq_some_iff.1 hf
  refine (doValue e nm hnm g.2.v.1 g.2.v.2 w (hE.below hP.low hE.size) (EnvL.low hEL hE hP.low) fun W hW => ?_).mono ?_
  · have h2 := hP.next hW
    have hv := value68 [nm] e c a gs W h2.sh ((World.cell?_of_block (a := ⟨e, 0, none⟩) rfl).trans (row6 h2.row).1.1) h2.lt (by omega)
    rw [hg] at hv
    exact hv
  · rintro r w' ⟨rfl, hb⟩
    exact ⟨⟨0, 0, [], none, 0, 0, rfl⟩, hE, hEL, gs, S, a, c, dv, rfl, hP.next hb, hlen⟩

theorem okT_set (nm : UInt8) (h : isL nm = true) (rest : By) (rts : List (By × Nat)) (ht : toks (rest.length + 2) rest 8 = (rts, none)) : OkT rts := by
  have htk := toks_set nm h rest
  rw [ht] at htk
  have := (okT_of (setL nm rest)).drop 3
  rw [htk] at this
  exact this

set_option maxHeartbeats 1000000 in
theorem edSet (hM : M ≤ 6) (hn : (M = 0 ∧ n = 0) ∨ n < M) (w : World) (e : Nat) (fs : List Fd) (nm : UInt8) (rest : By) (rts : List (By × Nat)) (p : Pt) (h : Ed W0 M n w e fs) (hnm : isL nm = true) (hl : fs.length < 10) (hr : rest.length ≤ 112) (ht : toks (rest.length + 2) rest 8 = (rts, none)) (hD : Der rts 1 0 rts.length p) (ho : opn p ≤ 6) (hx : (txt p).length ≤ 100)
    (hnew : ∀ f, f ∈ fs → f.nm ≠ [nm]) (hm1 : ∀ f, f ∈ fs → mentP [nm] f.p = false) (hm2 : mentP [nm] p = false) :
    Calls Tryz.prog 20 #[.pointer (some ⟨e, 0, none⟩), .string ⟨(setL nm rest).toArray⟩] w fun r w' => (∃ (tx : By) (an : Option Addr) (ln cn : Nat) (k n : Int), r = .returned (.agg #[.int .i64 0, .int .i64 0, .string ⟨tx.toArray⟩, .slice an ln cn, .int .i64 k, .int .i64 n])) ∧ Ed W0 M (if M = 0 then 0 else n + 1) w' e (fs ++ [⟨[nm], p, valP (rhoF fs) p⟩]) := by
  obtain ⟨hE, hEL, gs, S, a, c, dv, rfl, hP, hlen⟩ := h
  obtain ⟨ad, ld, cd, hdv⟩ := hP.sl
  have hl' : gs.length < 10 := by simpa using hl
  have hel := hP.lt
  have hfl : ∀ f, f ∈ gs → f.1 < w.heap.size := fun f hf => (hP.sh.fld f hf).lt
  have hdl : ∀ q, dv.ownBlock = some q → W0.heap.size ≤ q ∧ q < w.heap.size := (by obtain ⟨bs, h0⟩ := hP.own; exact h0.lt)
  refine (doSet e nm hnm rest rts p hr ht hD ho hx w (hE.below hP.low hE.size) (EnvL.low hEL hE hP.low) (fun F w' => ∃ gs' S' a' c' dv', gs'.map Prod.snd = gs.map Prod.snd ++ [⟨[nm], p, valP (rhoF (gs.map Prod.snd)) p⟩] ∧ EdP W0 w' e gs' S' a' c' dv' M (if M = 0 then 0 else n + 1) F) ?_ ?_).mono ?_
  · rintro F w1 q j u hF ⟨gs', S', a', c', dv', h1, h2⟩
    exact ⟨gs', S', a', c', dv', h1, h2.set hF j u⟩
  · intro gn cn ar lr cr W1 W F hW1 hlt hW hF hc hg hp
    have hs1 := hW.size
    refine (editOk e 1 (some ⟨gn, 0, none⟩) 1 cn p.k p.nm p.n ar lr cr W (fun w' => (∀ q, F q → w'.heap[q]? = W.heap[q]?) ∧ ∃ gs' S' a' c' dv', gs'.map Prod.snd = gs.map Prod.snd ++ [⟨[nm], p, valP (rhoF (gs.map Prod.snd)) p⟩] ∧ EdP W0 w' e gs' S' a' c' dv' M (if M = 0 then 0 else n + 1) (fun q => F q ∨ q = W.heap.size + 1)) ?_ ?_).mono ?_
    · rintro w1 j u ⟨h0, gs', S', a', c', dv', h1, h2⟩
      exact ⟨fun q hq => (Below.heap_setCell _ _ _ _ (by show q ≠ W.heap.size + 1; have := (hF q hq).1; omega)).trans (h0 q hq), gs', S', a', c', dv', h1, h2.set (Or.inr rfl) j u⟩
    · intro W2 hW2 hsz2
      have hs2 := hW2.size
      refine (changeSet e gn cn [nm] p.k p.nm p.n ar lr cr W2 (fun r w' => (∀ q cs te, W.heap.size ≤ q → W2.heap[q]? = some (.cells cs te (0, 0)) → w'.heap[q]? = some (.cells cs te (0, 0))) ∧ ∀ g, Calls Tryz.prog 99 #[.pointer (some ⟨e, 1, none⟩), .func (.func 106) #[] #[.pointer (some ⟨g, 0, none⟩)]] w' fun r w'' => r = .returned (.tuple #[]) ∧ (∀ q cs te, W.heap.size ≤ q → W2.heap[q]? = some (.cells cs te (0, 0)) → w''.heap[q]? = some (.cells cs te (0, 0))) ∧ (∀ q, F q → w''.heap[q]? = W.heap[q]?) ∧ ∃ gs' S' a' c' dv', gs'.map Prod.snd = gs.map Prod.snd ++ [⟨[nm], p, valP (rhoF (gs.map Prod.snd)) p⟩] ∧ EdP W0 w'' e gs' S' a' c' dv' M (if M = 0 then 0 else n + 1) (fun q => F q ∨ q = W.heap.size + 1))
        ((hW2.cell (p := ⟨gn, 0, none⟩) (by show gn < _; omega)).trans ((hW.cell (p := ⟨gn, 0, none⟩) hg).trans hc)) (by omega) fun W3 hW3 => ?_).mono ?_
      · have hs3 := hW3.size
        have hb13 : Below W1.heap.size W1 W3 := hW.trans ((hW2.trans (hW3.mono hs2)).mono hs1)
        have hb3 : Below w.heap.size w W3 := hW1.trans (hb13.mono hW1.size)
        have hP3 := hP.next hb3
        have hsh := hD.shape
        refine (setNew (S := fun q => S q ∨ (w.heap.size + 1 ≤ q ∧ q < W1.heap.size)) e c a gs [nm] p ar lr cr (.int .i64 (M : Int)) dv (.slice none 0 0) (.bool false) (.slice none 0 0) 108 W3 (hP3.sh.wide (fun q hq => Or.inl hq) ?_ ?_) hP3.row hl' (fun f hf => (hP.hf f hf).1) ?_ hP.ha ?_ hsh (hD.good (okT_set nm hnm rest rts ht)) hx ?_ (fun f hf => hm1 f.2 (List.mem_map_of_mem hf)) hm2).mono ?_
        · rintro q (hq | hq)
          · have := hP.sh.still q hq; omega
          · omega
        · rintro f hf (hq | hq)
          · exact (hP.sh.fld f hf).1 hq
          · have := hfl f hf; omega
        · rintro (hq | hq)
          · exact hP.hS hq
          · omega
        · exact (hp.next fun q hq => hb13.block q hq.2).wide fun q hq => Or.inr hq
        · rw [findF, List.find?_eq_none]
          intro f hf
          simpa using hnew f.2 (List.mem_map_of_mem hf)
        · rintro r w4 ⟨vn, g, b, a', c', S', rfl, hvn, hb1, hb2, hsh', hsub, hsup, hrow, hcc, hks⟩
          obtain ⟨gv, cap, rfl, _, _⟩ := hvn.form (by simp)
          have hs4 := hks.size
          have hk4 : ∀ q, w.heap.size ≤ q → q < W2.heap.size → w4.heap[q]? = W2.heap[q]? := fun q hq hq2 => by
            refine (hks.block q (by omega) ?_).trans (hW3.block q hq2)
            rintro (rfl | ⟨y, hy, rfl⟩)
            · omega
            · have := hfl y hy; omega
          refine ⟨some ⟨gv, 0, none⟩, 1, cap, g, rfl, fun q cs te hq hr => (hk4 q (by omega) (Array.getElem?_eq_some_iff.1 hr).1).trans hr, fun g' => ?_⟩
          have hno : ∀ q, dv.ownBlock = some q → ¬ (q = e ∨ ∃ y, y ∈ gs ∧ y.1 = q) := fun q hq => by
            obtain ⟨d1, d2, d3⟩ := hP.dn q hq
            rintro (rfl | ⟨y, hy, hyq⟩)
            · exact d1 rfl
            · exact d3 y hy hyq
          obtain ⟨bs3, ho3⟩ := hP3.own
          have ho4 := own_kn ho3 hks hno
          have hne : dv.ownBlock ≠ some e := fun hq => (hP.dn e hq).1 rfl
          have hlow := hP.low.size
          have hws := hb3.size
          have hk : Calls Tryz.prog 100 #[.pointer (some ⟨e, 1, none⟩), .func (.func 106) #[] #[.pointer (some ⟨g', 0, none⟩)]] w4 (KeepPost W0.heap.size e M (if M = 0 then 0 else n + 1) (.slice a' (gs.length + 1) c') dv (.bool false) (.slice none 0 0) 108 w4) := by
            subst hdv
            rcases hn with ⟨rfl, rfl⟩ | hn
            · obtain rfl : bs3 = [] := by have := ho4.1; simpa using this
              exact keep66 W0.heap.size e _ ad ld cd none 0 0 _ _ _ (.func 106) #[.pointer (some ⟨g', 0, none⟩)] w4 hrow (by omega) ho4 hne
            · rw [if_neg (by omega)]
              exact keepRoom W0.heap.size e M n bs3 _ ad ld cd none 0 0 _ _ _ (.func 106) #[.pointer (some ⟨g', 0, none⟩)] w4 hrow hn hM (by omega) ho4 hne
          refine (addKeep e _ _ w4 (KeepPost W0.heap.size e M (if M = 0 then 0 else n + 1) (.slice a' (gs.length + 1) c') dv (.bool false) (.slice none 0 0) 108 w4) (row6 hrow).1.2.2.2.2.1 (hk.mono fun r w' h => ⟨by obtain ⟨_, _, h, _⟩ := h; exact h, h⟩)).mono ?_
          rintro r w5 ⟨_, dv', bs', rfl, hrow5, ho5, hd5, hk5⟩
          have hk6 : ∀ q, w.heap.size ≤ q → q < W2.heap.size → w5.heap[q]? = W2.heap[q]? := fun q hq hq2 => by
            refine (hk5.block q (by omega) ?_).trans (hk4 q hq hq2)
            rintro (rfl | hd)
            · omega
            · have := (hdl q hd).2; omega
          refine ⟨rfl, fun q cs te hq hr => (hk6 q (by omega) (Array.getElem?_eq_some_iff.1 hr).1).trans hr, fun q hq => (hk6 q (by have := (hF q hq).2; omega) (by have := (hF q hq).1; omega)).trans (hW2.block _ (hF q hq).1), gs ++ [(b, ⟨[nm], p, valP (rho (gs ++ [(b, ⟨[nm], p, (0, 0)⟩)])) p⟩)], S', a', c', dv', ?_, ?_⟩
          · rw [List.map_append, valP_off [nm] _ (rhoF (gs.map Prod.snd)) (fun z hz => (rho_add gs b _ z hz).trans (rho_rhoF gs z)) p hsh hm2]
            rfl
          · refine hP.kept hb3 (S1 := fun q => S q ∨ (w.heap.size + 1 ≤ q ∧ q < W1.heap.size)) ?_ ?_ hb2 hsh' hsup hcc hks hd5 ?_ hk5 hrow5 ho5
            · rintro q (hq | hq)
              · exact Or.inl hq
              · refine Or.inr ⟨by omega, ?_⟩
                rintro (h | h)
                · have := (hF q h).2; omega
                · omega
            · rintro q (h | rfl)
              · obtain ⟨f1, f2⟩ := hF q h
                exact ⟨by omega, by omega⟩
              · exact ⟨by omega, by omega⟩
            · rcases ho5.2 with ⟨h1, _⟩ | ⟨g5, cap5, cur5, h1, _⟩
              · exact ⟨_, _, _, h1⟩
              · exact ⟨_, _, _, h1⟩
      · rintro r w' ⟨bn, ln', cn', g, rfl, h1, h2⟩
        exact ⟨bn, ln', cn', g, rfl, h1, h2 g⟩
    · rintro r w' ⟨bn, ln', cn', rfl, h1, gs', S', a', c', dv', h2, h3⟩
      exact ⟨bn, ln', cn', rfl, h1, gs', S', a', c', dv', h2, h3.less fun q hq => Or.inl hq⟩
  · rintro r w' ⟨⟨bn, ln', cn', rfl⟩, F, gs', S', a', c', dv', h1, h2⟩
    refine ⟨⟨[], bn, ln', cn', 0, 0, rfl⟩, hE, hEL, gs', S', a', c', dv', h1.symm, h2.bare, ?_⟩
    have := congrArg List.length h1
    simp at this
    omega

theorem edC (W0 : World) : EdC (Ed W0 0 0) where
  next := fun w w' e fs ⟨hE, hEL, gs, S, a, c, dv, h1, h2, h3⟩ hb => ⟨hE, hEL, gs, S, a, c, dv, h1, h2.next hb, h3⟩
  env := fun w e fs ⟨hE, hEL, gs, S, a, c, dv, h1, h2, h3⟩ => hE.below h2.low hE.size
  set := edSet (by decide) (Or.inl ⟨rfl, rfl⟩)
  value := edValue

theorem edNew (M : Nat) (hM : M ≤ 6) (w : World) (hE : Env w) (hEL : EnvL w) :
    Calls Tryz.prog 45 #[.int .i64 (M : Int)] w fun r w' => ∃ e, r = .returned (.tuple #[.pointer (some ⟨e, 0, none⟩), .int .i64 0]) ∧ Ed w M 0 w' e [] := by
  refine (new44 M hM w).mono ?_
  rintro r w' ⟨rfl, rfl⟩
  refine ⟨w.heap.size, rfl, hE, hEL, [], fun _ => False, none, 0, .slice none 0 0, rfl, ⟨(Below.refl _ _).alloc (Nat.le_refl _) _, Nat.le_refl _, ⟨fun _ h => h.elim, fun j hj => by simp at hj, fun x hx => by simp at hx⟩, heap_alloc_new w _, fun f hf => by simp at hf, fun h => h, fun _ => rfl, ⟨[], by simp, Or.inl ⟨rfl, rfl⟩⟩, ⟨_, _, _, rfl⟩, fun q hq => by simp [Value.ownBlock] at hq, fun _ h => h.elim⟩, by simp⟩
end Go.Proofs.YtihgojcfpnhelaaGreatDoor
