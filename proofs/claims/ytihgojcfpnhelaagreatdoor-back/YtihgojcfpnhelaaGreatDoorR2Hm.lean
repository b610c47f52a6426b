import Derived.Test.YtihgojcfpnhelaaGreatDoorR2Id
import Derived.Test.YtihgojcfpnhelaaGreatDoorR2Hh
import Derived.Test.YtihgojcfpnhelaaGreatDoorR2Sw
set_option maxRecDepth 100000
set_option maxHeartbeats 4000000
set_option linter.unusedVariables false
set_option linter.unusedSimpArgs false
namespace Go.Proofs.YtihgojcfpnhelaaGreatDoor
open Go.RowKit
section
theorem runW_sub {D : Nat → Prop} : ∀ (us : List Wr) {σ : Sta}, (∀ b, b ∈ σ.ord → D b) → (∀ u, u ∈ us → WrIn D u) → ∀ b, b ∈ (runW us σ).ord → D b
 | [], _, h, _ => h
 | u :: r, σ, h, hu => runW_sub r (σ := wr1 σ u) (by
   have h1 := hu u (by simp)
   cases u with
   | ord l => exact h1
   | nm b x => exact h
   | rl b x => exact h
   | vl b x => exact h) fun v hv => hu v (by simp [hv])
theorem GSt.other {D D' : Nat → Prop} {σ : Sta} (h : GSt D σ) (hs : ∀ b, b ∈ σ.ord → D' b) : GSt D' σ := ⟨h.nd, hs, h.gf, h.len, h.nmo⟩
theorem ChA.other {D D' : Nat → Prop} : ∀ {l : List (List Wr)} {p : List (List Fd)} {σ : Sta}, ChA D σ l p → (∀ b, b ∈ σ.ord → D' b) → (∀ us, us ∈ l → ∀ u, u ∈ us → WrIn D' u) → ChA D' σ l p
 | [], [], _, _, _, _ => trivial
 | us :: r, o :: p, σ, h, hs, hw => by
  obtain ⟨h1, h2, h3, h4⟩ := h
  have hs' := runW_sub us hs (hw us (by simp))
  exact ⟨hw us (by simp), h2, h3.other hs', h4.other hs' fun vs hv => hw vs (by simp [hv])⟩
 | [], _ :: _, _, h, _, _ => h.elim
 | _ :: _, [], _, h, _, _ => h.elim
theorem gall_mem {gr : List (List Wr)} {u : Wr} (h : u ∈ gall gr) : ∃ us, us ∈ gr ∧ u ∈ us := by
 unfold gall at h
 obtain ⟨us, h1, h2⟩ := List.mem_flatten.1 h
 exact ⟨us, List.mem_reverse.1 h1, h2⟩
theorem Rep.other {a : Ab} {D D' : Nat → Prop} {σ : Sta} {dn ud gr : List (List Wr)} (h : Rep a D σ dn ud gr) (hs : ∀ b, b ∈ σ.ord → D' b) (hd : ∀ us, us ∈ dn → ∀ u, u ∈ us → WrIn D' u) (hu : ∀ us, us ∈ ud → ∀ u, u ∈ us → WrIn D' u) (hg : ∀ us, us ∈ gr → ∀ u, u ∈ us → WrIn D' u) : Rep a D' σ dn ud gr := by
 have hgw : ∀ u, u ∈ gall gr → WrIn D' u := fun u h1 => by
  obtain ⟨us, h2, h3⟩ := gall_mem h1
  exact hg us h2 u h3
 refine ⟨h.gs.other hs, h.fs, hgw, ?_⟩
 have hok := h.ok
 cases hc : a.grp with
 | none =>
  rw [hc] at hok
  obtain ⟨h1, h2, h3⟩ := hok
  exact ⟨h1, h2.other hs fun us h => hd us (List.mem_reverse.1 h), h3.other hs fun us h => hu us (List.mem_reverse.1 h)⟩
 | some g =>
  rw [hc] at hok
  obtain ⟨h1, h2, h3, h4⟩ := hok
  have hs' := runW_sub (gall gr) hs hgw
  exact ⟨h1.other hs', h2, h3.other hs' fun us h => hd us (List.mem_reverse.1 h), h4.other hs' fun us h => hu us (List.mem_reverse.1 h)⟩
variable {S S' S1 O : Nat → Prop} {e k : Nat} {D D' F F' P R T : Nat → Prop} {σ σ0 σ1 : Sta} {v0 v1 v2 v3 v4 v5 v v' : Value} {te : TypeId} {w w' W w1 w2 w3 : World} {bs : List (List Wr)} {N : Nat → Nat} {cs : Nat → Array Value} {M : Nat} {dv uv gv : Value} {dn ud gr : List (List Wr)} {op : Bool} {N1 : Nat} {cs1 : Array Value} {us : List Wr} {a : Ab}
theorem RowB.wrin (h : RowB w S e D v bs N cs) : ∀ us, us ∈ bs → ∀ u, u ∈ us → WrIn D u := fun us hus u hu => by
 obtain ⟨i, hi, rfl⟩ := List.getElem_of_mem hus
 have := (h.bk i hi).wrin u
 rw [List.getD_eq_getElem?_getD, List.getElem?_eq_getElem hi] at this
 exact this hu
theorem EdX.rep (h : EdX w e S D σ M dv uv gv dn ud gr op) (hr : Rep a D' σ dn ud gr) : Rep a D σ dn ud gr := by
 obtain ⟨_, _, h1⟩ := h.rd
 obtain ⟨_, _, h2⟩ := h.ru
 obtain ⟨_, _, h3⟩ := h.rg
 exact hr.other h.ph.sub h1.wrin h2.wrin h3.wrin
def EdA (w : World) (e : Nat) (F : Nat → Prop) (k : Nat) (a : Ab) : Prop :=
 ∃ S D σ dv uv gv dn ud gr, EdX w e S D σ a.M dv uv gv dn ud gr a.grp.isSome ∧ Rep a D σ dn ud gr ∧ gr.length ≤ k ∧ (∀ q, Ft S e D dv uv gv q → F q) ∧ ∀ q, F q → q < w.heap.size
theorem EdA.keep (h : EdA w e F k a) (hk : Ks P w w') (hP : ∀ q, F q → ¬ P q) : EdA w' e F k a := by
 obtain ⟨S, D, σ, dv, uv, gv, dn, ud, gr, h1, h2, h3, h4, h5⟩ := h
 exact ⟨S, D, σ, dv, uv, gv, dn, ud, gr, h1.keep hk (fun q hq => hP q (h4 q (Or.inl hq))) fun q hq => hP q (h4 q (Or.inr hq)), h2, h3, h4, fun q hq => Nat.lt_of_lt_of_le (h5 q hq) hk.size⟩
theorem EdA.next (h : EdA w e F k a) (hb : Below w.heap.size w w') : EdA w' e F k a := h.keep (P := fun _ => False) (Ks.of hb) fun _ _ h => h
theorem EdA.lt (h : EdA w e F k a) : ∀ q, F q → q < w.heap.size := by obtain ⟨S, D, σ, dv, uv, gv, dn, ud, gr, h1, h2, h3, h4, h5⟩ := h; exact h5
theorem EdA.more {k' : Nat} (h : EdA w e F k a) (hk : k ≤ k') : EdA w e F k' a := by
 obtain ⟨S, D, σ, dv, uv, gv, dn, ud, gr, h1, h2, h3, h4, h5⟩ := h
 exact ⟨S, D, σ, dv, uv, gv, dn, ud, gr, h1, h2, by omega, h4, h5⟩
theorem EdTo.at {F1 W1 : Nat → Prop} {dn' ud' gr' : List (List Wr)} {op' : Bool} {σ' : Sta} (h : EdTo e F1 W1 σ' a.M dn' ud' gr' op' w w') (hop : op' = a.grp.isSome) (hr : Rep a D σ' dn' ud' gr') (hg : gr'.length ≤ k) : Ks W1 w w' ∧ ∃ F', EdA w' e F' k a ∧ ∀ q, F' q → F1 q ∨ w.heap.size ≤ q := by
 obtain ⟨S', D', dv', uv', gv', h1, h2, h3⟩ := h
 subst hop
 exact ⟨h3, Ft S' e D' dv' uv' gv', ⟨S', D', σ', dv', uv', gv', dn', ud', gr', h1, h1.rep hr, hg, fun _ h => h, h1.ftLt⟩, h2⟩
def Res (F T : Nat → Prop) (e k : Nat) (a : Ab) (nm : List By) (w : World) (bn : Option Addr) (ln cn : Nat) (w' : World) : Prop :=
 ln = nm.length ∧ Ks F w w' ∧ w'.ownsRow w.heap.size 9 1 (.slice bn ln cn) ln (strs nm) ∧ ∃ F', EdA w' e F' k a ∧ (∀ q, F' q → F q ∨ w.heap.size ≤ q) ∧ (∀ q, (Value.slice bn ln cn).ownBlock = some q → ¬ F' q ∧ ¬ T q) ∧ ∀ q, T q → ¬ F' q
variable {nm : List By} {bn : Option Addr} {ln cn : Nat}
theorem Res.set (h : Res F T e k a nm w bn ln cn w') {t : Nat} (ht : T t) (hw : w.heap.size ≤ t) (j : Nat) (u : Value) : Res F T e k a nm w bn ln cn (w'.setCell ⟨t, j, none⟩ u) := by
 obtain ⟨h1, h2, h3, F', h4, h5, h6, h7⟩ := h
 have hk : Ks (fun q => q = t) w' (w'.setCell ⟨t, j, none⟩ u) := (Ks.refl _ _).set t j u rfl
 refine ⟨h1, ⟨hk.os.trans h2.os, hk.tape.trans h2.tape, hk.output.trans h2.output, Nat.le_trans h2.size hk.size, fun q hq hn => (hk.block q (by have := h2.size; omega) (by omega)).trans (h2.block q hq hn)⟩, own_ke h3 hk fun q hq e' => (h6 q hq).2 (e' ▸ ht), F', h4.keep hk fun q hq e' => h7 t ht (e' ▸ hq), h5, h6, h7⟩
theorem Res.less {T' : Nat → Prop} (h : Res F T e k a nm w bn ln cn w') (hT : ∀ q, T' q → T q) : Res F T' e k a nm w bn ln cn w' := by
 obtain ⟨h1, h2, h3, F', h4, h5, h6, h7⟩ := h
 exact ⟨h1, h2, h3, F', h4, h5, fun q hq => ⟨(h6 q hq).1, fun ht => (h6 q hq).2 (hT q ht)⟩, fun q hq => h7 q (hT q hq)⟩
theorem Res.base (h : Res P T e k a nm w bn ln cn w') {w0 : World} (hb : Below w0.heap.size w0 w) (hF : ∀ q, P q → F q ∨ w0.heap.size ≤ q) : Res F T e k a nm w0 bn ln cn w' := by
 obtain ⟨h1, h2, h3, F', h4, h5, h6, h7⟩ := h
 refine ⟨h1, ⟨h2.os.trans hb.os, h2.tape.trans hb.tape, h2.output.trans hb.output, Nat.le_trans hb.size h2.size, fun q hq hn => (h2.block q (by have := hb.size; omega) fun hp => ?_).trans (hb.block q hq)⟩, own_base h3 hb.size, F', h4, fun q hq => ?_, h6, h7⟩
 ·rcases hF q hp with h8 | h8
  ·exact hn h8
  ·omega
 ·rcases h5 q hq with h8 | h8
  ·exact hF q h8
  ·exact Or.inr (Nat.le_trans hb.size h8)
def failA (a : Ab) : Ab := match a.grp with
 | none => a
 | some g => ⟨a.M, g, a.past, a.fut, none⟩
def doneA (a : Ab) (fs : List Fd) : Ab := match a.grp with
 | none => ⟨a.M, fs, (a.fs :: a.past).take a.M, [], none⟩
 | some g => ⟨a.M, fs, a.past, a.fut, some g⟩
def editA (a : Ab) : AR → Ab
 | .ok fs _ => doneA a fs
 | .err _ _ => failA a
def AR.code : AR → Nat
 | .ok _ _ => 0
 | .err c _ => c
def AR.names : AR → List By
 | .ok _ n => n
 | .err _ n => n
def midA (a : Ab) : AR → Ab
 | .ok fs _ => doneA a fs
 | .err _ _ => a
theorem EdA.cancel (h : EdA w e F k a) (hk : k < 1000000000000) : Calls Tryz.prog 49 #[.pointer (some ⟨e, 1, none⟩)] w fun r w' => (∃ x, r = .returned (.int .i64 x)) ∧ Ks F w w' ∧ ∃ F', EdA w' e F' k (failA a) ∧ ∀ q, F' q → F q ∨ w.heap.size ≤ q := by
 obtain ⟨S, D, σ, dv, uv, gv, dn, ud, gr, h1, h2, h3, h4, h5⟩ := h
 unfold failA
 cases hg : a.grp with
 | none =>
  rw [hg] at h1
  refine (cancelShut h1).mono ?_
  rintro r w' ⟨rfl, h6⟩
  obtain ⟨h7, F', h8, h9⟩ := h6.at (k := k) (by rw [hg]; rfl) h2 h3
  exact ⟨⟨_, rfl⟩, h7.wide fun q hq => h4 q (Or.inr hq), F', h8, fun q hq => (h9 q hq).imp_left (h4 q)⟩
 | some g =>
  rw [hg] at h1
  refine (cancelOpen h1 (by omega)).mono ?_
  rintro r w' ⟨rfl, h6⟩
  obtain ⟨h7, F', h8, h9⟩ := EdTo.at (a := ⟨a.M, g, a.past, a.fut, none⟩) (k := k) h6 rfl (h2.cancel hg) (by simp)
  exact ⟨⟨_, rfl⟩, h7.wide fun q hq => h4 q (Or.inr hq), F', h8, fun q hq => (h9 q hq).imp_left (h4 q)⟩
theorem Res.cancel {w0 : World} (h : Res F T e k a nm w0 bn ln cn w) (hk : k < 1000000000000) (hT : ∀ q, T q → q < w.heap.size) : Calls Tryz.prog 49 #[.pointer (some ⟨e, 1, none⟩)] w fun r w' => (∃ x, r = .returned (.int .i64 x)) ∧ (∀ q, T q → w'.heap[q]? = w.heap[q]?) ∧ Res F T e k (failA a) nm w0 bn ln cn w' := by
 obtain ⟨h1, h2, h3, F', h4, h5, h6, h7⟩ := h
 refine (h4.cancel hk).mono ?_
 rintro r w' ⟨h8, h9, F2, h10, h11⟩
 have hsz := h2.size
 refine ⟨h8, fun q hq => h9.block q (hT q hq) (h7 q hq), h1, ⟨h9.os.trans h2.os, h9.tape.trans h2.tape, h9.output.trans h2.output, Nat.le_trans h2.size h9.size, fun q hq hn => (h9.block q (by omega) fun hp => ?_).trans (h2.block q hq hn)⟩, own_ke h3 h9 fun q hq => (h6 q hq).1, F2, h10, fun q hq => ?_, fun q hq => ⟨fun h => ?_, (h6 q hq).2⟩, fun q hq h => ?_⟩
 ·rcases h5 q hp with h12 | h12
  ·exact hn h12
  ·omega
 ·rcases h11 q hq with h12 | h12
  ·exact h5 q h12
  ·exact Or.inr (by omega)
 ·rcases h11 q h with h12 | h12
  ·exact (h6 q hq).1 h12
  ·have := (h3.lt q hq).2; omega
 ·rcases h11 q h with h12 | h12
  ·exact h7 q hq h12
  ·have := hT q hq; omega
end
section
theorem verbEdits (vb : Int) (w : World) : Calls Tryz.prog 48 #[.int .i64 vb] w fun r w' => r = .returned (.bool (vb == 1 || (vb == 2 || vb == 3))) ∧ w' = w := by
 by_cases h1 : vb = 1
 ·subst h1
  go_enter Tryz.func48, Tryz.ntmps48
  go_wp2
  go_ret
  simp
 ·have b1 : (vb == 1) = false := by simpa using h1
  by_cases h2 : vb = 2
  ·subst h2
   go_enter Tryz.func48, Tryz.ntmps48
   go_wp2
   go_ret
   simp
  ·have b2 : (vb == 2) = false := by simpa using h2
   go_enter Tryz.func48, Tryz.ntmps48
   go_wp2
   go_ret
   simp [b1, b2]
structure Aside (Z : World → Prop) (q g : Nat) : Prop where
 a : ∀ W j u, Z W → Z (W.setCell ⟨q, j, none⟩ u)
 b : ∀ W j u, Z W → Z (W.setCell ⟨g, j, none⟩ u)
def edV (vb : Int) : Bool := vb == 1 || (vb == 2 || vb == 3)
def DoEnd (e q g : Nat) (Z : World → Prop) (vb er : Int) (Q : World → Prop) : Prop :=
 (∀ W j u, Q W → Q (W.setCell ⟨q, j, none⟩ u)) ∧ if er ≠ 0 ∧ edV vb = true then ∀ W, Z W → Calls Tryz.prog 49 #[.pointer (some ⟨e, 1, none⟩)] W fun r w' => (∃ x, r = .returned (.int .i64 x)) ∧ w'.heap[q]? = W.heap[q]? ∧ w'.heap[g]? = W.heap[g]? ∧ Q w' else ∀ W, Z W → Q W
def FolAny (Q : Int → Int → By → Option Addr → Nat → Nat → Int → Int → World → Prop) (e q g vb_ : Nat) (lo : Obj) (vb : Int) (r : Ending) (w2 : World) : Prop :=
 ∃ er at_ tx bn ln cn kd nn Z, r = .returned (rpV er at_ tx bn ln cn kd nn) ∧ w2.heap[q]? = some zRep ∧ w2.heap[g]? = some zRep ∧ w2.heap[vb_]? = some lo ∧ Aside Z q g ∧ Z w2 ∧ DoEnd e q g Z vb er (Q er at_ tx bn ln cn kd nn)
def RdAny (Q : Int → Int → By → Option Addr → Nat → Nat → Int → Int → World → Prop) (e : Nat) (w : World) (r : Ending) (w1 : World) : Prop :=
 Below (w.heap.size + 1) (w.alloc zRep) w1 ∧ ∃ vb an ln cn k nm n ar lr cr, r = .returned (.tuple #[lineV vb an ln cn k nm n ar lr cr, .int .i64 0, .int .i64 0]) ∧
  Calls Tryz.prog 47 #[.pointer (some ⟨e, 0, none⟩), lineV vb an ln cn k nm n ar lr cr] ((w1.alloc (lineO vb an ln cn k nm n ar lr cr)).alloc zRep) (FolAny Q e w.heap.size (w1.heap.size + 1) w1.heap.size (lineO vb an ln cn k nm n ar lr cr) vb)
theorem doFol (e : Nat) (s : By) (w : World) (Q : Int → Int → By → Option Addr → Nat → Nat → Int → Int → World → Prop)
  (hR : Calls Tryz.prog 46 #[.string ⟨s.toArray⟩] (w.alloc zRep) (RdAny Q e w)) :
  Calls Tryz.prog 20 #[.pointer (some ⟨e, 0, none⟩), .string ⟨s.toArray⟩] w fun r w' => ∃ er at_ tx bn ln cn kd nn, r = .returned (rpV er at_ tx bn ln cn kd nn) ∧ Q er at_ tx bn ln cn kd nn w' := by
 have HR := tZ hR
 clear hR
 unfold zRep at HR
 go_enter Tryz.func20, Tryz.ntmps20
 go_wp2_with (first | (go_at_call 46; refine HR.out.mono ?_; rintro r w1 ⟨hb1, vb, an, ln, cn, k, nm, n, ar, lr, cr, hr, hf⟩; unfold lineV at hr; subst hr; refine Hid.out ?_))
 have hs1 : w.heap.size < w1.heap.size := by have := hb1.size; simp at this; omega
 have HF := tZ hf
 unfold lineV zRep at HF
 have HF2 := tZ (show Calls Tryz.prog 47 #[.pointer (some ⟨e, 0, none⟩), .agg #[.int .i64 vb, .slice an ln cn, .int .i64 k, .string ⟨nm.toArray⟩, .int .i64 n, .slice ar lr cr]] ((w1.alloc (.cells #[.int .i64 vb, .slice an ln cn, .int .i64 k, .string ⟨nm.toArray⟩, .int .i64 n, .slice ar lr cr] 97 (0, 0))).alloc (.cells #[.int .i64 0, .int .i64 0, .string ⟨#[]⟩, .slice none 0 0, .int .i64 0, .int .i64 0] 39 (0, 0))) (FolAny Q e w.heap.size (w1.heap.size + 1) w1.heap.size (lineO vb an ln cn k nm n ar lr cr) vb) from HF.out)
 clear hb1 hf HR HF
 refine tZ ?_
 go_wp2_with (first | (go_at_call 47; refine HF2.out.mono ?_; rintro r w2 ⟨er, at_, tx, bn, ln', cn', kd, nn, Z, hr, h1, h2, h3, hA, hZ, hE⟩; unfold rpV at hr; subst hr; refine Hid.out ?_))
 obtain ⟨⟨k0, k1, k2, k3, k4, k5⟩, ⟨f0, f1, f2, f3, f4, f5⟩, hsz⟩ := row6 h1
 obtain ⟨⟨j0, j1, j2, j3, j4, j5⟩, ⟨g0, g1, g2, g3, g4, g5⟩, hsz2⟩ := row6 h2
 obtain ⟨⟨l0, l1, l2, l3, l4, l5⟩, ⟨m0, m1, m2, m3, m4, m5⟩, hsz3⟩ := row6 h3
 have hne : w.heap.size ≠ w1.heap.size + 1 := by omega
 have hne' : w1.heap.size + 1 ≠ w.heap.size := by omega
 have hne2 : w.heap.size ≠ w1.heap.size := by omega
 have hne2' : w1.heap.size ≠ w.heap.size := by omega
 have HA := tZ hA
 have HZ := tZ hZ
 have HEN := tZ hE
 have H1 := tZ h1
 have H2 := tZ h2
 clear h1 h2 h3 hA hZ hE HF2
 refine tZ ?_
 have HRW := tZ (show ∀ W : World, W.heap[w1.heap.size + 1]? = some zRep → ((((((W.setCell ⟨w1.heap.size + 1, 0, none⟩ (.int .i64 er)).setCell ⟨w1.heap.size + 1, 1, none⟩ (.int .i64 at_)).setCell ⟨w1.heap.size + 1, 2, none⟩ (.string ⟨tx.toArray⟩)).setCell ⟨w1.heap.size + 1, 3, none⟩ (.slice bn ln' cn')).setCell ⟨w1.heap.size + 1, 4, none⟩ (.int .i64 kd)).setCell ⟨w1.heap.size + 1, 5, none⟩ (.int .i64 nn)).heap[w1.heap.size + 1]? = some (.cells #[.int .i64 er, .int .i64 at_, .string ⟨tx.toArray⟩, .slice bn ln' cn', .int .i64 kd, .int .i64 nn] 39 (0, 0)) from fun W hW => (setCell_block (setCell_block (setCell_block (setCell_block (setCell_block (setCell_block hW 0 _) 1 _) 2 _) 3 _) 4 _) 5 _).trans rfl)
 have HRQ := tZ (show ∀ W : World, W.heap[w.heap.size]? = some zRep → ((((((W.setCell ⟨w1.heap.size + 1, 0, none⟩ (.int .i64 er)).setCell ⟨w1.heap.size + 1, 1, none⟩ (.int .i64 at_)).setCell ⟨w1.heap.size + 1, 2, none⟩ (.string ⟨tx.toArray⟩)).setCell ⟨w1.heap.size + 1, 3, none⟩ (.slice bn ln' cn')).setCell ⟨w1.heap.size + 1, 4, none⟩ (.int .i64 kd)).setCell ⟨w1.heap.size + 1, 5, none⟩ (.int .i64 nn)).heap[w.heap.size]? = some zRep from fun W hW => by
  rw [Below.heap_setCell _ _ _ _ hne, Below.heap_setCell _ _ _ _ hne, Below.heap_setCell _ _ _ _ hne, Below.heap_setCell _ _ _ _ hne, Below.heap_setCell _ _ _ _ hne, Below.heap_setCell _ _ _ _ hne]
  exact hW)
 have hZ6 := HA.out.b _ 5 (.int .i64 nn) (HA.out.b _ 4 (.int .i64 kd) (HA.out.b _ 3 (.slice bn ln' cn') (HA.out.b _ 2 (.string ⟨tx.toArray⟩) (HA.out.b _ 1 (.int .i64 at_) (HA.out.b _ 0 (.int .i64 er) HZ.out)))))
 have HZ6 := tZ hZ6
 have r6g := HRW.out w2 H2.out
 have r6q := HRQ.out w2 H1.out
 have R6G := tZ r6g
 have R6Q := tZ r6q
 clear hZ6 r6g r6q HRW HRQ
 have HQS := tZ HEN.out.1
 have plain : (¬ (er ≠ 0 ∧ edV vb = true)) → Hid (∀ W, Z W → Q er at_ tx bn ln' cn' kd nn W) := fun h0 => by
  have := HEN.out.2
  rw [if_neg h0] at this
  exact tZ this
 have PL := tZ plain
 clear plain
 by_cases her : er = 0
 ·subst her
  go_wp2
  refine bodyPost_ret (v := .agg #[.int .i64 0, .int .i64 at_, .string ⟨tx.toArray⟩, .slice bn ln' cn', .int .i64 kd, .int .i64 nn]) (by simp [results, Tryz.results20, go_sem, k0, k1, k2, k3, k4, k5, hsz, hne]) (by simp [go_sem]) ?_
  refine ⟨0, at_, tx, bn, ln', cn', kd, nn, rfl, (PL.out (fun h => h.1 rfl)).out _ ?_⟩
  exact HA.out.a _ _ _ (HA.out.a _ _ _ (HA.out.a _ _ _ (HA.out.a _ _ _ (HA.out.a _ _ _ (HA.out.a _ _ _ HZ6.out)))))
 ·have her' : (er == 0) = false := by simpa using her
  by_cases hed : edV vb = true
  ·have hed' : (vb == 1 || (vb == 2 || vb == 3)) = true := hed
   have HVE := tZ (fun W => verbEdits vb W)
   rw [hed'] at HVE
   have hcan := HEN.out.2
   rw [if_pos ⟨her, hed⟩] at hcan
   have HCN := tZ (hcan _ HZ6.out)
   clear hcan hed hed' PL HEN HA HZ
   have HW6 := tZ (Eq.refl ((((((w2.setCell ⟨w1.heap.size + 1, 0, none⟩ (.int .i64 er)).setCell ⟨w1.heap.size + 1, 1, none⟩ (.int .i64 at_)).setCell ⟨w1.heap.size + 1, 2, none⟩ (.string ⟨tx.toArray⟩)).setCell ⟨w1.heap.size + 1, 3, none⟩ (.slice bn ln' cn')).setCell ⟨w1.heap.size + 1, 4, none⟩ (.int .i64 kd)).setCell ⟨w1.heap.size + 1, 5, none⟩ (.int .i64 nn)))
   go_wp2_with (first | (go_at_call 48; refine (HVE.out _).mono ?_; rintro r w3 ⟨rfl, rfl⟩; refine Hid.out ?_))
   obtain ⟨⟨q0, q1, q2, q3, q4, q5⟩, ⟨s0, s1, s2, s3, s4, s5⟩, hszq⟩ := row6 R6Q.out
   obtain ⟨⟨u0, u1, u2, u3, u4, u5⟩, ⟨t0, t1, t2, t3, t4, t5⟩, hszg⟩ := row6 R6G.out
   generalize hw6 : ((((((w2.setCell ⟨w1.heap.size + 1, 0, none⟩ (.int .i64 er)).setCell ⟨w1.heap.size + 1, 1, none⟩ (.int .i64 at_)).setCell ⟨w1.heap.size + 1, 2, none⟩ (.string ⟨tx.toArray⟩)).setCell ⟨w1.heap.size + 1, 3, none⟩ (.slice bn ln' cn')).setCell ⟨w1.heap.size + 1, 4, none⟩ (.int .i64 kd)).setCell ⟨w1.heap.size + 1, 5, none⟩ (.int .i64 nn)) = w6 at *
   clear hw6 HW6 HVE
   refine tZ ?_
   go_wp2_with (first | (go_at_call 49; refine HCN.out.mono ?_; rintro r w3 ⟨⟨x, rfl⟩, hq3, hg3, hqq⟩; refine Hid.out ?_))
   obtain ⟨⟨k0, k1, k2, k3, k4, k5⟩, ⟨f0, f1, f2, f3, f4, f5⟩, hsz⟩ := row6 (hq3.trans R6Q.out)
   obtain ⟨⟨j0, j1, j2, j3, j4, j5⟩, ⟨g0, g1, g2, g3, g4, g5⟩, hsz2⟩ := row6 (hg3.trans R6G.out)
   have HQQ := tZ hqq
   clear hq3 hg3 hqq
   refine tZ ?_
   go_wp2
   refine bodyPost_ret (v := .agg #[.int .i64 er, .int .i64 at_, .string ⟨tx.toArray⟩, .slice bn ln' cn', .int .i64 kd, .int .i64 nn]) (by simp [results, Tryz.results20, go_sem, k0, k1, k2, k3, k4, k5, hsz, hne]) (by simp [go_sem]) ?_
   refine ⟨er, at_, tx, bn, ln', cn', kd, nn, rfl, ?_⟩
   exact HQS.out _ _ _ (HQS.out _ _ _ (HQS.out _ _ _ (HQS.out _ _ _ (HQS.out _ _ _ (HQS.out _ _ _ HQQ.out)))))
  ·have hed' : (vb == 1 || (vb == 2 || vb == 3)) = false := by simpa [edV] using hed
   have HVE := tZ (fun W => verbEdits vb W)
   rw [hed'] at HVE
   have PL2 := tZ ((PL.out (fun h => hed h.2)).out)
   clear hed hed' PL HEN HZ
   go_wp2_with (first | (go_at_call 48; refine (HVE.out _).mono ?_; rintro r w3 ⟨rfl, rfl⟩))
   refine bodyPost_ret (v := .agg #[.int .i64 er, .int .i64 at_, .string ⟨tx.toArray⟩, .slice bn ln' cn', .int .i64 kd, .int .i64 nn]) (by simp [results, Tryz.results20, go_sem, k0, k1, k2, k3, k4, k5, hsz, hne]) (by simp [go_sem]) ?_
   refine ⟨er, at_, tx, bn, ln', cn', kd, nn, rfl, PL2.out _ ?_⟩
   exact HA.out.a _ _ _ (HA.out.a _ _ _ (HA.out.a _ _ _ (HA.out.a _ _ _ (HA.out.a _ _ _ (HA.out.a _ _ _ HZ6.out)))))
end
section
def erRep (er at_ : Int) : Obj := .cells #[.int .i64 er, .int .i64 at_, .string ⟨#[]⟩, .slice none 0 0, .int .i64 0, .int .i64 0] 39 (0, 0)
def RdErr (Q : Int → Int → World → Prop) (e : Nat) (w : World) (r : Ending) (w1 : World) : Prop :=
 Below (w.heap.size + 1) (w.alloc zRep) w1 ∧ ∃ vb er at_ Z, er ≠ 0 ∧ r = .returned (.tuple #[lineV vb none 0 0 0 [] 0 none 0 0, .int .i64 er, .int .i64 at_]) ∧ (∀ W j u, Z W → Z (W.setCell ⟨w.heap.size, j, none⟩ u)) ∧
  Z ((w1.alloc (lineO vb none 0 0 0 [] 0 none 0 0)).alloc (erRep er at_)) ∧ DoEnd e w.heap.size (w1.heap.size + 1) Z vb er (Q er at_)
theorem doErr (e : Nat) (s : By) (w : World) (Q : Int → Int → World → Prop)
  (hR : Calls Tryz.prog 46 #[.string ⟨s.toArray⟩] (w.alloc zRep) (RdErr Q e w)) :
  Calls Tryz.prog 20 #[.pointer (some ⟨e, 0, none⟩), .string ⟨s.toArray⟩] w fun r w' => ∃ er at_, r = .returned (rpV er at_ [] none 0 0 0 0) ∧ Q er at_ w' := by
 have HR := tZ hR
 clear hR
 unfold zRep at HR
 go_enter Tryz.func20, Tryz.ntmps20
 go_wp2_with (first | (go_at_call 46; refine HR.out.mono ?_; rintro r w1 ⟨hb1, vb, er, at_, Z, her, hr, hA, hZ, hE⟩; unfold lineV at hr; subst hr; refine Hid.out ?_))
 have hs1 : w.heap.size < w1.heap.size := by have := hb1.size; simp at this; omega
 have her' : (er == 0) = false := by simpa using her
 have hq1 : w1.heap[w.heap.size]? = some zRep := (hb1.block _ (by omega)).trans (heap_alloc_new w zRep)
 have r6q : ((w1.alloc (lineO vb none 0 0 0 [] 0 none 0 0)).alloc (erRep er at_)).heap[w.heap.size]? = some zRep := by
  rw [Below.heap_alloc _ _ _ (by simp; omega), Below.heap_alloc _ _ _ hs1]
  exact hq1
 have r6g : ((w1.alloc (lineO vb none 0 0 0 [] 0 none 0 0)).alloc (erRep er at_)).heap[w1.heap.size + 1]? = some (erRep er at_) := by
  have := heap_alloc_new (w1.alloc (lineO vb none 0 0 0 [] 0 none 0 0)) (erRep er at_)
  simpa using this
 have r6l : ((w1.alloc (lineO vb none 0 0 0 [] 0 none 0 0)).alloc (erRep er at_)).heap[w1.heap.size]? = some (lineO vb none 0 0 0 [] 0 none 0 0) := by
  rw [Below.heap_alloc _ _ _ (by simp)]
  exact heap_alloc_new w1 _
 have R6Q := tZ r6q
 have R6G := tZ r6g
 have R6L := tZ r6l
 have HA := tZ hA
 have HZ := tZ hZ
 have HEN := tZ hE
 have HQS := tZ hE.1
 obtain ⟨⟨k0, k1, k2, k3, k4, k5⟩, ⟨f0, f1, f2, f3, f4, f5⟩, hsz⟩ := row6 hq1
 have hne : w.heap.size ≠ w1.heap.size + 1 := by omega
 have hne' : w1.heap.size + 1 ≠ w.heap.size := by omega
 have hne2 : w.heap.size ≠ w1.heap.size := by omega
 have hne2' : w1.heap.size ≠ w.heap.size := by omega
 clear hb1 hA hZ hE HR r6q r6g r6l hq1
 refine tZ ?_
 by_cases hed : edV vb = true
 ·have hed' : (vb == 1 || (vb == 2 || vb == 3)) = true := hed
  have HVE := tZ (fun W => verbEdits vb W)
  rw [hed'] at HVE
  have hcan := HEN.out.2
  rw [if_pos ⟨her, hed⟩] at hcan
  have HCN := tZ (hcan _ HZ.out)
  clear hcan hed hed' HEN HA HZ
  go_wp2_with (first | (go_at_call 48; refine (HVE.out _).mono ?_; rintro r w3 ⟨rfl, rfl⟩; refine Hid.out ?_))
  obtain ⟨⟨q0, q1, q2, q3, q4, q5⟩, ⟨s0, s1, s2, s3, s4, s5⟩, hszq⟩ := row6 R6Q.out
  obtain ⟨⟨u0, u1, u2, u3, u4, u5⟩, ⟨t0, t1, t2, t3, t4, t5⟩, hszg⟩ := row6 R6G.out
  have e1 : lineO vb none 0 0 0 [] 0 none 0 0 = .cells #[.int .i64 vb, .slice none 0 0, .int .i64 0, .string ⟨#[]⟩, .int .i64 0, .slice none 0 0] 97 (0, 0) := rfl
  have e2 : erRep er at_ = .cells #[.int .i64 er, .int .i64 at_, .string ⟨#[]⟩, .slice none 0 0, .int .i64 0, .int .i64 0] 39 (0, 0) := rfl
  rw [e1, e2] at q0 q1 q2 q3 q4 q5 s0 s1 s2 s3 s4 s5 hszq u0 u1 u2 u3 u4 u5 t0 t1 t2 t3 t4 t5 hszg R6Q R6G R6L HCN
  generalize hw6 : ((w1.alloc (.cells #[.int .i64 vb, .slice none 0 0, .int .i64 0, .string ⟨#[]⟩, .int .i64 0, .slice none 0 0] 97 (0, 0))).alloc (.cells #[.int .i64 er, .int .i64 at_, .string ⟨#[]⟩, .slice none 0 0, .int .i64 0, .int .i64 0] 39 (0, 0))) = w6 at *
  clear hw6 HVE e1 e2
  refine tZ ?_
  go_wp2_with (first | (go_at_call 49; refine HCN.out.mono ?_; rintro r w3 ⟨⟨x, rfl⟩, hq3, hg3, hqq⟩; refine Hid.out ?_))
  obtain ⟨⟨k0, k1, k2, k3, k4, k5⟩, ⟨f0, f1, f2, f3, f4, f5⟩, hsz⟩ := row6 (hq3.trans R6Q.out)
  obtain ⟨⟨j0, j1, j2, j3, j4, j5⟩, ⟨g0, g1, g2, g3, g4, g5⟩, hsz2⟩ := row6 (hg3.trans R6G.out)
  have HQQ := tZ hqq
  clear hq3 hg3 hqq
  refine tZ ?_
  go_wp2
  refine bodyPost_ret (v := .agg #[.int .i64 er, .int .i64 at_, .string ⟨#[]⟩, .slice none 0 0, .int .i64 0, .int .i64 0]) (by simp [results, Tryz.results20, go_sem, k0, k1, k2, k3, k4, k5, hsz, hne]) (by simp [go_sem]) ?_
  refine ⟨er, at_, rfl, ?_⟩
  exact HQS.out _ _ _ (HQS.out _ _ _ (HQS.out _ _ _ (HQS.out _ _ _ (HQS.out _ _ _ (HQS.out _ _ _ HQQ.out)))))
 ·have hed' : (vb == 1 || (vb == 2 || vb == 3)) = false := by simpa [edV] using hed
  have HVE := tZ (fun W => verbEdits vb W)
  rw [hed'] at HVE
  have hpl := HEN.out.2
  rw [if_neg (fun h => hed h.2)] at hpl
  have PL := tZ hpl
  clear hpl hed hed' HEN
  go_wp2_with (first | (go_at_call 48; refine (HVE.out _).mono ?_; rintro r w3 ⟨rfl, rfl⟩; refine Hid.out ?_))
  obtain ⟨⟨q0, q1, q2, q3, q4, q5⟩, ⟨s0, s1, s2, s3, s4, s5⟩, hszq⟩ := row6 R6Q.out
  obtain ⟨⟨u0, u1, u2, u3, u4, u5⟩, ⟨t0, t1, t2, t3, t4, t5⟩, hszg⟩ := row6 R6G.out
  have e1 : lineO vb none 0 0 0 [] 0 none 0 0 = .cells #[.int .i64 vb, .slice none 0 0, .int .i64 0, .string ⟨#[]⟩, .int .i64 0, .slice none 0 0] 97 (0, 0) := rfl
  have e2 : erRep er at_ = .cells #[.int .i64 er, .int .i64 at_, .string ⟨#[]⟩, .slice none 0 0, .int .i64 0, .int .i64 0] 39 (0, 0) := rfl
  rw [e1, e2] at q0 q1 q2 q3 q4 q5 s0 s1 s2 s3 s4 s5 hszq u0 u1 u2 u3 u4 u5 t0 t1 t2 t3 t4 t5 hszg R6Q R6G R6L HZ
  generalize hw6 : ((w1.alloc (.cells #[.int .i64 vb, .slice none 0 0, .int .i64 0, .string ⟨#[]⟩, .int .i64 0, .slice none 0 0] 97 (0, 0))).alloc (.cells #[.int .i64 er, .int .i64 at_, .string ⟨#[]⟩, .slice none 0 0, .int .i64 0, .int .i64 0] 39 (0, 0))) = w6 at *
  clear hw6 HVE e1 e2
  refine tZ ?_
  go_wp2
  refine bodyPost_ret (v := .agg #[.int .i64 er, .int .i64 at_, .string ⟨#[]⟩, .slice none 0 0, .int .i64 0, .int .i64 0]) (by simp [results, Tryz.results20, go_sem, q0, q1, q2, q3, q4, q5, hszq, hne]) (by simp [go_sem]) ?_
  refine ⟨er, at_, rfl, PL.out _ ?_⟩
  exact HA.out _ _ _ (HA.out _ _ _ (HA.out _ _ _ (HA.out _ _ _ (HA.out _ _ _ (HA.out _ _ _ HZ.out)))))
end
end Go.Proofs.YtihgojcfpnhelaaGreatDoor
