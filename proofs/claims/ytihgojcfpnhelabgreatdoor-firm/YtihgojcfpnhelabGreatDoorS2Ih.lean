import Derived.Test.YtihgojcfpnhelabGreatDoorS2Hn
import Derived.Test.YtihgojcfpnhelabGreatDoorS2Lc
set_option maxRecDepth 100000
set_option maxHeartbeats 4000000
set_option linter.unusedVariables false
set_option linter.unusedSimpArgs false
namespace Go.Proofs.YtihgojcfpnhelabGreatDoor
open Go.RowKit
section
variable {S S' S1 O : Nat → Prop} {e k : Nat} {D D' F F' P R T : Nat → Prop} {σ σ0 σ1 : Sta} {v0 v1 v2 v3 v4 v5 v v' : Value} {te : TypeId} {w w' W w1 w2 w3 : World} {M : Nat} {dv uv gv : Value} {dn ud gr : List (List Wr)} {op : Bool} {N1 : Nat} {cs1 : Array Value} {us : List Wr} {a : Ab} {nm : List By} {bn : Option Addr} {ln cn : Nat}
theorem own_not_field {base n z : Nat} {xs : List Value} (ho : w.ownsRow base 9 z v n xs) {f : Fd} {b : Nat} (hf : FdAt w S b f) : v.ownBlock ≠ some b := by
 intro hq
 obtain ⟨h1, h2⟩ := ho
 rcases h2 with h2 | ⟨g, cap, cur, h3, h4, h5, h6⟩
 ·rw [h2.1] at hq
  simp [Value.ownBlock] at hq
 ·obtain ⟨_, _, _, _, a, l, c, hr, _⟩ := hf
  rw [h3] at hq
  simp only [Value.ownBlock, Option.some.injEq] at hq
  subst hq
  rw [h5] at hr
  simp at hr
structure FsOk (fs : List Fd) : Prop where
 gf : GF fs
 len : fs.length ≤ 10
 nmo : ∀ f, f ∈ fs → f.nm ≠ [] ∧ f.nm.length ≤ 6
theorem FsOk.st {fs : List Fd} (h : FsOk fs) (hs : ∀ b, b ∈ σ.ord → D b) (hf : σ.fs.map Prod.snd = fs) : GSt D σ := by
 subst hf
 refine ⟨?_, hs, h.gf, by have := h.len; simpa [Sta.fs] using this, h.nmo⟩
 have := h.gf.nn
 unfold Sta.fs at this
 rw [List.map_map, List.map_map] at this
 unfold List.Nodup at this ⊢
 rw [List.pairwise_map] at this
 exact this.imp fun h e => h (by rw [e])
theorem EdA.change (h : EdA w e F k a) (hk : k < 1000000000000) (ar : AR) (hok : ∀ fs n, ar = .ok fs n → FsOk fs) (herr : ∀ c n, ar = .err c n → c ≠ 0) (hb : Below w.heap.size w W) (hR : ∀ q, R q → w.heap.size ≤ q ∧ q < W.heap.size) (hT : ∀ q, T q → w.heap.size ≤ q ∧ q < W.heap.size ∧ ¬ R q) (t : Nat) (ht : T t) (ht0 : W.heap[t]? = some zRep) (arg : Value)
  (hC : ∀ S D σ v1 v2 v3 v4 v5, PhS W S e D σ v1 v2 v3 v4 v5 65 → (∀ q, R q → S q) → (∀ q, q = e ∨ D q → F q) → GSt D σ → σ.fs.map Prod.snd = a.fs → Calls Tryz.prog 36 #[.pointer (some ⟨e, 0, none⟩), arg] W (EdPost S e D σ v1 v2 v3 v4 v5 65 ar W)) :
  Calls Tryz.prog 36 #[.pointer (some ⟨e, 0, none⟩), arg] W (ChPost e (fun er bn ln cn w' => er = (ar.code : Int) ∧ Res (fun q => F q ∨ R q) T e (k + 1) (midA a ar) ar.names W bn ln cn w') t zRep) := by
 have hF := h.lt
 have hsz := hb.size
 have h' := h.next hb
 obtain ⟨S, D, σ, dv, uv, gv, dn, ud, gr, h1, h2, h3, h4, h5⟩ := h'
 have hFW : ∀ q, EdW e D dv uv gv q → F q := fun q hq => h4 q (Or.inr hq)
 have hRW : ∀ q, R q → ¬ EdW e D dv uv gv q := fun q hq hw => by have := hF q (hFW q hw); have := (hR q hq).1; omega
 have hx := h1.wideS (S' := fun q => S q ∨ R q) (fun q hq => Or.inl hq) (fun q hq => hq.imp_right fun hr => ⟨(hR q hr).2, hRW q hr⟩)
 have hTt := hT t ht
 refine (hC _ _ _ _ _ _ _ _ hx.ph (fun q hq => Or.inr hq) (fun q hq => hFW q (hq.imp_right Or.inl)) h2.gs h2.fs.symm).mono ?_
 rintro r w1 hp
 cases ar with
 | ok fs n =>
  obtain ⟨an, cn, S2, D2, N', cs', σ2, ws, hcom, rfl, hm, ho, hph, hbk, hfs⟩ := hp
  have hx2 := hx.sheet hph hcom.s0 hcom.s1 hcom.d0 hcom.d1 hcom.ks
  have hgs : GSt D2 (runW ws σ2) := (hok fs n rfl).st hph.sub hfs
  have hre := h2.edited (σ1 := σ2) hcom.d0 ⟨ho.symm, fun q hq => (hm q hq).symm⟩ hgs hbk.wrin (by have := h1.len; omega)
  rw [hfs] at hre
  have hks : Ks (fun q => F q ∨ R q) W w1 := hcom.ks.wide fun q hq => Or.inl (hFW q (hq.imp_right Or.inl))
  have hsz1 := hks.size
  have hTn : ∀ q, T q → ¬ Ft S2 e D2 dv uv gv q := by
   intro q hq hft
   obtain ⟨t1, t2, t3⟩ := hT q hq
   have hw : ∀ q, EdW e D dv uv gv q → q < w.heap.size := fun q hq => hF q (hFW q hq)
   rcases hft with h6 | h6 | h6 | h6
   ·rcases hcom.s1 q h6 with (h7 | h7) | h7
    ·have := hF q (h4 q (Or.inl h7)); omega
    ·exact t3 h7
    ·omega
   ·have := hw q (Or.inl h6); omega
   ·rcases hcom.d1 q h6 with h7 | h7
    ·have := hw q (Or.inr (Or.inl h7)); omega
    ·omega
   ·have := hw q (Or.inr (Or.inr h6)); omega
  have hNn : ∀ q, (Value.slice an n.length cn).ownBlock = some q → ¬ Ft S2 e D2 dv uv gv q := by
   intro q hq hft
   have hql := hcom.own.lt q hq
   have hw : ∀ q, EdW e D dv uv gv q → q < W.heap.size := fun q hq => by have := hF q (hFW q hq); omega
   rcases hft with h6 | h6 | h6 | h6
   ·exact hcom.ob q hq h6
   ·have := hw q (Or.inl h6); omega
   ·exact own_not_field hcom.own (hph.fld q h6) hq
   ·have := hw q (Or.inr (Or.inr h6)); omega
  refine ⟨an, _, cn, _, 0, rfl, (hks.block t (by omega) fun hp => ?_).trans ht0, Or.inl ⟨rfl, N', cs', rfl, ?_⟩⟩
  ·rcases hp with hp | hp
   ·have := hF t hp; omega
   ·exact hTt.2.2 hp
  have fin : ∀ (a' : Ab) (dn' ud' gr' : List (List Wr)) (w2 : World), a'.M = a.M → EdTo e (Ft S2 e D2 dv uv gv) (EdW e D2 dv uv gv) (runW ws σ2) a.M dn' ud' gr' a'.grp.isSome w1 w2 → Rep a' D2 (runW ws σ2) dn' ud' gr' → gr'.length ≤ k + 1 → w2.heap[t]? = some zRep ∧ Res (fun q => F q ∨ R q) T e (k + 1) a' n W an n.length cn w2 := by
   intro a' dn' ud' gr' w2 hM hto hrep hl
   rw [← hM] at hto
   obtain ⟨k1, F', k2, k3⟩ := hto.at rfl hrep hl
   have hsz2 := k1.size
   refine ⟨(k1.block t (by omega) fun hw => hTn t ht (Or.inr hw)).trans ((hks.block t (by omega) fun hp => ?_).trans ht0), rfl, ⟨k1.os.trans hks.os, k1.tape.trans hks.tape, k1.output.trans hks.output, by omega, fun q hq hn => (k1.block q (by omega) fun hw => hn ?_).trans (hks.block q hq hn)⟩, own_ke hcom.own k1 (fun q hq hw => hNn q hq (Or.inr hw)), F', k2, fun q hq => ?_, fun q hq => ⟨fun hh => ?_, fun hh => ?_⟩, fun q hq hh => ?_⟩
   ·rcases hp with hp | hp
    ·have := hF t hp; omega
    ·exact hTt.2.2 hp
   ·rcases hw with h6 | h6 | h6
    ·exact Or.inl (hFW q (Or.inl h6))
    ·rcases hcom.d1 q h6 with h7 | h7
     ·exact Or.inl (hFW q (Or.inr (Or.inl h7)))
     ·omega
    ·exact Or.inl (hFW q (Or.inr (Or.inr h6)))
   ·rcases k3 q hq with h5 | h5
    ·rcases h5 with h6 | h6 | h6 | h6
     ·rcases hcom.s1 q h6 with (h7 | h7) | h7
      ·exact Or.inl (Or.inl (h4 q (Or.inl h7)))
      ·exact Or.inl (Or.inr h7)
      ·exact Or.inr h7
     ·exact Or.inl (Or.inl (hFW q (Or.inl h6)))
     ·rcases hcom.d1 q h6 with h7 | h7
      ·exact Or.inl (Or.inl (hFW q (Or.inr (Or.inl h7))))
      ·exact Or.inr h7
     ·exact Or.inl (Or.inl (hFW q (Or.inr (Or.inr h6))))
    ·exact Or.inr (by omega)
   ·rcases k3 q hh with h6 | h6
    ·exact hNn q hq h6
    ·have := (hcom.own.lt q hq).2; omega
   ·have := (hcom.own.lt q hq).1; have := (hT q hh).2.1; omega
   ·rcases k3 q hh with h6 | h6
    ·exact hTn q hq h6
    ·have := (hT q hq).2.1; omega
  cases hg : a.grp with
  | none =>
   rw [hg] at hx2
   refine (addShut hx2 hbk).mono ?_
   rintro r w2 ⟨rfl, hto⟩
   have hr1 := hre.1 hg
   obtain ⟨f1, f2⟩ := fin ⟨a.M, fs, (a.fs :: a.past).take a.M, [], none⟩ _ _ _ w2 rfl hto hr1 (by omega)
   refine ⟨rfl, f1, rfl, ?_⟩
   simp only [midA, doneA, hg]
   exact f2
  | some g =>
   rw [hg] at hx2
   refine (addOpen hx2 hbk (by omega)).mono ?_
   rintro r w2 ⟨rfl, hto⟩
   have hr1 := hre.2 g hg
   obtain ⟨f1, f2⟩ := fin ⟨a.M, fs, a.past, a.fut, some g⟩ _ _ _ w2 rfl hto hr1 (by simp; omega)
   refine ⟨rfl, f1, rfl, ?_⟩
   simp only [midA, doneA, hg]
   exact f2
 | err c n =>
  obtain ⟨an, cn, S2, hcom, rfl, hph⟩ := hp
  have hx2 := hx.sheet hph hcom.s0 hcom.s1 hcom.d0 hcom.d1 hcom.ks
  have hks : Ks (fun q => F q ∨ R q) W w1 := hcom.ks.wide fun q hq => Or.inl (hFW q (hq.imp_right Or.inl))
  have hsz1 := hks.size
  have hw : ∀ q, EdW e D dv uv gv q → q < w.heap.size := fun q hq => hF q (hFW q hq)
  refine ⟨an, _, cn, _, (c : Int), rfl, (hks.block t (by omega) fun hp => ?_).trans ht0, Or.inr ⟨by have := herr c n rfl; omega, rfl, rfl, rfl, hks, hcom.own, Ft S2 e D dv uv gv, ⟨S2, D, σ, dv, uv, gv, dn, ud, gr, hx2, h2, by omega, fun _ h => h, hx2.ftLt⟩, fun q hq => ?_, fun q hq => ⟨fun hh => ?_, fun hh => ?_⟩, fun q hq hh => ?_⟩⟩
  ·rcases hp with hp | hp
   ·have := hF t hp; omega
   ·exact hTt.2.2 hp
  ·rcases hq with h6 | h6
   ·rcases hcom.s1 q h6 with (h7 | h7) | h7
    ·exact Or.inl (Or.inl (h4 q (Or.inl h7)))
    ·exact Or.inl (Or.inr h7)
    ·exact Or.inr h7
   ·exact Or.inl (Or.inl (hFW q h6))
  ·rcases hh with h6 | h6
   ·exact hcom.ob q hq h6
   ·have := hw q h6; have := (hcom.own.lt q hq).1; omega
  ·have := (hcom.own.lt q hq).1; have := (hT q hh).2.1; omega
  ·rcases hh with h6 | h6
   ·rcases hcom.s1 q h6 with (h7 | h7) | h7
    ·have := hF q (h4 q (Or.inl h7)); have := (hT q hq).1; omega
    ·exact (hT q hq).2.2 h7
    ·have := (hT q hq).2.1; omega
   ·have := hw q h6; have := (hT q hq).1; omega
theorem ChPost.imp {Q Q' : Int → Option Addr → Nat → Nat → World → Prop} {q : Nat} {row : Obj} {r : Ending} (h : ChPost e Q q row r w1) (hQ : ∀ er bn ln cn w', Q er bn ln cn w' → Q' er bn ln cn w') : ChPost e Q' q row r w1 := by
 obtain ⟨bn, ln, cn, bk, er, h1, h2, h3⟩ := h
 refine ⟨bn, ln, cn, bk, er, h1, h2, ?_⟩
 rcases h3 with ⟨h4, N, cs, h5, h6⟩ | ⟨h4, h5, h6⟩
 ·refine Or.inl ⟨h4, N, cs, h5, h6.mono ?_⟩
  rintro r w2 ⟨k1, k2, k3⟩
  exact ⟨k1, k2, hQ _ _ _ _ _ k3⟩
 ·exact Or.inr ⟨h4, h5, hQ _ _ _ _ _ h6⟩
def EdLine (e : Nat) (F : Nat → Prop) (a : Ab) (ar : AR) (w : World) (r : Ending) (w1 : World) : Prop :=
 Below (w.heap.size + 1) (w.alloc zRep) w1 ∧ ∃ (vb : Int) (an : Option Addr) (ln cn : Nat) (k : Int) (nm : By) (n : Int) (al : Option Addr) (lr cr : Nat) (R : Nat → Prop), r = .returned (.tuple #[lineV vb an ln cn k nm n al lr cr, .int .i64 0, .int .i64 0]) ∧ (vb = 1 ∨ vb = 2 ∨ vb = 3) ∧ (∀ q, R q → w.heap.size + 1 ≤ q ∧ q < w1.heap.size) ∧
  ∀ W, Below w1.heap.size w1 W → ∀ S D σ v1 v2 v3 v4 v5, PhS W S e D σ v1 v2 v3 v4 v5 65 → (∀ q, R q → S q) → (∀ q, q = e ∨ D q → F q) → GSt D σ → σ.fs.map Prod.snd = a.fs → Calls Tryz.prog 36 #[.pointer (some ⟨e, 0, none⟩), lineV vb an ln cn k nm n al lr cr] W (EdPost S e D σ v1 v2 v3 v4 v5 65 ar W)
theorem edV_of {vb : Int} (h : vb = 1 ∨ vb = 2 ∨ vb = 3) : edV vb = true := by
 rcases h with rfl | rfl | rfl <;> rfl
theorem EdA.doEdit (h : EdA w e F k a) (hk : k + 1 < 1000000000000) (s : By) (ar : AR) (hok : ∀ fs n, ar = .ok fs n → FsOk fs) (herr : ∀ c n, ar = .err c n → c ≠ 0)
  (hR : Calls Tryz.prog 14 #[.string ⟨s.toArray⟩] (w.alloc zRep) (EdLine e F a ar w)) :
  Calls Tryz.prog 8 #[.pointer (some ⟨e, 0, none⟩), .string ⟨s.toArray⟩] w fun r w' => ∃ bn ln cn, r = .returned (rpV (ar.code : Int) 0 [] bn ln cn 0 0) ∧ Res F (fun _ => False) e (k + 1) (editA a ar) ar.names w bn ln cn w' := by
 have hF := h.lt
 refine (doFol e s w (fun er at_ tx bn ln cn kd nn w' => er = (ar.code : Int) ∧ at_ = 0 ∧ tx = [] ∧ kd = 0 ∧ nn = 0 ∧ Res F (fun q => q = w.heap.size) e (k + 1) (editA a ar) ar.names w bn ln cn w') (hR.mono ?_)).mono ?_
 rotate_left
 ·rintro r w' ⟨er, at_, tx, bn, ln, cn, kd, nn, rfl, rfl, rfl, rfl, rfl, rfl, h7⟩
  exact ⟨bn, ln, cn, rfl, h7.less fun _ h => h.elim⟩
 rintro r w1 ⟨hb1, vb, an, ln0, cn0, k0, nm0, n0, al, lr, cr, R, rfl, hvb, hRr, hC⟩
 refine ⟨hb1, vb, an, ln0, cn0, k0, nm0, n0, al, lr, cr, rfl, ?_⟩
 have hs1 : w.heap.size + 1 ≤ w1.heap.size := by have := hb1.size; simpa using this
 have hb01 : Below w.heap.size w w1 := ((Below.refl _ _).alloc (Nat.le_refl _) zRep).trans (hb1.mono (by omega))
 generalize hw2 : (w1.alloc (lineO vb an ln0 cn0 k0 nm0 n0 al lr cr)).alloc zRep = w2
 have hsz2 : w2.heap.size = w1.heap.size + 2 := by rw [← hw2]; simp
 have hb12 : Below w1.heap.size w1 w2 := by rw [← hw2]; exact below2 _ _ _
 have z0 : w2.heap[w.heap.size]? = some zRep := by
  rw [hb12.block _ (by omega), hb1.block _ (by omega)]
  show (w.heap.push zRep)[w.heap.size]? = some zRep
  exact Array.getElem?_push_size
 have z1 : w2.heap[w1.heap.size + 1]? = some zRep := by
  rw [← hw2]
  exact alloc2_new' w1 _ _ _
 have z2 : w2.heap[w1.heap.size]? = some (lineO vb an ln0 cn0 k0 nm0 n0 al lr cr) := by
  rw [← hw2]
  exact alloc2_old w1 _ _ _
 have hb02 : Below w.heap.size w w2 := hb01.trans (hb12.mono (by omega))
 have hFR : ∀ q, F q ∨ R q → q < w.heap.size ∨ (w.heap.size + 1 ≤ q ∧ q < w1.heap.size) := fun q hq => hq.imp (hF q) (hRr q)
 refine (followEdit e vb hvb an ln0 cn0 k0 nm0 n0 al lr cr w2 (fun er bn ln cn w' => er = (ar.code : Int) ∧ Res (fun q => F q ∨ R q) (fun q => q = w.heap.size ∨ q = w1.heap.size ∨ q = w1.heap.size + 1 ∨ q = w2.heap.size + 1) e (k + 1) (midA a ar) ar.names w2 bn ln cn w') ?_ ?_).mono ?_
 ·rintro er a' l c w' j u ⟨h1, h2⟩
  exact ⟨h1, h2.set (by simp) (by omega) j u⟩
 ·intro W hW hWs
  refine (editAny e vb an ln0 cn0 k0 nm0 n0 al lr cr W (fun er bn ln cn w' => er = (ar.code : Int) ∧ Res (fun q => F q ∨ R q) (fun q => (q = w.heap.size ∨ q = w1.heap.size ∨ q = w1.heap.size + 1 ∨ q = w2.heap.size + 1) ∨ q = W.heap.size + 1) e (k + 1) (midA a ar) ar.names W bn ln cn w') ?_ ?_).mono ?_
  ·rintro er a' l c w' j u ⟨h1, h2⟩
   exact ⟨h1, h2.set (by simp) (by omega) j u⟩
  ·intro W' hW' hWs' hz
   have hb0W : Below w.heap.size w W' := (hb02.trans (hW.mono (by omega))).trans (hW'.mono (by have := hW.size; omega))
   have hb1W : Below w1.heap.size w1 W' := (hb12.trans (hW.mono (by omega))).trans (hW'.mono (by have := hW.size; omega))
   refine (h.change (R := R) (T := fun q => (q = w.heap.size ∨ q = w1.heap.size ∨ q = w1.heap.size + 1 ∨ q = w2.heap.size + 1) ∨ q = W.heap.size + 1) (by omega) ar hok herr hb0W (fun q hq => ⟨by have := (hRr q hq).1; omega, by have := (hRr q hq).2; omega⟩) (fun q hq => ⟨by omega, by omega, fun hr => by have := hRr q hr; omega⟩) (W.heap.size + 1) (Or.inr rfl) hz _ (hC W' hb1W)).mono ?_
   intro r w3 h3
   refine h3.imp ?_
   rintro er bn ln cn w' ⟨h4, h5⟩
   exact ⟨h4, h5.base hW' fun q hq => Or.inl hq⟩
  ·rintro r w' ⟨er, bn, ln, cn, rfl, h1, h2⟩
   refine ⟨er, bn, ln, cn, rfl, ?_, h1, (h2.base hW fun q hq => Or.inl hq).less fun q hq => Or.inl hq⟩
   rintro q rfl
   exact h2.2.1.block _ (by omega) fun hp => by have := hFR _ hp; omega
 ·rintro r w3 ⟨er, bn, ln, cn, rfl, h1, h2⟩
  have hks := h2.2.1
  refine ⟨er, 0, [], bn, ln, cn, 0, 0, fun W => w1.heap.size + 2 ≤ W.heap.size ∧ Res F (fun q => q = w.heap.size ∨ q = w1.heap.size + 1) e (k + 1) (midA a ar) ar.names w bn ln cn W, rfl, ?_, ?_, ?_, ⟨?_, ?_⟩, ⟨by have := hks.size; omega, ?_⟩, ?_, ?_⟩
  ·exact (hks.block _ (by omega) fun hp => by have := hFR _ hp; omega).trans z0
  ·exact (hks.block _ (by omega) fun hp => by have := hFR _ hp; omega).trans z1
  ·exact (hks.block _ (by omega) fun hp => by have := hFR _ hp; omega).trans z2
  ·rintro W j u ⟨h3, h4⟩
   exact ⟨by simpa using h3, h4.set (by simp) (by omega) j u⟩
  ·rintro W j u ⟨h3, h4⟩
   exact ⟨by simpa using h3, h4.set (by simp) (by omega) j u⟩
  ·refine (h2.base hb02 fun q hq => hq.imp_right fun hr => ?_).less ?_
   ·have := hRr q hr; omega
   ·rintro q (h3 | h3)
    ·exact Or.inl h3
    ·exact Or.inr (Or.inr (Or.inl h3))
  ·rintro W j u ⟨h3, h4, h5, h6, h7, h8⟩
   exact ⟨h3, h4, h5, h6, h7, h8.set rfl (Nat.le_refl _) j u⟩
  ·cases ar with
   | ok fs n =>
    rw [if_neg (by rintro ⟨h3, _⟩; exact h3 h1)]
    rintro W ⟨h3, h4⟩
    exact ⟨h1, rfl, rfl, rfl, rfl, h4.less fun q hq => Or.inl hq⟩
   | err c n =>
    have hc := herr c n rfl
    rw [if_pos ⟨by rw [h1]; simp only [AR.code]; omega, edV_of hvb⟩]
    rintro W ⟨h3, h4⟩
    refine (h4.cancel (by omega) (by rintro q (rfl | rfl) <;> omega)).mono ?_
    rintro r w' ⟨k1, k2, k3⟩
    exact ⟨k1, k2 _ (Or.inl rfl), k2 _ (Or.inr rfl), h1, rfl, rfl, rfl, rfl, k3.less fun q hq => Or.inl hq⟩
end
section
variable {S S' S1 O : Nat → Prop} {e k : Nat} {D D' F F' P R T : Nat → Prop} {σ σ0 σ1 : Sta} {v0 v1 v2 v3 v4 v5 v v' : Value} {te : TypeId} {w w' W w1 w2 w3 W0 : World} {M : Nat} {dv uv gv : Value} {dn ud gr : List (List Wr)} {op : Bool} {a : Ab} {nm : List By} {bn : Option Addr} {ln cn : Nat} {fs fs' : List Fd} {x y : By} {p : Pt} {nms : List By}
theorem perm_len (h : (fs.map fun g => (g.nm, g.p)).Perm (fs'.map fun g => (g.nm, g.p))) : fs.length = fs'.length := by
 have := h.length_eq
 simpa using this
theorem perm_nm (h : (fs.map fun g => (g.nm, g.p)).Perm (fs'.map fun g => (g.nm, g.p))) : ∀ f, f ∈ fs → ∃ g, g ∈ fs' ∧ g.nm = f.nm := fun f hf => by
 obtain ⟨g, hg, he⟩ := List.mem_map.1 (h.mem_iff.1 (List.mem_map.2 ⟨f, hf, rfl⟩))
 exact ⟨g, hg, congrArg Prod.fst he⟩
theorem FsOk.set (h : FsOk fs) (hsh : Shape p) (hx : x ≠ [] ∧ x.length ≤ 6) (hs : setA fs x p = .ok fs' nms) : FsOk fs' := by
 obtain ⟨h1, h2⟩ := setA_right h.gf hsh hs
 refine ⟨h1, ?_, fun f hf => ?_⟩
 ·have hl := h.len
  rcases h2 with ⟨A, f, B, rfl, _, h3⟩ | ⟨_, h3, h4⟩
  ·have := perm_len h3
   simp at this hl
   omega
  ·have := perm_len h4
   simp at this
   omega
 ·rcases h2 with ⟨A, f0, B, rfl, hf0, h3⟩ | ⟨_, _, h3⟩
  ·obtain ⟨g, hg, he⟩ := perm_nm h3 f hf
   rw [← he]
   simp only [List.mem_append, List.mem_cons] at hg
   rcases hg with hg | rfl | hg
   ·exact h.nmo g (by simp [hg])
   ·exact hx
   ·exact h.nmo g (by simp [hg])
  ·obtain ⟨g, hg, he⟩ := perm_nm h3 f hf
   rw [← he]
   simp only [List.mem_append, List.mem_singleton] at hg
   rcases hg with hg | rfl
   ·exact h.nmo g hg
   ·exact hx
theorem FsOk.del (h : FsOk fs) (hs : delA fs x = .ok fs' nms) : FsOk fs' := by
 obtain ⟨h1, A, f0, B, rfl, _, h3⟩ := delA_right h.gf hs
 have hp := List.Perm.of_eq h3
 refine ⟨h1, ?_, fun f hf => ?_⟩
 ·have := perm_len hp
  have hl := h.len
  simp at this hl
  omega
 ·obtain ⟨g, hg, he⟩ := perm_nm hp f hf
  rw [← he]
  simp only [List.mem_append] at hg
  rcases hg with hg | hg
  ·exact h.nmo g (by simp [hg])
  ·exact h.nmo g (by simp [hg])
theorem FsOk.ren (h : FsOk fs) (hy : y ≠ [] ∧ y.length ≤ 6) (hs : renA fs x y = .ok fs' nms) : FsOk fs' := by
 obtain ⟨h1, _, _, h3⟩ := renA_right h.gf (fun f hf => (h.nmo f hf).1) hy.1 hs
 refine ⟨h1, ?_, fun f hf => ?_⟩
 ·have := perm_len h3
  have hl := h.len
  simp at this
  omega
 ·obtain ⟨g, hg, he⟩ := perm_nm h3 f hf
  rw [← he]
  obtain ⟨g0, hg0, rfl⟩ := List.mem_map.1 hg
  unfold renF
  by_cases hc : g0.nm = x
  ·rw [if_pos hc]; exact hy
  ·rw [if_neg hc]; exact h.nmo g0 hg0
theorem settleA_err {i : Nat} {f : Fd} {c : Nat} (h : settleA fs i f = .err c nms) : c ≠ 0 := by
 unfold settleA at h
 split at h
 ·cases h
 ·cases h; decide
theorem setA_err {c : Nat} (h : setA fs x p = .err c nms) : c ≠ 0 := by
 unfold setA at h
 split at h
 ·split at h
  ·exact settleA_err h
  ·cases h; decide
 ·split at h
  ·cases h; decide
  ·exact settleA_err h
theorem delA_err {c : Nat} (h : delA fs x = .err c nms) : c ≠ 0 := by
 unfold delA at h
 split at h
 ·cases h; decide
 ·cases h
theorem renA_err {c : Nat} (h : renA fs x y = .err c nms) : c ≠ 0 := by
 unfold renA at h
 split at h
 ·cases h; decide
 ·split at h
  ·cases h; decide
  ·split at h
   ·cases h; decide
   ·split at h
    ·exact settleA_err h
    ·cases h; decide
theorem Ks.low {B : Nat} (h : Ks P w w') (hP : ∀ q, P q → B ≤ q) (hB : B ≤ w.heap.size) : Below B w w' := ⟨h.os, h.tape, h.output, h.size, fun q hq => h.block q (by omega) fun hp => by have := hP q hp; omega⟩
theorem EdPost.up {ar : AR} {r : Ending} (hb : Below w.heap.size w w1) (hsub : ∀ b, b ∈ σ.ord → D b) (h : EdPost S e D σ v1 v2 v3 v4 v5 te ar w1 r w') : ChQ (EdPost S e D σ v1 v2 v3 v4 v5 te ar w) r w' := by
 have h2 := EdPost.lift (S := S) (D := D) (w := w) (fun _ h => h) (fun _ h => Or.inl h) (fun _ h => h) (fun _ h => Or.inl h) (Ks.of hb) (fun _ _ => rfl) rfl hsub h
 obtain ⟨an, ln, cn, bk, er, rfl, h4⟩ := h2.shape
 exact ⟨an, ln, cn, bk, er, rfl, h2⟩
theorem ChQ.out {Q : Ending → World → Prop} {r : Ending} (h : ChQ Q r w') : Q r w' := by
 obtain ⟨_, _, _, _, _, _, h⟩ := h
 exact h
theorem edLine_set {r : Ending} (hret : RetL (.ok 1 [x] (some p)) (w.alloc zRep) r w1) (hb : Below (w.alloc zRep).heap.size (w.alloc zRep) w1) (hsh : Shape p) (hgd : Good p) (htx : (txt p).length ≤ 100) : EdLine e F a (setA a.fs x p) w r w1 := by
 have e1 : (w.alloc zRep).heap.size = w.heap.size + 1 := by simp
 obtain ⟨an, ln, cn, al, lr, cr, rfl, hown, hp⟩ := hret
 obtain ⟨g, cap, hv, hg, hgl⟩ := hown.form (by simp)
 simp at hv
 obtain ⟨rfl, rfl, rfl⟩ := hv
 have hc := hown.cellAt 0 (by simp)
 rw [e1] at hb hp
 refine ⟨hb, 1, some ⟨g, 0, none⟩, 1, cn, p.k, p.nm, p.n, al, lr, cr, _, rfl, Or.inl rfl, fun q hq => hq, ?_⟩
 intro W hW S D σ v1 v2 v3 v4 v5 hph hRS _ hgs hfs
 rw [← hfs]
 refine (changeSetQ e g cn x p.k p.nm p.n al lr cr W (EdPost S e D σ v1 v2 v3 v4 v5 65 (setA (σ.fs.map Prod.snd) x p) W) ?_ ?_ ?_).mono fun r w' h => h.out
 ·rw [World.cell?_of_block (a := ⟨g, 0, none⟩) (hW.block g hgl)]
  simpa [strs] using hc
 ·have := hW.size; omega
 ·intro W' hW'
  have hp' : PIs W' S p al lr cr := ((hp.next fun q hq => hW.block q hq.2).wide hRS).next fun q hq => hW'.block q (hph.still q hq)
  exact (setS (hph.next hW') hgs.nd hgs.len x p al lr cr hp' hsh hgd htx).mono fun r w' h => h.up hW' hph.sub
theorem edLine_del {r : Ending} (hret : RetL (.ok 2 [x] none) (w.alloc zRep) r w1) (hb : Below (w.alloc zRep).heap.size (w.alloc zRep) w1) : EdLine e F a (delA a.fs x) w r w1 := by
 have e1 : (w.alloc zRep).heap.size = w.heap.size + 1 := by simp
 obtain ⟨an, ln, cn, rfl, hown⟩ := hret
 obtain ⟨g, cap, hv, hg, hgl⟩ := hown.form (by simp)
 simp at hv
 obtain ⟨rfl, rfl, rfl⟩ := hv
 have hc := hown.cellAt 0 (by simp)
 rw [e1] at hb
 refine ⟨hb, 2, some ⟨g, 0, none⟩, 1, cn, 0, [], 0, none, 0, 0, fun _ => False, rfl, Or.inr (Or.inl rfl), fun q hq => hq.elim, ?_⟩
 intro W hW S D σ v1 v2 v3 v4 v5 hph hRS _ hgs hfs
 rw [← hfs]
 refine (changeDelQ e g cn x 0 [] 0 none 0 0 W (EdPost S e D σ v1 v2 v3 v4 v5 65 (delA (σ.fs.map Prod.snd) x) W) ?_ ?_ ?_).mono fun r w' h => h.out
 ·rw [World.cell?_of_block (a := ⟨g, 0, none⟩) (hW.block g hgl)]
  simpa [strs] using hc
 ·have := hW.size; omega
 ·intro W' hW'
  exact (delS (hph.next hW') hgs.nd hgs.len x).mono fun r w' h => h.up hW' hph.sub
theorem edLine_ren {r : Ending} (hE0 : Env W0) (hlow : Below W0.heap.size W0 w) (hF : ∀ q, F q → W0.heap.size ≤ q) (hret : RetL (.ok 3 [x, y] none) (w.alloc zRep) r w1) (hb : Below (w.alloc zRep).heap.size (w.alloc zRep) w1) (hx : x ≠ []) (hy : y.length ≤ 100) : EdLine e F a (renA a.fs x y) w r w1 := by
 have e1 : (w.alloc zRep).heap.size = w.heap.size + 1 := by simp
 obtain ⟨an, ln, cn, rfl, hown⟩ := hret
 obtain ⟨g, cap, hv, hg, hgl⟩ := hown.form (by simp)
 simp at hv
 obtain ⟨rfl, rfl, rfl⟩ := hv
 have hc := hown.cellAt 0 (by simp)
 have hc1 := hown.cellAt 1 (by simp)
 rw [e1] at hb
 have hs1 := hb.size
 have hs0 := hlow.size
 rw [e1] at hs1
 have hlow1 : Below W0.heap.size W0 w1 := hlow.trans (((Below.refl _ _).alloc (by omega) zRep).trans (hb.mono (by omega)))
 refine ⟨hb, 3, some ⟨g, 0, none⟩, 2, cn, 0, [], 0, none, 0, 0, fun _ => False, rfl, Or.inr (Or.inr rfl), fun q hq => hq.elim, ?_⟩
 intro W hW S D σ v1 v2 v3 v4 v5 hph hRS hDF hgs hfs
 have hsW := hW.size
 rw [← hfs]
 refine (changeRenQ e g cn x y 0 [] 0 none 0 0 W (EdPost S e D σ v1 v2 v3 v4 v5 65 (renA (σ.fs.map Prod.snd) x y) W) ?_ ?_ ?_ ?_).mono fun r w' h => h.out
 ·rw [World.cell?_of_block (a := ⟨g, 0, none⟩) (hW.block g hgl)]
  simpa [strs] using hc
 ·rw [World.cell?_of_block (a := ⟨g, 1, none⟩) (hW.block g hgl)]
  simpa [strs] using hc1
 ·omega
 ·intro W' hW'
  have hsW' := hW'.size
  have hlow2 : Below W0.heap.size W0 W' := (hlow1.trans (hW.mono (by omega))).trans (hW'.mono (by omega))
  have hnn : (σ.fs.map fun g => g.2.nm).Nodup := by
   have := hgs.gf.nn
   rw [List.map_map] at this
   exact this
  exact (renS (hph.next hW') (fun W2 hk => hE0.below (hlow2.trans (hk.low (fun q hq => hF q (hDF q hq)) (by omega))) hE0.size) hgs.nd hnn hgs.len x y hx hy).mono fun r w' h => h.up hW' hph.sub
end
section
inductive Ln where
 | err (vb er : Int) (p : Nat)
 | set (x : By) (p : Pt)
 | del (x : By)
 | ren (x y : By)
 | begin
 | commit
 | cancel
 | undo
 | redo
 | value (x : By)
 | rule (x : By)
 | list
 | order
def Ln.r : Ln → LnR
 | .err vb er p => .err vb er p
 | .set x p => .ok 1 [x] (some p)
 | .del x => .ok 2 [x] none
 | .ren x y => .ok 3 [x, y] none
 | .begin => .ok 4 [] none
 | .commit => .ok 5 [] none
 | .cancel => .ok 6 [] none
 | .undo => .ok 7 [] none
 | .redo => .ok 8 [] none
 | .value x => .ok 9 [x] none
 | .rule x => .ok 10 [x] none
 | .list => .ok 11 [] none
 | .order => .ok 12 [] none
def NmO (x : By) : Prop := x ≠ [] ∧ x.length ≤ 6
def Ln.Ok : Ln → Prop
 | .err _ er _ => er ≠ 0
 | .set x p => NmO x ∧ Shape p ∧ Good p ∧ (txt p).length ≤ 100
 | .del x => NmO x
 | .ren x y => NmO x ∧ NmO y
 | .value x => NmO x
 | .rule x => NmO x
 | _ => True
variable {len n : Nat} {ts : List (By × Nat)} {vb : Int} {rl : Bool} {r r' : LnR} {s : By}
theorem runB_uniq {n n' : Nat} {K : List By} {x x' : Int × Nat} (h : runB len n K ts = some x) (h' : runB len n' K ts = some x') : x = x' := by
 have h1 := runB_mono len n K ts x h n'
 have h2 := runB_mono len n' K ts x' h' n
 rw [Nat.add_comm n' n] at h2
 rw [h1] at h2
 exact Option.some.inj h2
theorem HeadP.uniq (h : HeadP len ts vb n rl r) (h' : HeadP len ts vb n rl r') : r = r' := by
 rcases h with ⟨j, hj, h1, h2, rfl⟩ | ⟨hn, h⟩
 ·rcases h' with ⟨j', hj', h1', h2', rfl⟩ | ⟨hn', _⟩
  ·rcases Nat.lt_trichotomy j j' with h3 | h3 | h3
   ·exact absurd (h1' j h3) h2
   ·rw [h3]
   ·exact absurd (h1 j' h3) h2'
  ·exact absurd (hn' j hj) h2
 ·rcases h' with ⟨j', hj', h1', h2', rfl⟩ | ⟨hn', h'⟩
  ·exact absurd (hn j' hj') h2'
  ·rcases h with ⟨h1, h2, rfl⟩ | ⟨h1, h2, rfl⟩ | ⟨h1, h2, rfl⟩ | ⟨h1, h2, er, p, n0, _, hrun, hc⟩
   ·rcases h' with ⟨g1, g2, rfl⟩ | ⟨g1, g2, rfl⟩ | ⟨g1, g2, rfl⟩ | ⟨g1, g2, _⟩
    ·rfl
    ·exact absurd g2 h2
    ·exact absurd (h1.symm.trans g1) (by decide)
    ·exact absurd (h1.symm.trans g1) (by decide)
   ·rcases h' with ⟨g1, g2, rfl⟩ | ⟨g1, g2, rfl⟩ | ⟨g1, g2, rfl⟩ | ⟨g1, g2, _⟩
    ·exact absurd h2 g2
    ·rfl
    ·exact absurd (h1.symm.trans g1) (by decide)
    ·exact absurd (h1.symm.trans g1) (by decide)
   ·rcases h' with ⟨g1, g2, rfl⟩ | ⟨g1, g2, rfl⟩ | ⟨g1, g2, rfl⟩ | ⟨g1, g2, _⟩
    ·exact absurd (h1.symm.trans g1) (by decide)
    ·exact absurd (h1.symm.trans g1) (by decide)
    ·rfl
    ·exact absurd g2 h2
   ·rcases h' with ⟨g1, g2, rfl⟩ | ⟨g1, g2, rfl⟩ | ⟨g1, g2, rfl⟩ | ⟨g1, g2, er', p', n0', _, hrun', hc'⟩
    ·exact absurd (h1.symm.trans g1) (by decide)
    ·exact absurd (h1.symm.trans g1) (by decide)
    ·exact absurd h2 g2
    ·have he := runB_uniq hrun hrun'
     simp only [Prod.mk.injEq] at he
     obtain ⟨rfl, rfl⟩ := he
     rcases hc with ⟨c1, rfl⟩ | ⟨c1, _, c2, rfl⟩ | ⟨c1, _, t, hD, c2, c3, rfl⟩
     ·rcases hc' with ⟨d1, rfl⟩ | ⟨d1, _, d2, rfl⟩ | ⟨d1, _, t', hD', d2, d3, rfl⟩
      ·rfl
      ·exact absurd d1 c1
      ·exact absurd d1 c1
     ·rcases hc' with ⟨d1, rfl⟩ | ⟨d1, _, d2, rfl⟩ | ⟨d1, _, t', hD', d2, d3, rfl⟩
      ·exact absurd c1 d1
      ·rfl
      ·rw [d2] at d3; exact absurd c2 d3
     ·rcases hc' with ⟨d1, rfl⟩ | ⟨d1, _, d2, rfl⟩ | ⟨d1, _, t', hD', d2, d3, rfl⟩
      ·exact absurd c1 d1
      ·rw [c2] at c3; exact absurd d2 c3
      ·rw [hD.uniq hD']
theorem heads_inj : ∀ k (h : k < 12) j (hj : j < 12), (headsW[k]'h).1 = (headsW[j]'hj).1 → k = j := by decide
theorem LineP.uniq (h : LineP s r) (h' : LineP s r') : r = r' := by
 rcases h with ⟨h1, rfl⟩ | ⟨h1, p, h2, rfl⟩ | ⟨h1, ts, h2, h⟩
 ·rcases h' with ⟨g1, rfl⟩ | ⟨g1, p, g2, rfl⟩ | ⟨g1, ts, g2, h'⟩
  ·rfl
  ·omega
  ·omega
 ·rcases h' with ⟨g1, rfl⟩ | ⟨g1, p', g2, rfl⟩ | ⟨g1, ts, g2, h'⟩
  ·omega
  ·rw [h2] at g2; cases g2; rfl
  ·rw [g2] at h2; cases h2
 ·rcases h' with ⟨g1, rfl⟩ | ⟨g1, p', g2, rfl⟩ | ⟨g1, ts', g2, h'⟩
  ·omega
  ·rw [h2] at g2; cases g2
  ·rw [h2] at g2
   simp only [Prod.mk.injEq, and_true] at g2
   subst g2
   rcases h with ⟨k, hk, e, h⟩ | ⟨h, rfl⟩
   ·rcases h' with ⟨k', hk', e', h'⟩ | ⟨h', rfl⟩
    ·obtain rfl := heads_inj k hk k' hk' (e.trans e'.symm)
     exact h.uniq h'
    ·exact absurd e (h' k hk)
   ·rcases h' with ⟨k', hk', e', h'⟩ | ⟨h', rfl⟩
    ·exact absurd e' (h k' hk')
    ·rfl
end
section
def IsLn (s : By) (l : Ln) : Prop := l.Ok ∧ ∀ r, LineP s r → r = l.r
theorem isLn {s : By} {l : Ln} (hok : l.Ok) (h : LineP s l.r) : IsLn s l := ⟨hok, fun _ hr => hr.uniq h⟩
def dgt (i : Nat) : UInt8 := UInt8.ofNat (48 + i)
def fN (i : Nat) : By := [102, dgt i]
def dg (i : Nat) : By := [dgt i]
theorem fN_facts : ∀ i, i < 10 → kindB (fN i) = 2 ∧ nmB (fN i) = fN i ∧ nuB (fN i) = 0 ∧ headD (fN i) = false ∧ nameB (fN i) = true ∧ isD (dgt i) = true := by decide
theorem dg_facts : ∀ i, i < 10 → nmB (dg i) = [] ∧ nuB (dg i) = i ∧ headD (dg i) = true ∧ Lib.decDigits i = dg i := by decide +kernel
theorem fN_ok (i : Nat) (h : i < 10) : NmOk (fN i) := by
 obtain ⟨h1, h2, _, _, _, h6⟩ := fN_facts i h
 exact ⟨GI.ti (Or.inr (Or.inr (Or.inr (Or.inr ⟨_, rfl, h6⟩)))) (by simp [fN]), h1, h2⟩
theorem fN_o (i : Nat) : NmO (fN i) := ⟨by simp [fN], by simp [fN]⟩
theorem isLn_set {nm rest : By} {rts : List (By × Nat)} {p : Pt} (h : NmOk nm) (ho : NmO nm) (hl : rest.length + nm.length ≤ 113) (ht : toks (rest.length + nm.length + 1) rest (4 + nm.length + 3) = (rts, none)) (hD : Der rts 1 0 rts.length p) (hop : opn p ≤ 6) (hx : (txt p).length ≤ 100) : IsLn (setN nm rest) (.set nm p) := by
 have hok : OkT rts := by
  have := (okT_of (setN nm rest)).drop 3
  rw [toks_setN nm h rest, ht] at this
  exact this
 exact ⟨⟨ho, hD.shape, hD.good hok, hx⟩, fun r hr => line_setN nm h rest rts p hl ht hD hop hx r hr⟩
theorem der1 (x : By) (k q : Nat) (hc : Cls x k) (hk : k = 1 ∨ k = 2 ∨ k = 7 ∨ k = 8) : Der [(x, q)] 1 0 1 (.atom k (nmB x) (nuB x)) :=
 (Der.atom (ts := [(x, q)]) 0 k (by simp) hc hk).at6 1 (by omega) (by omega)
theorem cls_dg (i : Nat) (h : i < 10) : Cls (dg i) 1 := Or.inl ⟨(dg_facts i h).2.2.1, rfl⟩
def nmP (i : Nat) : Pt := .atom 2 (fN i) 0
def dgP (i : Nat) : Pt := .atom 1 [] i
theorem atom_dg (i : Nat) (h : i < 10) : Pt.atom 1 (nmB (dg i)) (nuB (dg i)) = dgP i := by
 obtain ⟨h2, h3, _⟩ := dg_facts i h
 rw [h2, h3]
 rfl
theorem txt_small : ∀ j, j < 10 → (txt (dgP j)).length ≤ 100 ∧ (txt (.bin 12 (nmP j) (dgP 1))).length ≤ 100 ∧ (txt (.bin 15 (nmP j) (dgP 2))).length ≤ 100 ∧ (txt (.bin 13 (dgP 1) (nmP j))).length ≤ 100 := by decide +kernel
theorem isLn_word (s : By) (k : Nat) (hk : k < 12) (hs : (headsW[k]'hk).1 = s) (hn : (headsW[k]'hk).2.2.1 = 0) (hf : (headsW[k]'hk).2.2.2 = false) (ht : toksOf s = ([(s, 0)], none)) (hl : s.length ≤ 120) (hnm : nmB s = s) (l : Ln) (hok : l.Ok) (hr : l.r = .ok (headsW[k]'hk).2.1 [] none) : IsLn s l := by
 refine isLn hok (Or.inr (Or.inr ⟨hl, _, ht, Or.inl ⟨k, hk, ?_, ?_⟩⟩))
 ·rw [hs]
  simp [nT, tAt, hnm]
 ·rw [hn, hf, hr]
  exact Or.inr ⟨fun i hi => by omega, Or.inr (Or.inl ⟨rfl, by simp [kN], rfl⟩)⟩
theorem isLn_list : IsLn [108, 105, 115, 116] .list := isLn_word _ 10 (by decide) (by decide) (by decide) (by decide) (by decide) (by decide) (by decide) _ trivial rfl
theorem isLn_order : IsLn [111, 114, 100, 101, 114] .order := isLn_word _ 11 (by decide) (by decide) (by decide) (by decide) (by decide) (by decide) (by decide) _ trivial rfl
theorem isLn_commit : IsLn [99, 111, 109, 109, 105, 116] .commit := isLn_word _ 4 (by decide) (by decide) (by decide) (by decide) (by decide) (by decide) (by decide) _ trivial rfl
theorem isLn_cancel : IsLn [99, 97, 110, 99, 101, 108] .cancel := isLn_word _ 5 (by decide) (by decide) (by decide) (by decide) (by decide) (by decide) (by decide) _ trivial rfl
theorem isLn_undo : IsLn [117, 110, 100, 111] .undo := isLn_word _ 6 (by decide) (by decide) (by decide) (by decide) (by decide) (by decide) (by decide) _ trivial rfl
theorem isLn_redo : IsLn [114, 101, 100, 111] .redo := isLn_word _ 7 (by decide) (by decide) (by decide) (by decide) (by decide) (by decide) (by decide) _ trivial rfl
theorem toks_wordN (c : UInt8) (wr nm : By) (h : NmOk nm) (hc : c ≠ 32) (hrl : ∀ rest, rowLen (c :: wr ++ (32 :: rest)) = (c :: wr).length) (hok : tokOK (c :: wr) = true) : toksOf (c :: wr ++ (32 :: nm)) = ([(c :: wr, 0), (nm, (c :: wr).length + 1)], none) := by
 have hr2 := rowLen_app nm [] h.ti fun _ => Or.inl rfl
 obtain ⟨c', r', rfl, hc', hok', _⟩ := h.ti
 have e0 : toksOf (c :: wr ++ (32 :: (c' :: r'))) = toks ((wr.length + (r'.length + 1) + 1) + 1) (c :: wr ++ (32 :: (c' :: r'))) 0 := by
  unfold toksOf
  rw [show (c :: wr ++ (32 :: (c' :: r'))).length = (wr.length + (r'.length + 1) + 1) + 1 by simp; omega]
 have e1 : (c' :: r' : By) = c' :: r' ++ [] := by simp
 rw [e0, toks_to (wr.length + (r'.length + 1) + 1) c wr (32 :: (c' :: r')) 0 hc (hrl _) hok, toks_sp, show wr.length + (r'.length + 1) = (wr.length + r'.length) + 1 by omega]
 rw [e1, toks_to (wr.length + r'.length) c' r' [] _ hc' hr2 hok', toks_nil]
 simp
theorem isLn_one (c : UInt8) (wr nm : By) (h : NmOk nm) (ho : NmO nm) (hc : c ≠ 32) (hrl : ∀ rest, rowLen (c :: wr ++ (32 :: rest)) = (c :: wr).length) (hok : tokOK (c :: wr) = true) (k : Nat) (hk : k < 12) (hs : (headsW[k]'hk).1 = c :: wr) (hn : (headsW[k]'hk).2.2.1 = 1) (hf : (headsW[k]'hk).2.2.2 = false) (hnm : nmB (c :: wr) = c :: wr) (hw : wr.length ≤ 100) (l : Ln) (hlo : l.Ok) (hr : l.r = .ok (headsW[k]'hk).2.1 [nm] none) : IsLn (c :: wr ++ (32 :: nm)) l := by
 refine isLn hlo (Or.inr (Or.inr ⟨?_, _, toks_wordN c wr nm h hc hrl hok, Or.inl ⟨k, hk, ?_, ?_⟩⟩))
 ·have := ho.2
  simp
  omega
 ·rw [hs]
  simp [nT, tAt, hnm]
 ·rw [hn, hf, hr]
  refine Or.inr ⟨fun i hi => ?_, Or.inr (Or.inl ⟨rfl, by simp [kN], ?_⟩)⟩
  ·obtain rfl : i = 0 := by omega
   simp [kN, tAt, h.k2]
  ·simp [namesT, nT, tAt, h.nmb]
theorem isLn_value (nm : By) (h : NmOk nm) (ho : NmO nm) : IsLn (118 :: 97 :: 108 :: 117 :: 101 :: 32 :: nm) (.value nm) :=
 isLn_one 118 [97, 108, 117, 101] nm h ho (by decide) (fun rest => by simp [rowLen, show isL 118 = true from by decide, show isLD 97 = true from by decide, show isLD 108 = true from by decide, show isLD 117 = true from by decide, show isLD 101 = true from by decide, show isLD 32 = false from by decide]) (by decide) 8 (by decide) rfl rfl rfl (by decide) (by decide) _ ho rfl
theorem isLn_rule (nm : By) (h : NmOk nm) (ho : NmO nm) : IsLn (114 :: 117 :: 108 :: 101 :: 32 :: nm) (.rule nm) :=
 isLn_one 114 [117, 108, 101] nm h ho (by decide) (fun rest => by simp [rowLen, show isL 114 = true from by decide, show isLD 117 = true from by decide, show isLD 108 = true from by decide, show isLD 101 = true from by decide, show isLD 32 = false from by decide]) (by decide) 9 (by decide) rfl rfl rfl (by decide) (by decide) _ ho rfl
theorem isLn_delete (nm : By) (h : NmOk nm) (ho : NmO nm) : IsLn (100 :: 101 :: 108 :: 101 :: 116 :: 101 :: 32 :: nm) (.del nm) :=
 isLn_one 100 [101, 108, 101, 116, 101] nm h ho (by decide) (fun rest => by simp [rowLen, show isL 100 = true from by decide, show isLD 108 = true from by decide, show isLD 116 = true from by decide, show isLD 101 = true from by decide, show isLD 32 = false from by decide]) (by decide) 1 (by decide) rfl rfl rfl (by decide) (by decide) _ ho rfl
end
section
theorem fewB_fN (r : By) : (fewB r).1 = fN (nextB r 8).1 := by
 have h := nextB_lt r 8 (by decide)
 have := (dg_facts (nextB r 8).1 (by omega)).2.2.2
 simp only [fewB, numB, this]
 rfl
theorem RIp.reads {s : By} {m : Nat} {p : Pt} (h : RIp 1 s m p) (f k : Nat) (hf : s.length ≤ f) : ∃ ts, toks f s k = (ts, none) ∧ Der ts 1 0 ts.length p := by
 obtain ⟨its, rfl, hg, ho, hD, ht, hop⟩ := h
 refine ⟨_, toks_items its f k (ho [] (Or.inl rfl)) hf, ?_⟩
 have hlen : (tokI its k).length = (tks its).length := by rw [← tokI_fst its k, List.length_map]
 rw [hlen]
 have := hD.like (ts' := tokI its k) 0 (fun i _ _ => ?_) (by omega)
 ·exact this
 ·rw [tAt_z0, tAt_fst, tokI_fst]
  exact Or.inl rfl
theorem RIp.facts {n m : Nat} {s : By} {p : Pt} (h : RIp n s m p) : txt p = s ∧ opn p ≤ m := by
 obtain ⟨its, _, _, _, _, ht, hop⟩ := h
 exact ⟨ht, hop⟩
noncomputable def rlP (d : Nat) (r : By) : Pt := Classical.choose (ruleI d r).rip
theorem rlP_rip (d : Nat) (r : By) : RIp 1 (ruleB d r).1 (2 * d) (rlP d r) ∧ MF (rlP d r) := Classical.choose_spec (ruleI d r).rip
theorem rlP_facts (d : Nat) (r : By) : txt (rlP d r) = (ruleB d r).1 ∧ opn (rlP d r) ≤ 2 * d ∧ MF (rlP d r) ∧ ∀ f k, (ruleB d r).1.length ≤ f → ∃ ts, toks f (ruleB d r).1 k = (ts, none) ∧ Der ts 1 0 ts.length (rlP d r) :=
 ⟨(rlP_rip d r).1.facts.1, (rlP_rip d r).1.facts.2, (rlP_rip d r).2, (rlP_rip d r).1.reads⟩
noncomputable def lnB (r : By) : Ln :=
 if (nextB r 8).1 = 0 then .del (fewB (nextB r 8).2).1
 else if (nextB r 8).1 = 1 then .ren (fewB (nextB r 8).2).1 (fewB (fewB (nextB r 8).2).2).1
 else .set (fewB (nextB r 8).2).1 (rlP (nextB (fewB (nextB r 8).2).2 3).1 (nextB (fewB (nextB r 8).2).2 3).2)
theorem toks_ren (x y : By) (hx : NmOk x) (hy : NmOk y) : toksOf ([114, 101, 110, 97, 109, 101, 32] ++ x ++ [32] ++ y) = ([([114, 101, 110, 97, 109, 101], 0), (x, 7), (y, 7 + x.length + 1)], none) := by
 have r1 := rowLen_app x (32 :: y) hx.ti fun _ => Or.inr ⟨32, _, rfl, by decide⟩
 have r2 := rowLen_app y [] hy.ti fun _ => Or.inl rfl
 obtain ⟨c, r, rfl, hc, hok, _⟩ := hx.ti
 obtain ⟨c', r', rfl, hc', hok', _⟩ := hy.ti
 have e0 : toksOf ([114, 101, 110, 97, 109, 101, 32] ++ (c :: r) ++ [32] ++ (c' :: r')) = toks (r.length + r'.length + 9 + 1) ([114, 101, 110, 97, 109, 101] ++ (32 :: ((c :: r) ++ (32 :: ((c' :: r') ++ []))))) 0 := by
  unfold toksOf
  rw [show ([114, 101, 110, 97, 109, 101, 32] ++ (c :: r) ++ [32] ++ (c' :: r') : By).length = r.length + r'.length + 9 + 1 by simp; omega]
  simp
 rw [e0, toks_to (r.length + r'.length + 9) 114 [101, 110, 97, 109, 101] _ 0 (by decide) (by simp [rowLen, show isL 114 = true from by decide, show isLD 101 = true from by decide, show isLD 110 = true from by decide, show isLD 97 = true from by decide, show isLD 109 = true from by decide, show isLD 32 = false from by decide]) (by decide)]
 rw [show r.length + r'.length + 9 = r.length + r'.length + 8 + 1 by omega, toks_sp, show r.length + r'.length + 8 = r.length + r'.length + 7 + 1 by omega]
 have r1' : rowLen (c :: r ++ 32 :: ((c' :: r') ++ [])) = (c :: r).length := by simpa using r1
 rw [toks_to (r.length + r'.length + 7) c r _ _ hc r1' hok, show r.length + r'.length + 7 = r.length + r'.length + 6 + 1 by omega, toks_sp, show r.length + r'.length + 6 = r.length + r'.length + 5 + 1 by omega, toks_to (r.length + r'.length + 5) c' r' [] _ hc' r2 hok', toks_nil]
 simp
theorem isLn_ren (x y : By) (hx : NmOk x) (hy : NmOk y) (ox : NmO x) (oy : NmO y) : IsLn ([114, 101, 110, 97, 109, 101, 32] ++ x ++ [32] ++ y) (.ren x y) := by
 refine isLn ⟨ox, oy⟩ (Or.inr (Or.inr ⟨?_, _, toks_ren x y hx hy, Or.inl ⟨2, by decide, ?_, ?_⟩⟩))
 ·have := ox.2
  have := oy.2
  simp
  omega
 ·show ([114, 101, 110, 97, 109, 101] : By) = _
  simp [nT, tAt]
  decide
 ·refine Or.inr ⟨fun i hi => ?_, Or.inr (Or.inl ⟨rfl, by simp [kN, headsW], ?_⟩)⟩
  ·have hi2 : i < 2 := hi
   rcases (show i = 0 ∨ i = 1 by omega) with rfl | rfl
   ·simp [kN, tAt, hx.k2]
   ·simp [kN, tAt, hy.k2]
  ·show LnR.ok 3 [x, y] none = _
   have : namesT [([114, 101, 110, 97, 109, 101], 0), (x, 7), (y, 7 + x.length + 1)] 1 2 = [x, y] := by simp [namesT, nT, tAt, hx.nmb, hy.nmb, List.range_succ]
   rw [← this]
   rfl
theorem isLn_line (r : By) : IsLn (lineB r) (lnB r) := by
 unfold lineB lnB
 have n1 := nextB_lt (nextB r 8).2 8 (by decide)
 have n2 := nextB_lt (fewB (nextB r 8).2).2 8 (by decide)
 rw [fewB_fN (nextB r 8).2, fewB_fN (fewB (nextB r 8).2).2]
 split
 ·exact isLn_delete _ (fN_ok _ (by omega)) (fN_o _)
 ·split
  ·exact isLn_ren _ _ (fN_ok _ (by omega)) (fN_ok _ (by omega)) (fN_o _) (fN_o _)
  ·have n3 := nextB_lt (fewB (nextB r 8).2).2 3 (by decide)
   obtain ⟨h1, h2, _, h4⟩ := rlP_facts (nextB (fewB (nextB r 8).2).2 3).1 (nextB (fewB (nextB r 8).2).2 3).2
   have hl : (ruleB (nextB (fewB (nextB r 8).2).2 3).1 (nextB (fewB (nextB r 8).2).2 3).2).1.length ≤ 53 := by
    have := ruleB_len (nextB (fewB (nextB r 8).2).2 3).1 (nextB (fewB (nextB r 8).2).2 3).2
    have : 2 ^ (nextB (fewB (nextB r 8).2).2 3).1 ≤ 2 ^ 2 := Nat.pow_le_pow_right (by decide) (by omega)
    omega
   obtain ⟨ts, ht, hD⟩ := h4 ((ruleB (nextB (fewB (nextB r 8).2).2 3).1 (nextB (fewB (nextB r 8).2).2 3).2).1.length + (fN (nextB (nextB r 8).2 8).1).length + 1) (4 + (fN (nextB (nextB r 8).2 8).1).length + 3) (by omega)
   have := isLn_set (fN_ok _ (by omega)) (fN_o _) (by simp [fN]; omega) ht hD (by omega) (by rw [h1]; omega)
   simpa [setN] using this
end
section
def FollowH (vb : Int) (N : Nat) : Prop := ∀ (e : Nat) (an : Option Addr) (ln cn : Nat) (k : Int) (nm : By) (n : Int) (ar : Option Addr) (lr cr : Nat) (w : World) (Q : Int → World → Prop) (_ : ∀ er w1 j u, Q er w1 → Q er (w1.setCell ⟨w.heap.size + 1, j, none⟩ u))
  (_ : ∀ W, Below w.heap.size w W → w.heap.size + 1 < W.heap.size → W.heap[w.heap.size + 1]? = some zRep → Calls Tryz.prog N #[.pointer (some ⟨e, 1, none⟩)] W fun r w' => ∃ er : Int, r = .returned (.int .i64 er) ∧ w'.heap[w.heap.size + 1]? = some zRep ∧ Q er w'),
  Calls Tryz.prog 15 #[.pointer (some ⟨e, 0, none⟩), .agg #[.int .i64 vb, .slice an ln cn, .int .i64 k, .string ⟨nm.toArray⟩, .int .i64 n, .slice ar lr cr]] w fun r w' => ∃ er : Int, r = .returned (.agg #[.int .i64 er, .int .i64 0, .string ⟨#[]⟩, .slice none 0 0, .int .i64 0, .int .i64 0]) ∧ Q er w'
theorem followBegin : FollowH 4 25 := by
 intro e an ln cn k nm n ar lr cr w Q hQ hT
 have HQ := tZ hQ
 have HT2 := tZ (hT ((w.alloc (.cells #[.int .i64 4, .slice an ln cn, .int .i64 k, .string ⟨nm.toArray⟩, .int .i64 n, .slice ar lr cr] 53)).alloc (.cells #[.int .i64 0, .int .i64 0, .string ⟨#[]⟩, .slice none 0 0, .int .i64 0, .int .i64 0] 30)) (below2 _ _ _) (by simp) (alloc2_new' w _ _ _))
 clear hT hQ
 go_enter Tryz.func15, Tryz.ntmps15
 go_wp2_with (first | (go_at_call 25; refine HT2.out.mono ?_; rintro r w1 ⟨er, rfl, hk1, hq⟩; refine Hid.out ?_))
 obtain ⟨⟨k0, k1, k2, k3, k4, k5⟩, ⟨f0, f1, f2, f3, f4, f5⟩, hsz⟩ := row6 hk1
 have HQ1 := tZ hq
 clear hk1 hq HT2
 refine tZ ?_
 go_wp2
 refine bodyPost_ret (v := .agg #[.int .i64 er, .int .i64 0, .string ⟨#[]⟩, .slice none 0 0, .int .i64 0, .int .i64 0]) (by simp [results, Tryz.results15, go_sem, k0, k1, k2, k3, k4, k5, hsz]) rfl ?_
 exact ⟨er, rfl, HQ.out _ _ _ _ (HQ.out _ _ _ _ (HQ.out _ _ _ _ (HQ.out _ _ _ _ (HQ.out _ _ _ _ (HQ.out _ _ _ _ HQ1.out)))))⟩
theorem followCommit : FollowH 5 26 := by
 intro e an ln cn k nm n ar lr cr w Q hQ hT
 have HQ := tZ hQ
 have HT2 := tZ (hT ((w.alloc (.cells #[.int .i64 5, .slice an ln cn, .int .i64 k, .string ⟨nm.toArray⟩, .int .i64 n, .slice ar lr cr] 53)).alloc (.cells #[.int .i64 0, .int .i64 0, .string ⟨#[]⟩, .slice none 0 0, .int .i64 0, .int .i64 0] 30)) (below2 _ _ _) (by simp) (alloc2_new' w _ _ _))
 clear hT hQ
 go_enter Tryz.func15, Tryz.ntmps15
 go_wp2_with (first | (go_at_call 26; refine HT2.out.mono ?_; rintro r w1 ⟨er, rfl, hk1, hq⟩; refine Hid.out ?_))
 obtain ⟨⟨k0, k1, k2, k3, k4, k5⟩, ⟨f0, f1, f2, f3, f4, f5⟩, hsz⟩ := row6 hk1
 have HQ1 := tZ hq
 clear hk1 hq HT2
 refine tZ ?_
 go_wp2
 refine bodyPost_ret (v := .agg #[.int .i64 er, .int .i64 0, .string ⟨#[]⟩, .slice none 0 0, .int .i64 0, .int .i64 0]) (by simp [results, Tryz.results15, go_sem, k0, k1, k2, k3, k4, k5, hsz]) rfl ?_
 exact ⟨er, rfl, HQ.out _ _ _ _ (HQ.out _ _ _ _ (HQ.out _ _ _ _ (HQ.out _ _ _ _ (HQ.out _ _ _ _ (HQ.out _ _ _ _ HQ1.out)))))⟩
theorem followCancel : FollowH 6 17 := by
 intro e an ln cn k nm n ar lr cr w Q hQ hT
 have HQ := tZ hQ
 have HT2 := tZ (hT ((w.alloc (.cells #[.int .i64 6, .slice an ln cn, .int .i64 k, .string ⟨nm.toArray⟩, .int .i64 n, .slice ar lr cr] 53)).alloc (.cells #[.int .i64 0, .int .i64 0, .string ⟨#[]⟩, .slice none 0 0, .int .i64 0, .int .i64 0] 30)) (below2 _ _ _) (by simp) (alloc2_new' w _ _ _))
 clear hT hQ
 go_enter Tryz.func15, Tryz.ntmps15
 go_wp2_with (first | (go_at_call 17; refine HT2.out.mono ?_; rintro r w1 ⟨er, rfl, hk1, hq⟩; refine Hid.out ?_))
 obtain ⟨⟨k0, k1, k2, k3, k4, k5⟩, ⟨f0, f1, f2, f3, f4, f5⟩, hsz⟩ := row6 hk1
 have HQ1 := tZ hq
 clear hk1 hq HT2
 refine tZ ?_
 go_wp2
 refine bodyPost_ret (v := .agg #[.int .i64 er, .int .i64 0, .string ⟨#[]⟩, .slice none 0 0, .int .i64 0, .int .i64 0]) (by simp [results, Tryz.results15, go_sem, k0, k1, k2, k3, k4, k5, hsz]) rfl ?_
 exact ⟨er, rfl, HQ.out _ _ _ _ (HQ.out _ _ _ _ (HQ.out _ _ _ _ (HQ.out _ _ _ _ (HQ.out _ _ _ _ (HQ.out _ _ _ _ HQ1.out)))))⟩
theorem followUndo : FollowH 7 27 := by
 intro e an ln cn k nm n ar lr cr w Q hQ hT
 have HQ := tZ hQ
 have HT2 := tZ (hT ((w.alloc (.cells #[.int .i64 7, .slice an ln cn, .int .i64 k, .string ⟨nm.toArray⟩, .int .i64 n, .slice ar lr cr] 53)).alloc (.cells #[.int .i64 0, .int .i64 0, .string ⟨#[]⟩, .slice none 0 0, .int .i64 0, .int .i64 0] 30)) (below2 _ _ _) (by simp) (alloc2_new' w _ _ _))
 clear hT hQ
 go_enter Tryz.func15, Tryz.ntmps15
 go_wp2_with (first | (go_at_call 27; refine HT2.out.mono ?_; rintro r w1 ⟨er, rfl, hk1, hq⟩; refine Hid.out ?_))
 obtain ⟨⟨k0, k1, k2, k3, k4, k5⟩, ⟨f0, f1, f2, f3, f4, f5⟩, hsz⟩ := row6 hk1
 have HQ1 := tZ hq
 clear hk1 hq HT2
 refine tZ ?_
 go_wp2
 refine bodyPost_ret (v := .agg #[.int .i64 er, .int .i64 0, .string ⟨#[]⟩, .slice none 0 0, .int .i64 0, .int .i64 0]) (by simp [results, Tryz.results15, go_sem, k0, k1, k2, k3, k4, k5, hsz]) rfl ?_
 exact ⟨er, rfl, HQ.out _ _ _ _ (HQ.out _ _ _ _ (HQ.out _ _ _ _ (HQ.out _ _ _ _ (HQ.out _ _ _ _ (HQ.out _ _ _ _ HQ1.out)))))⟩
theorem followRedo : FollowH 8 28 := by
 intro e an ln cn k nm n ar lr cr w Q hQ hT
 have HQ := tZ hQ
 have HT2 := tZ (hT ((w.alloc (.cells #[.int .i64 8, .slice an ln cn, .int .i64 k, .string ⟨nm.toArray⟩, .int .i64 n, .slice ar lr cr] 53)).alloc (.cells #[.int .i64 0, .int .i64 0, .string ⟨#[]⟩, .slice none 0 0, .int .i64 0, .int .i64 0] 30)) (below2 _ _ _) (by simp) (alloc2_new' w _ _ _))
 clear hT hQ
 go_enter Tryz.func15, Tryz.ntmps15
 go_wp2_with (first | (go_at_call 28; refine HT2.out.mono ?_; rintro r w1 ⟨er, rfl, hk1, hq⟩; refine Hid.out ?_))
 obtain ⟨⟨k0, k1, k2, k3, k4, k5⟩, ⟨f0, f1, f2, f3, f4, f5⟩, hsz⟩ := row6 hk1
 have HQ1 := tZ hq
 clear hk1 hq HT2
 refine tZ ?_
 go_wp2
 refine bodyPost_ret (v := .agg #[.int .i64 er, .int .i64 0, .string ⟨#[]⟩, .slice none 0 0, .int .i64 0, .int .i64 0]) (by simp [results, Tryz.results15, go_sem, k0, k1, k2, k3, k4, k5, hsz]) rfl ?_
 exact ⟨er, rfl, HQ.out _ _ _ _ (HQ.out _ _ _ _ (HQ.out _ _ _ _ (HQ.out _ _ _ _ (HQ.out _ _ _ _ (HQ.out _ _ _ _ HQ1.out)))))⟩
variable {S S' S1 O : Nat → Prop} {e k : Nat} {D D' F F' P R T : Nat → Prop} {σ σ0 σ1 : Sta} {w w' W w1 w2 w3 W0 : World} {a : Ab} {nm : List By} {bn : Option Addr} {ln cn : Nat}
def beginA (a : Ab) : Nat × Ab := match a.grp with
 | some _ => (9, a)
 | none => (0, ⟨a.M, a.fs, a.past, a.fut, some a.fs⟩)
def commitA (a : Ab) : Nat × Ab := match a.grp with
 | some g => (0, ⟨a.M, a.fs, (g :: a.past).take a.M, [], none⟩)
 | none => (10, a)
def cancelA (a : Ab) : Nat × Ab := match a.grp with
 | some g => (0, ⟨a.M, g, a.past, a.fut, none⟩)
 | none => (10, a)
def HPost (e k : Nat) (F : Nat → Prop) (x : Nat × Ab) (w : World) (r : Ending) (w' : World) : Prop := r = .returned (.int .i64 (x.1 : Int)) ∧ Ks F w w' ∧ ∃ F', EdA w' e F' k x.2 ∧ ∀ q, F' q → F q ∨ w.heap.size ≤ q
theorem EdTo.hpost {S : Nat → Prop} {dv uv gv : Value} {dn' ud' gr' : List (List Wr)} {σ' : Sta} {M : Nat} {x : Nat × Ab} {r : Ending} (hto : EdTo e (Ft S e D dv uv gv) (EdW e D dv uv gv) σ' M dn' ud' gr' x.2.grp.isSome w w') (hM : x.2.M = M) (hr : r = .returned (.int .i64 (x.1 : Int))) (hrep : Rep x.2 D σ' dn' ud' gr') (hl : gr'.length ≤ k) (h4 : ∀ q, Ft S e D dv uv gv q → F q) : HPost e k F x w r w' := by
 subst hM
 obtain ⟨h7, F', h8, h9⟩ := hto.at rfl hrep hl
 exact ⟨hr, h7.wide fun q hq => h4 q (Or.inr hq), F', h8, fun q hq => (h9 q hq).imp_left (h4 q)⟩
theorem EdA.undo (h : EdA w e F k a) : Calls Tryz.prog 27 #[.pointer (some ⟨e, 1, none⟩)] w (HPost e k F (undoA a) w) := by
 obtain ⟨S, D, σ, dv, uv, gv, dn, ud, gr, h1, h2, h3, h4, h5⟩ := h
 refine (undoS h1).mono ?_
 rintro r w' ⟨hr, hto⟩
 obtain ⟨k1, k2, k3, k4, k5⟩ := h2.undo
 rw [k4] at hto
 have hgl : (undoH ⟨σ, dn, ud, gr, a.grp.isSome⟩).2.gr.length ≤ k := by
  unfold undoH
  split
  ·exact h3
  ·split
   ·exact h3
   ·exact h3
 exact hto.hpost k2 (by rw [hr, k1]) k5 hgl h4
theorem EdA.redo (h : EdA w e F k a) : Calls Tryz.prog 28 #[.pointer (some ⟨e, 1, none⟩)] w (HPost e k F (redoA a) w) := by
 obtain ⟨S, D, σ, dv, uv, gv, dn, ud, gr, h1, h2, h3, h4, h5⟩ := h
 refine (redoS h1).mono ?_
 rintro r w' ⟨hr, hto⟩
 obtain ⟨k1, k2, k3, k4, k5⟩ := h2.redo
 rw [k4] at hto
 have hgl : (redoH ⟨σ, dn, ud, gr, a.grp.isSome⟩).2.gr.length ≤ k := by
  unfold redoH
  split
  ·exact h3
  ·split
   ·exact h3
   ·exact h3
 exact hto.hpost k2 (by rw [hr, k1]) k5 hgl h4
theorem EdA.cancelH (h : EdA w e F k a) (hk : k < 1000000000000) : Calls Tryz.prog 17 #[.pointer (some ⟨e, 1, none⟩)] w (HPost e k F (cancelA a) w) := by
 obtain ⟨S, D, σ, dv, uv, gv, dn, ud, gr, h1, h2, h3, h4, h5⟩ := h
 unfold cancelA
 cases hg : a.grp with
 | none =>
  rw [hg] at h1
  refine (cancelShut h1).mono ?_
  rintro r w' ⟨rfl, h6⟩
  exact EdTo.hpost (x := (10, a)) (by rw [hg]; exact h6) rfl rfl h2 h3 h4
 | some g =>
  rw [hg] at h1
  refine (cancelOpen h1 (by omega)).mono ?_
  rintro r w' ⟨rfl, h6⟩
  exact EdTo.hpost (x := (0, ⟨a.M, g, a.past, a.fut, none⟩)) h6 rfl rfl (h2.cancel hg) (by simp) h4
theorem EdA.commitH (h : EdA w e F k a) (hk : k < 1000000000000) : Calls Tryz.prog 26 #[.pointer (some ⟨e, 1, none⟩)] w (HPost e k F (commitA a) w) := by
 have h0 := h
 obtain ⟨S, D, σ, dv, uv, gv, dn, ud, gr, h1, h2, h3, h4, h5⟩ := h
 unfold commitA
 cases hg : a.grp with
 | none =>
  rw [hg] at h1
  obtain ⟨a', c', _, _, _, he⟩ := h1.ph.row
  obtain ⟨Ng, csg, hgr⟩ := h1.rg
  obtain ⟨ag, lg, cg, rfl⟩ := own_slice hgr.own
  refine (commitShut he ag lg cg rfl).mono ?_
  rintro r w' ⟨rfl, rfl⟩
  exact ⟨rfl, Ks.refl _ _, F, h0, fun q hq => Or.inl hq⟩
 | some g =>
  rw [hg] at h1
  refine (commitOpen h1 (by omega)).mono ?_
  rintro r w' ⟨rfl, h6⟩
  exact EdTo.hpost (x := (0, ⟨a.M, a.fs, (g :: a.past).take a.M, [], none⟩)) h6 rfl rfl (h2.commit hg (by have := h1.len; omega)) (by simp) h4
theorem EdA.beginH (h : EdA w e F k a) : Calls Tryz.prog 25 #[.pointer (some ⟨e, 1, none⟩)] w (HPost e k F (beginA a) w) := by
 have h0 := h
 obtain ⟨S, D, σ, dv, uv, gv, dn, ud, gr, h1, h2, h3, h4, h5⟩ := h
 obtain ⟨a', c', _, _, _, he⟩ := h1.ph.row
 refine (beginW he).mono ?_
 intro r w' hp
 unfold BeginPost at hp
 unfold beginA
 cases hg : a.grp with
 | some g =>
  rw [hg] at hp
  obtain ⟨rfl, rfl⟩ := hp
  exact ⟨rfl, Ks.refl _ _, F, h0, fun q hq => Or.inl hq⟩
 | none =>
  rw [hg] at hp h1
  obtain ⟨rfl, rfl⟩ := hp
  exact ⟨rfl, (Ks.refl _ _).set e 4 _ (h4 e (Or.inr (Or.inl rfl))), F, ⟨S, D, σ, dv, uv, gv, dn, ud, gr, h1.begin, h2.begin hg, h3, h4, fun q hq => by simpa using h5 q hq⟩, fun q hq => Or.inl hq⟩
theorem EdA.doHist (h : EdA w e F k a) (s : By) (vb : Int) (hvb : edV vb = false) (N : Nat) (hfol : FollowH vb N) (x : Nat × Ab) (hX : ∀ W, EdA W e F k a → Calls Tryz.prog N #[.pointer (some ⟨e, 1, none⟩)] W (HPost e k F x W))
  (hR : Calls Tryz.prog 14 #[.string ⟨s.toArray⟩] (w.alloc zRep) fun r w1 => Below (w.heap.size + 1) (w.alloc zRep) w1 ∧ ∃ an ln cn, r = .returned (.tuple #[lineV vb an ln cn 0 [] 0 none 0 0, .int .i64 0, .int .i64 0])) :
  Calls Tryz.prog 8 #[.pointer (some ⟨e, 0, none⟩), .string ⟨s.toArray⟩] w fun r w' => r = .returned (rpV (x.1 : Int) 0 [] none 0 0 0 0) ∧ Res F (fun _ => False) e k x.2 [] w none 0 0 w' := by
 have hF := h.lt
 refine (doFol e s w (fun er at_ tx bn ln cn kd nn w' => er = (x.1 : Int) ∧ at_ = 0 ∧ tx = [] ∧ kd = 0 ∧ nn = 0 ∧ (bn = none ∧ ln = 0 ∧ cn = 0) ∧ Res F (fun q => q = w.heap.size) e k x.2 [] w none 0 0 w') (hR.mono ?_)).mono ?_
 rotate_left
 ·rintro r w' ⟨er, at_, tx, bn, ln, cn, kd, nn, rfl, rfl, rfl, rfl, rfl, rfl, ⟨rfl, rfl, rfl⟩, h7⟩
  exact ⟨rfl, h7.less fun _ h => h.elim⟩
 rintro r w1 ⟨hb1, an, ln0, cn0, rfl⟩
 refine ⟨hb1, vb, an, ln0, cn0, 0, [], 0, none, 0, 0, rfl, ?_⟩
 have hs1 : w.heap.size + 1 ≤ w1.heap.size := by have := hb1.size; simpa using this
 have hb01 : Below w.heap.size w w1 := ((Below.refl _ _).alloc (Nat.le_refl _) zRep).trans (hb1.mono (by omega))
 generalize hw2 : (w1.alloc (lineO vb an ln0 cn0 0 [] 0 none 0 0)).alloc zRep = w2
 have hsz2 : w2.heap.size = w1.heap.size + 2 := by rw [← hw2]; simp
 have hb12 : Below w1.heap.size w1 w2 := by rw [← hw2]; exact below2 _ _ _
 have z0 : w2.heap[w.heap.size]? = some zRep := by
  rw [hb12.block _ (by omega), hb1.block _ (by omega)]
  exact heap_alloc_new w zRep
 have z1 : w2.heap[w1.heap.size + 1]? = some zRep := by
  rw [← hw2]
  exact alloc2_new' w1 _ _ _
 have z2 : w2.heap[w1.heap.size]? = some (lineO vb an ln0 cn0 0 [] 0 none 0 0) := by
  rw [← hw2]
  exact alloc2_old w1 _ _ _
 have hb02 : Below w.heap.size w w2 := hb01.trans (hb12.mono (by omega))
 refine (hfol e an ln0 cn0 0 [] 0 none 0 0 w2 (fun er w' => er = (x.1 : Int) ∧ Res F (fun q => q = w.heap.size ∨ q = w1.heap.size ∨ q = w1.heap.size + 1 ∨ q = w2.heap.size + 1) e k x.2 [] w2 none 0 0 w') ?_ ?_).mono ?_
 ·rintro er w' j u ⟨h1, h2⟩
  exact ⟨h1, h2.set (by simp) (by omega) j u⟩
 ·intro W hW hWs hz
  have hsW := hW.size
  refine (hX W (h.next (hb02.trans (hW.mono (by omega))))).mono ?_
  rintro r w3 ⟨rfl, h1, F2, h2, h3⟩
  refine ⟨(x.1 : Int), rfl, (h1.block _ hWs fun hp => by have := hF _ hp; omega).trans hz, rfl, rfl, ?_, World.ownsRow_nil _ _ _ _, F2, h2, fun q hq => (h3 q hq).imp_right fun h => by omega, fun q hq => by simp [Value.ownBlock] at hq, fun q hq hf => ?_⟩
  ·exact (Ks.of hW).trans h1
  ·rcases h3 q hf with h4 | h4
   ·have := hF q h4; omega
   ·omega
 ·rintro r w3 ⟨er, rfl, rfl, h2⟩
  have hks := h2.2.1
  refine ⟨_, 0, [], none, 0, 0, 0, 0, fun W => Res F (fun q => q = w.heap.size ∨ q = w1.heap.size + 1) e k x.2 [] w none 0 0 W, rfl, ?_, ?_, ?_, ⟨?_, ?_⟩, ?_, ?_, ?_⟩
  ·exact (hks.block _ (by omega) fun hp => by have := hF _ hp; omega).trans z0
  ·exact (hks.block _ (by omega) fun hp => by have := hF _ hp; omega).trans z1
  ·exact (hks.block _ (by omega) fun hp => by have := hF _ hp; omega).trans z2
  ·intro W j u h4
   exact h4.set (by simp) (by omega) j u
  ·intro W j u h4
   exact h4.set (by simp) (by omega) j u
  ·refine (h2.base hb02 fun q hq => Or.inl hq).less ?_
   rintro q (h3 | h3)
   ·exact Or.inl h3
   ·exact Or.inr (Or.inr (Or.inl h3))
  ·rintro W j u ⟨h3, h4, h5, h6, h7, h8, h9⟩
   exact ⟨h3, h4, h5, h6, h7, h8, h9.set rfl (Nat.le_refl _) j u⟩
  ·rw [if_neg (by rintro ⟨_, h3⟩; rw [hvb] at h3; cases h3)]
   intro W h4
   exact ⟨rfl, rfl, rfl, rfl, rfl, ⟨rfl, rfl, rfl⟩, h4.less fun q hq => Or.inl hq⟩
end
end Go.Proofs.YtihgojcfpnhelabGreatDoor
