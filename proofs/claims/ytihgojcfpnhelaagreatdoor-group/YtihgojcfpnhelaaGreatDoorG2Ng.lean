import Derived.Test.YtihgojcfpnhelaaGreatDoorG2Ie
import Derived.Test.YtihgojcfpnhelaaGreatDoorG2Hn
import Derived.Test.YtihgojcfpnhelaaGreatDoorG2Bo
import Derived.Test.YtihgojcfpnhelaaGreatDoorG2Sv
import Derived.Test.YtihgojcfpnhelaaGreatDoorG2Kd
import Derived.Test.YtihgojcfpnhelaaGreatDoorG2Bc
import Derived.Test.YtihgojcfpnhelaaGreatDoorG2Mj
import Derived.Shelf.SlSortCmp.Insertion
import Derived.Shelf.Small.Strs
import Derived.Shelf.Small.Bits
import Derived.Test.YtihgojcfpnhelaaGreatDoorRows
import Derived.Test.YtihgojcfpnhelaaGreatDoorG2Bj
import Derived.Test.YtihgojcfpnhelaaGreatDoorG2Z
set_option maxRecDepth 100000
set_option maxHeartbeats 4000000
set_option linter.unusedVariables false
set_option linter.unusedSimpArgs false
namespace Go.Proofs.YtihgojcfpnhelaaGreatDoor
open Go.RowKit
variable {S S' S1 O : Nat → Prop} {e k : Nat} {D D' F F' P R T : Nat → Prop} {σ σ0 σ1 : Sta} {v0 v1 v2 v3 v4 v5 v v' : Value} {te : TypeId} {w w' W w1 w2 w3 : World} {M : Nat} {dv uv gv : Value} {dn ud gr : List (List Wr)} {op : Bool} {N1 : Nat} {cs1 : Array Value} {us : List Wr} {a : Ab} {nm : List By} {bn : Option Addr} {ln cn : Nat}
theorem own_not_field {base n z : Nat} {xs : List Value} (ho : w.ownsRow base 9 z v n xs) {f : Fd} {b : Nat} (hf : FdAt w S b f) : v.ownBlock ≠ some b := by
 intro hq
 obtain ⟨h1, h2⟩ := ho
 rcases h2 with h2 | ⟨g, cap, cur, h3, h4, h5, h6⟩
 ·rw [h2.1] at hq
  simp [Value.ownBlock] at hq
 ·obtain ⟨_, _, _, _, a, l, c, hr, _⟩ := hf
  rw [h3] at hq
  simp only [Value.ownBlock, Option.some.injEq] at hq
  subst hq
  rw [h5] at hr
  simp at hr
structure FsOk (fs : List Fd) : Prop where
 gf : GF fs
 len : fs.length ≤ 10
 nmo : ∀ f, f ∈ fs → f.nm ≠ [] ∧ f.nm.length ≤ 6
theorem FsOk.st {fs : List Fd} (h : FsOk fs) (hs : ∀ b, b ∈ σ.ord → D b) (hf : σ.fs.map Prod.snd = fs) : GSt D σ := by
 subst hf
 refine ⟨?_, hs, h.gf, by have := h.len; simpa [Sta.fs] using this, h.nmo⟩
 have := h.gf.nn
 unfold Sta.fs at this
 rw [List.map_map, List.map_map] at this
 unfold List.Nodup at this ⊢
 rw [List.pairwise_map] at this
 exact this.imp fun h e => h (by rw [e])
theorem EdA.change (h : EdA w e F k a) (hk : k < 1000000000000) (ar : AR) (hok : ∀ fs n, ar = .ok fs n → FsOk fs) (herr : ∀ c n, ar = .err c n → c ≠ 0) (hb : Below w.heap.size w W) (hR : ∀ q, R q → w.heap.size ≤ q ∧ q < W.heap.size) (hT : ∀ q, T q → w.heap.size ≤ q ∧ q < W.heap.size ∧ ¬ R q) (t : Nat) (ht : T t) (ht0 : W.heap[t]? = some zRep) (arg : Value)
  (hC : ∀ S D σ v1 v2 v3 v4 v5, PhS W S e D σ v1 v2 v3 v4 v5 108 → (∀ q, R q → S q) → (∀ q, q = e ∨ D q → F q) → GSt D σ → σ.fs.map Prod.snd = a.fs → Calls Tryz.prog 98 #[.pointer (some ⟨e, 0, none⟩), arg] W (EdPost S e D σ v1 v2 v3 v4 v5 108 ar W)) :
  Calls Tryz.prog 98 #[.pointer (some ⟨e, 0, none⟩), arg] W (ChPost e (fun er bn ln cn w' => er = (ar.code : Int) ∧ Res (fun q => F q ∨ R q) T e (k + 1) (midA a ar) ar.names W bn ln cn w') t zRep) := by
 have hF := h.lt
 have hsz := hb.size
 have h' := h.next hb
 obtain ⟨S, D, σ, dv, uv, gv, dn, ud, gr, h1, h2, h3, h4, h5⟩ := h'
 have hFW : ∀ q, EdW e D dv uv gv q → F q := fun q hq => h4 q (Or.inr hq)
 have hRW : ∀ q, R q → ¬ EdW e D dv uv gv q := fun q hq hw => by have := hF q (hFW q hw); have := (hR q hq).1; omega
 have hx := h1.wideS (S' := fun q => S q ∨ R q) (fun q hq => Or.inl hq) (fun q hq => hq.imp_right fun hr => ⟨(hR q hr).2, hRW q hr⟩)
 have hTt := hT t ht
 refine (hC _ _ _ _ _ _ _ _ hx.ph (fun q hq => Or.inr hq) (fun q hq => hFW q (hq.imp_right Or.inl)) h2.gs h2.fs.symm).mono ?_
 rintro r w1 hp
 cases ar with
 | ok fs n =>
  obtain ⟨an, cn, S2, D2, N', cs', σ2, ws, hcom, rfl, hm, ho, hph, hbk, hfs⟩ := hp
  have hx2 := hx.sheet hph hcom.s0 hcom.s1 hcom.d0 hcom.d1 hcom.ks
  have hgs : GSt D2 (runW ws σ2) := (hok fs n rfl).st hph.sub hfs
  have hre := h2.edited (σ1 := σ2) hcom.d0 ⟨ho.symm, fun q hq => (hm q hq).symm⟩ hgs hbk.wrin (by have := h1.len; omega)
  rw [hfs] at hre
  have hks : Ks (fun q => F q ∨ R q) W w1 := hcom.ks.wide fun q hq => Or.inl (hFW q (hq.imp_right Or.inl))
  have hsz1 := hks.size
  have hTn : ∀ q, T q → ¬ Ft S2 e D2 dv uv gv q := by
   intro q hq hft
   obtain ⟨t1, t2, t3⟩ := hT q hq
   have hw : ∀ q, EdW e D dv uv gv q → q < w.heap.size := fun q hq => hF q (hFW q hq)
   rcases hft with h6 | h6 | h6 | h6
   ·rcases hcom.s1 q h6 with (h7 | h7) | h7
    ·have := hF q (h4 q (Or.inl h7)); omega
    ·exact t3 h7
    ·omega
   ·have := hw q (Or.inl h6); omega
   ·rcases hcom.d1 q h6 with h7 | h7
    ·have := hw q (Or.inr (Or.inl h7)); omega
    ·omega
   ·have := hw q (Or.inr (Or.inr h6)); omega
  have hNn : ∀ q, (Value.slice an n.length cn).ownBlock = some q → ¬ Ft S2 e D2 dv uv gv q := by
   intro q hq hft
   have hql := hcom.own.lt q hq
   have hw : ∀ q, EdW e D dv uv gv q → q < W.heap.size := fun q hq => by have := hF q (hFW q hq); omega
   rcases hft with h6 | h6 | h6 | h6
   ·exact hcom.ob q hq h6
   ·have := hw q (Or.inl h6); omega
   ·exact own_not_field hcom.own (hph.fld q h6) hq
   ·have := hw q (Or.inr (Or.inr h6)); omega
  refine ⟨an, _, cn, _, 0, rfl, (hks.block t (by omega) fun hp => ?_).trans ht0, Or.inl ⟨rfl, N', cs', rfl, ?_⟩⟩
  ·rcases hp with hp | hp
   ·have := hF t hp; omega
   ·exact hTt.2.2 hp
  have fin : ∀ (a' : Ab) (dn' ud' gr' : List (List Wr)) (w2 : World), a'.M = a.M → EdTo e (Ft S2 e D2 dv uv gv) (EdW e D2 dv uv gv) (runW ws σ2) a.M dn' ud' gr' a'.grp.isSome w1 w2 → Rep a' D2 (runW ws σ2) dn' ud' gr' → gr'.length ≤ k + 1 → w2.heap[t]? = some zRep ∧ Res (fun q => F q ∨ R q) T e (k + 1) a' n W an n.length cn w2 := by
   intro a' dn' ud' gr' w2 hM hto hrep hl
   rw [← hM] at hto
   obtain ⟨k1, F', k2, k3⟩ := hto.at rfl hrep hl
   have hsz2 := k1.size
   refine ⟨(k1.block t (by omega) fun hw => hTn t ht (Or.inr hw)).trans ((hks.block t (by omega) fun hp => ?_).trans ht0), rfl, ⟨k1.os.trans hks.os, k1.tape.trans hks.tape, k1.output.trans hks.output, by omega, fun q hq hn => (k1.block q (by omega) fun hw => hn ?_).trans (hks.block q hq hn)⟩, own_ke hcom.own k1 (fun q hq hw => hNn q hq (Or.inr hw)), F', k2, fun q hq => ?_, fun q hq => ⟨fun hh => ?_, fun hh => ?_⟩, fun q hq hh => ?_⟩
   ·rcases hp with hp | hp
    ·have := hF t hp; omega
    ·exact hTt.2.2 hp
   ·rcases hw with h6 | h6 | h6
    ·exact Or.inl (hFW q (Or.inl h6))
    ·rcases hcom.d1 q h6 with h7 | h7
     ·exact Or.inl (hFW q (Or.inr (Or.inl h7)))
     ·omega
    ·exact Or.inl (hFW q (Or.inr (Or.inr h6)))
   ·rcases k3 q hq with h5 | h5
    ·rcases h5 with h6 | h6 | h6 | h6
     ·rcases hcom.s1 q h6 with (h7 | h7) | h7
      ·exact Or.inl (Or.inl (h4 q (Or.inl h7)))
      ·exact Or.inl (Or.inr h7)
      ·exact Or.inr h7
     ·exact Or.inl (Or.inl (hFW q (Or.inl h6)))
     ·rcases hcom.d1 q h6 with h7 | h7
      ·exact Or.inl (Or.inl (hFW q (Or.inr (Or.inl h7))))
      ·exact Or.inr h7
     ·exact Or.inl (Or.inl (hFW q (Or.inr (Or.inr h6))))
    ·exact Or.inr (by omega)
   ·rcases k3 q hh with h6 | h6
    ·exact hNn q hq h6
    ·have := (hcom.own.lt q hq).2; omega
   ·have := (hcom.own.lt q hq).1; have := (hT q hh).2.1; omega
   ·rcases k3 q hh with h6 | h6
    ·exact hTn q hq h6
    ·have := (hT q hq).2.1; omega
  cases hg : a.grp with
  | none =>
   rw [hg] at hx2
   refine (addShut hx2 hbk).mono ?_
   rintro r w2 ⟨rfl, hto⟩
   have hr1 := hre.1 hg
   obtain ⟨f1, f2⟩ := fin ⟨a.M, fs, (a.fs :: a.past).take a.M, [], none⟩ _ _ _ w2 rfl hto hr1 (by omega)
   refine ⟨rfl, f1, rfl, ?_⟩
   simp only [midA, doneA, hg]
   exact f2
  | some g =>
   rw [hg] at hx2
   refine (addOpen hx2 hbk (by omega)).mono ?_
   rintro r w2 ⟨rfl, hto⟩
   have hr1 := hre.2 g hg
   obtain ⟨f1, f2⟩ := fin ⟨a.M, fs, a.past, a.fut, some g⟩ _ _ _ w2 rfl hto hr1 (by simp; omega)
   refine ⟨rfl, f1, rfl, ?_⟩
   simp only [midA, doneA, hg]
   exact f2
 | err c n =>
  obtain ⟨an, cn, S2, hcom, rfl, hph⟩ := hp
  have hx2 := hx.sheet hph hcom.s0 hcom.s1 hcom.d0 hcom.d1 hcom.ks
  have hks : Ks (fun q => F q ∨ R q) W w1 := hcom.ks.wide fun q hq => Or.inl (hFW q (hq.imp_right Or.inl))
  have hsz1 := hks.size
  have hw : ∀ q, EdW e D dv uv gv q → q < w.heap.size := fun q hq => hF q (hFW q hq)
  refine ⟨an, _, cn, _, (c : Int), rfl, (hks.block t (by omega) fun hp => ?_).trans ht0, Or.inr ⟨by have := herr c n rfl; omega, rfl, rfl, rfl, hks, hcom.own, Ft S2 e D dv uv gv, ⟨S2, D, σ, dv, uv, gv, dn, ud, gr, hx2, h2, by omega, fun _ h => h, hx2.ftLt⟩, fun q hq => ?_, fun q hq => ⟨fun hh => ?_, fun hh => ?_⟩, fun q hq hh => ?_⟩⟩
  ·rcases hp with hp | hp
   ·have := hF t hp; omega
   ·exact hTt.2.2 hp
  ·rcases hq with h6 | h6
   ·rcases hcom.s1 q h6 with (h7 | h7) | h7
    ·exact Or.inl (Or.inl (h4 q (Or.inl h7)))
    ·exact Or.inl (Or.inr h7)
    ·exact Or.inr h7
   ·exact Or.inl (Or.inl (hFW q h6))
  ·rcases hh with h6 | h6
   ·exact hcom.ob q hq h6
   ·have := hw q h6; have := (hcom.own.lt q hq).1; omega
  ·have := (hcom.own.lt q hq).1; have := (hT q hh).2.1; omega
  ·rcases hh with h6 | h6
   ·rcases hcom.s1 q h6 with (h7 | h7) | h7
    ·have := hF q (h4 q (Or.inl h7)); have := (hT q hq).1; omega
    ·exact (hT q hq).2.2 h7
    ·have := (hT q hq).2.1; omega
   ·have := hw q h6; have := (hT q hq).1; omega
theorem ChPost.imp {Q Q' : Int → Option Addr → Nat → Nat → World → Prop} {q : Nat} {row : Obj} {r : Ending} (h : ChPost e Q q row r w1) (hQ : ∀ er bn ln cn w', Q er bn ln cn w' → Q' er bn ln cn w') : ChPost e Q' q row r w1 := by
 obtain ⟨bn, ln, cn, bk, er, h1, h2, h3⟩ := h
 refine ⟨bn, ln, cn, bk, er, h1, h2, ?_⟩
 rcases h3 with ⟨h4, N, cs, h5, h6⟩ | ⟨h4, h5, h6⟩
 ·refine Or.inl ⟨h4, N, cs, h5, h6.mono ?_⟩
  rintro r w2 ⟨k1, k2, k3⟩
  exact ⟨k1, k2, hQ _ _ _ _ _ k3⟩
 ·exact Or.inr ⟨h4, h5, hQ _ _ _ _ _ h6⟩
def EdLine (e : Nat) (F : Nat → Prop) (a : Ab) (ar : AR) (w : World) (r : Ending) (w1 : World) : Prop :=
 Below (w.heap.size + 1) (w.alloc zRep) w1 ∧ ∃ (vb : Int) (an : Option Addr) (ln cn : Nat) (k : Int) (nm : By) (n : Int) (al : Option Addr) (lr cr : Nat) (R : Nat → Prop), r = .returned (.tuple #[lineV vb an ln cn k nm n al lr cr, .int .i64 0, .int .i64 0]) ∧ (vb = 1 ∨ vb = 2 ∨ vb = 3) ∧ (∀ q, R q → w.heap.size + 1 ≤ q ∧ q < w1.heap.size) ∧
  ∀ W, Below w1.heap.size w1 W → ∀ S D σ v1 v2 v3 v4 v5, PhS W S e D σ v1 v2 v3 v4 v5 108 → (∀ q, R q → S q) → (∀ q, q = e ∨ D q → F q) → GSt D σ → σ.fs.map Prod.snd = a.fs → Calls Tryz.prog 98 #[.pointer (some ⟨e, 0, none⟩), lineV vb an ln cn k nm n al lr cr] W (EdPost S e D σ v1 v2 v3 v4 v5 108 ar W)
theorem edV_of {vb : Int} (h : vb = 1 ∨ vb = 2 ∨ vb = 3) : edV vb = true := by
 rcases h with rfl | rfl | rfl <;> rfl
theorem EdA.doEdit (h : EdA w e F k a) (hk : k + 1 < 1000000000000) (s : By) (ar : AR) (hok : ∀ fs n, ar = .ok fs n → FsOk fs) (herr : ∀ c n, ar = .err c n → c ≠ 0)
  (hR : Calls Tryz.prog 46 #[.string ⟨s.toArray⟩] (w.alloc zRep) (EdLine e F a ar w)) :
  Calls Tryz.prog 20 #[.pointer (some ⟨e, 0, none⟩), .string ⟨s.toArray⟩] w fun r w' => ∃ bn ln cn, r = .returned (rpV (ar.code : Int) 0 [] bn ln cn 0 0) ∧ Res F (fun _ => False) e (k + 1) (editA a ar) ar.names w bn ln cn w' := by
 have hF := h.lt
 refine (doFol e s w (fun er at_ tx bn ln cn kd nn w' => er = (ar.code : Int) ∧ at_ = 0 ∧ tx = [] ∧ kd = 0 ∧ nn = 0 ∧ Res F (fun q => q = w.heap.size) e (k + 1) (editA a ar) ar.names w bn ln cn w') (hR.mono ?_)).mono ?_
 rotate_left
 ·rintro r w' ⟨er, at_, tx, bn, ln, cn, kd, nn, rfl, rfl, rfl, rfl, rfl, rfl, h7⟩
  exact ⟨bn, ln, cn, rfl, h7.less fun _ h => h.elim⟩
 rintro r w1 ⟨hb1, vb, an, ln0, cn0, k0, nm0, n0, al, lr, cr, R, rfl, hvb, hRr, hC⟩
 refine ⟨hb1, vb, an, ln0, cn0, k0, nm0, n0, al, lr, cr, rfl, ?_⟩
 have hs1 : w.heap.size + 1 ≤ w1.heap.size := by have := hb1.size; simpa using this
 have hb01 : Below w.heap.size w w1 := ((Below.refl _ _).alloc (Nat.le_refl _) zRep).trans (hb1.mono (by omega))
 generalize hw2 : (w1.alloc (lineO vb an ln0 cn0 k0 nm0 n0 al lr cr)).alloc zRep = w2
 have hsz2 : w2.heap.size = w1.heap.size + 2 := by rw [← hw2]; simp
 have hb12 : Below w1.heap.size w1 w2 := by rw [← hw2]; exact below2 _ _ _
 have z0 : w2.heap[w.heap.size]? = some zRep := by
  rw [hb12.block _ (by omega), hb1.block _ (by omega)]
  show (w.heap.push zRep)[w.heap.size]? = some zRep
  exact Array.getElem?_push_size
 have z1 : w2.heap[w1.heap.size + 1]? = some zRep := by
  rw [← hw2]
  exact alloc2_new' w1 _ _ _
 have z2 : w2.heap[w1.heap.size]? = some (lineO vb an ln0 cn0 k0 nm0 n0 al lr cr) := by
  rw [← hw2]
  exact alloc2_old w1 _ _ _
 have hb02 : Below w.heap.size w w2 := hb01.trans (hb12.mono (by omega))
 have hFR : ∀ q, F q ∨ R q → q < w.heap.size ∨ (w.heap.size + 1 ≤ q ∧ q < w1.heap.size) := fun q hq => hq.imp (hF q) (hRr q)
 refine (followEdit e vb hvb an ln0 cn0 k0 nm0 n0 al lr cr w2 (fun er bn ln cn w' => er = (ar.code : Int) ∧ Res (fun q => F q ∨ R q) (fun q => q = w.heap.size ∨ q = w1.heap.size ∨ q = w1.heap.size + 1 ∨ q = w2.heap.size + 1) e (k + 1) (midA a ar) ar.names w2 bn ln cn w') ?_ ?_).mono ?_
 ·rintro er a' l c w' j u ⟨h1, h2⟩
  exact ⟨h1, h2.set (by simp) (by omega) j u⟩
 ·intro W hW hWs
  refine (editAny e vb an ln0 cn0 k0 nm0 n0 al lr cr W (fun er bn ln cn w' => er = (ar.code : Int) ∧ Res (fun q => F q ∨ R q) (fun q => (q = w.heap.size ∨ q = w1.heap.size ∨ q = w1.heap.size + 1 ∨ q = w2.heap.size + 1) ∨ q = W.heap.size + 1) e (k + 1) (midA a ar) ar.names W bn ln cn w') ?_ ?_).mono ?_
  ·rintro er a' l c w' j u ⟨h1, h2⟩
   exact ⟨h1, h2.set (by simp) (by omega) j u⟩
  ·intro W' hW' hWs' hz
   have hb0W : Below w.heap.size w W' := (hb02.trans (hW.mono (by omega))).trans (hW'.mono (by have := hW.size; omega))
   have hb1W : Below w1.heap.size w1 W' := (hb12.trans (hW.mono (by omega))).trans (hW'.mono (by have := hW.size; omega))
   refine (h.change (R := R) (T := fun q => (q = w.heap.size ∨ q = w1.heap.size ∨ q = w1.heap.size + 1 ∨ q = w2.heap.size + 1) ∨ q = W.heap.size + 1) (by omega) ar hok herr hb0W (fun q hq => ⟨by have := (hRr q hq).1; omega, by have := (hRr q hq).2; omega⟩) (fun q hq => ⟨by omega, by omega, fun hr => by have := hRr q hr; omega⟩) (W.heap.size + 1) (Or.inr rfl) hz _ (hC W' hb1W)).mono ?_
   intro r w3 h3
   refine h3.imp ?_
   rintro er bn ln cn w' ⟨h4, h5⟩
   exact ⟨h4, h5.base hW' fun q hq => Or.inl hq⟩
  ·rintro r w' ⟨er, bn, ln, cn, rfl, h1, h2⟩
   refine ⟨er, bn, ln, cn, rfl, ?_, h1, (h2.base hW fun q hq => Or.inl hq).less fun q hq => Or.inl hq⟩
   rintro q rfl
   exact h2.2.1.block _ (by omega) fun hp => by have := hFR _ hp; omega
 ·rintro r w3 ⟨er, bn, ln, cn, rfl, h1, h2⟩
  have hks := h2.2.1
  refine ⟨er, 0, [], bn, ln, cn, 0, 0, fun W => w1.heap.size + 2 ≤ W.heap.size ∧ Res F (fun q => q = w.heap.size ∨ q = w1.heap.size + 1) e (k + 1) (midA a ar) ar.names w bn ln cn W, rfl, ?_, ?_, ?_, ⟨?_, ?_⟩, ⟨by have := hks.size; omega, ?_⟩, ?_, ?_⟩
  ·exact (hks.block _ (by omega) fun hp => by have := hFR _ hp; omega).trans z0
  ·exact (hks.block _ (by omega) fun hp => by have := hFR _ hp; omega).trans z1
  ·exact (hks.block _ (by omega) fun hp => by have := hFR _ hp; omega).trans z2
  ·rintro W j u ⟨h3, h4⟩
   exact ⟨by simpa using h3, h4.set (by simp) (by omega) j u⟩
  ·rintro W j u ⟨h3, h4⟩
   exact ⟨by simpa using h3, h4.set (by simp) (by omega) j u⟩
  ·refine (h2.base hb02 fun q hq => hq.imp_right fun hr => ?_).less ?_
   ·have := hRr q hr; omega
   ·rintro q (h3 | h3)
    ·exact Or.inl h3
    ·exact Or.inr (Or.inr (Or.inl h3))
  ·rintro W j u ⟨h3, h4, h5, h6, h7, h8⟩
   exact ⟨h3, h4, h5, h6, h7, h8.set rfl (Nat.le_refl _) j u⟩
  ·cases ar with
   | ok fs n =>
    rw [if_neg (by rintro ⟨h3, _⟩; exact h3 h1)]
    rintro W ⟨h3, h4⟩
    exact ⟨h1, rfl, rfl, rfl, rfl, h4.less fun q hq => Or.inl hq⟩
   | err c n =>
    have hc := herr c n rfl
    rw [if_pos ⟨by rw [h1]; simp only [AR.code]; omega, edV_of hvb⟩]
    rintro W ⟨h3, h4⟩
    refine (h4.cancel (by omega) (by rintro q (rfl | rfl) <;> omega)).mono ?_
    rintro r w' ⟨k1, k2, k3⟩
    exact ⟨k1, k2 _ (Or.inl rfl), k2 _ (Or.inr rfl), h1, rfl, rfl, rfl, rfl, k3.less fun q hq => Or.inl hq⟩
end Go.Proofs.YtihgojcfpnhelaaGreatDoor
namespace Go.Proofs.YtihgojcfpnhelaaGreatDoor
open Go.RowKit
variable {S S' S1 O : Nat → Prop} {e k : Nat} {D D' F F' P R T : Nat → Prop} {σ σ0 σ1 : Sta} {v0 v1 v2 v3 v4 v5 v v' : Value} {te : TypeId} {w w' W w1 w2 w3 W0 : World} {M : Nat} {dv uv gv : Value} {dn ud gr : List (List Wr)} {op : Bool} {a : Ab} {nm : List By} {bn : Option Addr} {ln cn : Nat} {fs fs' : List Fd} {x y : By} {p : Pt} {nms : List By}
theorem perm_len (h : (fs.map fun g => (g.nm, g.p)).Perm (fs'.map fun g => (g.nm, g.p))) : fs.length = fs'.length := by
 have := h.length_eq
 simpa using this
theorem perm_nm (h : (fs.map fun g => (g.nm, g.p)).Perm (fs'.map fun g => (g.nm, g.p))) : ∀ f, f ∈ fs → ∃ g, g ∈ fs' ∧ g.nm = f.nm := fun f hf => by
 obtain ⟨g, hg, he⟩ := List.mem_map.1 (h.mem_iff.1 (List.mem_map.2 ⟨f, hf, rfl⟩))
 exact ⟨g, hg, congrArg Prod.fst he⟩
theorem FsOk.set (h : FsOk fs) (hsh : Shape p) (hx : x ≠ [] ∧ x.length ≤ 6) (hs : setA fs x p = .ok fs' nms) : FsOk fs' := by
 obtain ⟨h1, h2⟩ := setA_right h.gf hsh hs
 refine ⟨h1, ?_, fun f hf => ?_⟩
 ·have hl := h.len
  rcases h2 with ⟨A, f, B, rfl, _, h3⟩ | ⟨_, h3, h4⟩
  ·have := perm_len h3
   simp at this hl
   omega
  ·have := perm_len h4
   simp at this
   omega
 ·rcases h2 with ⟨A, f0, B, rfl, hf0, h3⟩ | ⟨_, _, h3⟩
  ·obtain ⟨g, hg, he⟩ := perm_nm h3 f hf
   rw [← he]
   simp only [List.mem_append, List.mem_cons] at hg
   rcases hg with hg | rfl | hg
   ·exact h.nmo g (by simp [hg])
   ·exact hx
   ·exact h.nmo g (by simp [hg])
  ·obtain ⟨g, hg, he⟩ := perm_nm h3 f hf
   rw [← he]
   simp only [List.mem_append, List.mem_singleton] at hg
   rcases hg with hg | rfl
   ·exact h.nmo g hg
   ·exact hx
theorem FsOk.del (h : FsOk fs) (hs : delA fs x = .ok fs' nms) : FsOk fs' := by
 obtain ⟨h1, A, f0, B, rfl, _, h3⟩ := delA_right h.gf hs
 have hp := List.Perm.of_eq h3
 refine ⟨h1, ?_, fun f hf => ?_⟩
 ·have := perm_len hp
  have hl := h.len
  simp at this hl
  omega
 ·obtain ⟨g, hg, he⟩ := perm_nm hp f hf
  rw [← he]
  simp only [List.mem_append] at hg
  rcases hg with hg | hg
  ·exact h.nmo g (by simp [hg])
  ·exact h.nmo g (by simp [hg])
theorem FsOk.ren (h : FsOk fs) (hy : y ≠ [] ∧ y.length ≤ 6) (hs : renA fs x y = .ok fs' nms) : FsOk fs' := by
 obtain ⟨h1, _, _, h3⟩ := renA_right h.gf (fun f hf => (h.nmo f hf).1) hy.1 hs
 refine ⟨h1, ?_, fun f hf => ?_⟩
 ·have := perm_len h3
  have hl := h.len
  simp at this
  omega
 ·obtain ⟨g, hg, he⟩ := perm_nm h3 f hf
  rw [← he]
  obtain ⟨g0, hg0, rfl⟩ := List.mem_map.1 hg
  unfold renF
  by_cases hc : g0.nm = x
  ·rw [if_pos hc]; exact hy
  ·rw [if_neg hc]; exact h.nmo g0 hg0
theorem settleA_err {i : Nat} {f : Fd} {c : Nat} (h : settleA fs i f = .err c nms) : c ≠ 0 := by
 unfold settleA at h
 split at h
 ·cases h
 ·cases h; decide
theorem setA_err {c : Nat} (h : setA fs x p = .err c nms) : c ≠ 0 := by
 unfold setA at h
 split at h
 ·split at h
  ·exact settleA_err h
  ·cases h; decide
 ·split at h
  ·cases h; decide
  ·exact settleA_err h
theorem delA_err {c : Nat} (h : delA fs x = .err c nms) : c ≠ 0 := by
 unfold delA at h
 split at h
 ·cases h; decide
 ·cases h
theorem renA_err {c : Nat} (h : renA fs x y = .err c nms) : c ≠ 0 := by
 unfold renA at h
 split at h
 ·cases h; decide
 ·split at h
  ·cases h; decide
  ·split at h
   ·cases h; decide
   ·split at h
    ·exact settleA_err h
    ·cases h; decide
theorem Ks.low {B : Nat} (h : Ks P w w') (hP : ∀ q, P q → B ≤ q) (hB : B ≤ w.heap.size) : Below B w w' := ⟨h.os, h.tape, h.output, h.size, fun q hq => h.block q (by omega) fun hp => by have := hP q hp; omega⟩
theorem EdPost.up {ar : AR} {r : Ending} (hb : Below w.heap.size w w1) (hsub : ∀ b, b ∈ σ.ord → D b) (h : EdPost S e D σ v1 v2 v3 v4 v5 te ar w1 r w') : ChQ (EdPost S e D σ v1 v2 v3 v4 v5 te ar w) r w' := by
 have h2 := EdPost.lift (S := S) (D := D) (w := w) (fun _ h => h) (fun _ h => Or.inl h) (fun _ h => h) (fun _ h => Or.inl h) (Ks.of hb) (fun _ _ => rfl) rfl hsub h
 obtain ⟨an, ln, cn, bk, er, rfl, h4⟩ := h2.shape
 exact ⟨an, ln, cn, bk, er, rfl, h2⟩
theorem ChQ.out {Q : Ending → World → Prop} {r : Ending} (h : ChQ Q r w') : Q r w' := by
 obtain ⟨_, _, _, _, _, _, h⟩ := h
 exact h
theorem edLine_set {r : Ending} (hret : RetL (.ok 1 [x] (some p)) (w.alloc zRep) r w1) (hb : Below (w.alloc zRep).heap.size (w.alloc zRep) w1) (hsh : Shape p) (hgd : Good p) (htx : (txt p).length ≤ 100) : EdLine e F a (setA a.fs x p) w r w1 := by
 have e1 : (w.alloc zRep).heap.size = w.heap.size + 1 := by simp
 obtain ⟨an, ln, cn, al, lr, cr, rfl, hown, hp⟩ := hret
 obtain ⟨g, cap, hv, hg, hgl⟩ := hown.form (by simp)
 simp at hv
 obtain ⟨rfl, rfl, rfl⟩ := hv
 have hc := hown.cellAt 0 (by simp)
 rw [e1] at hb hp
 refine ⟨hb, 1, some ⟨g, 0, none⟩, 1, cn, p.k, p.nm, p.n, al, lr, cr, _, rfl, Or.inl rfl, fun q hq => hq, ?_⟩
 intro W hW S D σ v1 v2 v3 v4 v5 hph hRS _ hgs hfs
 rw [← hfs]
 refine (changeSetQ e g cn x p.k p.nm p.n al lr cr W (EdPost S e D σ v1 v2 v3 v4 v5 108 (setA (σ.fs.map Prod.snd) x p) W) ?_ ?_ ?_).mono fun r w' h => h.out
 ·rw [World.cell?_of_block (a := ⟨g, 0, none⟩) (hW.block g hgl)]
  simpa [strs] using hc
 ·have := hW.size; omega
 ·intro W' hW'
  have hp' : PIs W' S p al lr cr := ((hp.next fun q hq => hW.block q hq.2).wide hRS).next fun q hq => hW'.block q (hph.still q hq)
  exact (setS (hph.next hW') hgs.nd hgs.len x p al lr cr hp' hsh hgd htx).mono fun r w' h => h.up hW' hph.sub
theorem edLine_del {r : Ending} (hret : RetL (.ok 2 [x] none) (w.alloc zRep) r w1) (hb : Below (w.alloc zRep).heap.size (w.alloc zRep) w1) : EdLine e F a (delA a.fs x) w r w1 := by
 have e1 : (w.alloc zRep).heap.size = w.heap.size + 1 := by simp
 obtain ⟨an, ln, cn, rfl, hown⟩ := hret
 obtain ⟨g, cap, hv, hg, hgl⟩ := hown.form (by simp)
 simp at hv
 obtain ⟨rfl, rfl, rfl⟩ := hv
 have hc := hown.cellAt 0 (by simp)
 rw [e1] at hb
 refine ⟨hb, 2, some ⟨g, 0, none⟩, 1, cn, 0, [], 0, none, 0, 0, fun _ => False, rfl, Or.inr (Or.inl rfl), fun q hq => hq.elim, ?_⟩
 intro W hW S D σ v1 v2 v3 v4 v5 hph hRS _ hgs hfs
 rw [← hfs]
 refine (changeDelQ e g cn x 0 [] 0 none 0 0 W (EdPost S e D σ v1 v2 v3 v4 v5 108 (delA (σ.fs.map Prod.snd) x) W) ?_ ?_ ?_).mono fun r w' h => h.out
 ·rw [World.cell?_of_block (a := ⟨g, 0, none⟩) (hW.block g hgl)]
  simpa [strs] using hc
 ·have := hW.size; omega
 ·intro W' hW'
  exact (delS (hph.next hW') hgs.nd hgs.len x).mono fun r w' h => h.up hW' hph.sub
theorem edLine_ren {r : Ending} (hE0 : Env W0) (hlow : Below W0.heap.size W0 w) (hF : ∀ q, F q → W0.heap.size ≤ q) (hret : RetL (.ok 3 [x, y] none) (w.alloc zRep) r w1) (hb : Below (w.alloc zRep).heap.size (w.alloc zRep) w1) (hx : x ≠ []) (hy : y.length ≤ 100) : EdLine e F a (renA a.fs x y) w r w1 := by
 have e1 : (w.alloc zRep).heap.size = w.heap.size + 1 := by simp
 obtain ⟨an, ln, cn, rfl, hown⟩ := hret
 obtain ⟨g, cap, hv, hg, hgl⟩ := hown.form (by simp)
 simp at hv
 obtain ⟨rfl, rfl, rfl⟩ := hv
 have hc := hown.cellAt 0 (by simp)
 have hc1 := hown.cellAt 1 (by simp)
 rw [e1] at hb
 have hs1 := hb.size
 have hs0 := hlow.size
 rw [e1] at hs1
 have hlow1 : Below W0.heap.size W0 w1 := hlow.trans (((Below.refl _ _).alloc (by omega) zRep).trans (hb.mono (by omega)))
 refine ⟨hb, 3, some ⟨g, 0, none⟩, 2, cn, 0, [], 0, none, 0, 0, fun _ => False, rfl, Or.inr (Or.inr rfl), fun q hq => hq.elim, ?_⟩
 intro W hW S D σ v1 v2 v3 v4 v5 hph hRS hDF hgs hfs
 have hsW := hW.size
 rw [← hfs]
 refine (changeRenQ e g cn x y 0 [] 0 none 0 0 W (EdPost S e D σ v1 v2 v3 v4 v5 108 (renA (σ.fs.map Prod.snd) x y) W) ?_ ?_ ?_ ?_).mono fun r w' h => h.out
 ·rw [World.cell?_of_block (a := ⟨g, 0, none⟩) (hW.block g hgl)]
  simpa [strs] using hc
 ·rw [World.cell?_of_block (a := ⟨g, 1, none⟩) (hW.block g hgl)]
  simpa [strs] using hc1
 ·omega
 ·intro W' hW'
  have hsW' := hW'.size
  have hlow2 : Below W0.heap.size W0 W' := (hlow1.trans (hW.mono (by omega))).trans (hW'.mono (by omega))
  have hnn : (σ.fs.map fun g => g.2.nm).Nodup := by
   have := hgs.gf.nn
   rw [List.map_map] at this
   exact this
  exact (renS (hph.next hW') (fun W2 hk => hE0.below (hlow2.trans (hk.low (fun q hq => hF q (hDF q hq)) (by omega))) hE0.size) hgs.nd hnn hgs.len x y hx hy).mono fun r w' h => h.up hW' hph.sub
end Go.Proofs.YtihgojcfpnhelaaGreatDoor
namespace Go.Proofs.YtihgojcfpnhelaaGreatDoor
open Go.RowKit
inductive Ln where
 | err (vb er : Int) (p : Nat)
 | set (x : By) (p : Pt)
 | del (x : By)
 | ren (x y : By)
 | begin
 | commit
 | cancel
 | undo
 | redo
 | value (x : By)
 | rule (x : By)
 | list
 | order
def Ln.r : Ln → LnR
 | .err vb er p => .err vb er p
 | .set x p => .ok 1 [x] (some p)
 | .del x => .ok 2 [x] none
 | .ren x y => .ok 3 [x, y] none
 | .begin => .ok 4 [] none
 | .commit => .ok 5 [] none
 | .cancel => .ok 6 [] none
 | .undo => .ok 7 [] none
 | .redo => .ok 8 [] none
 | .value x => .ok 9 [x] none
 | .rule x => .ok 10 [x] none
 | .list => .ok 11 [] none
 | .order => .ok 12 [] none
def NmO (x : By) : Prop := x ≠ [] ∧ x.length ≤ 6
def Ln.Ok : Ln → Prop
 | .err _ er _ => er ≠ 0
 | .set x p => NmO x ∧ Shape p ∧ Good p ∧ (txt p).length ≤ 100
 | .del x => NmO x
 | .ren x y => NmO x ∧ NmO y
 | .value x => NmO x
 | .rule x => NmO x
 | _ => True
variable {len n : Nat} {ts : List (By × Nat)} {vb : Int} {rl : Bool} {r r' : LnR} {s : By}
theorem runB_uniq {n n' : Nat} {K : List By} {x x' : Int × Nat} (h : runB len n K ts = some x) (h' : runB len n' K ts = some x') : x = x' := by
 have h1 := runB_mono len n K ts x h n'
 have h2 := runB_mono len n' K ts x' h' n
 rw [Nat.add_comm n' n] at h2
 rw [h1] at h2
 exact Option.some.inj h2
theorem HeadP.uniq (h : HeadP len ts vb n rl r) (h' : HeadP len ts vb n rl r') : r = r' := by
 rcases h with ⟨j, hj, h1, h2, rfl⟩ | ⟨hn, h⟩
 ·rcases h' with ⟨j', hj', h1', h2', rfl⟩ | ⟨hn', _⟩
  ·rcases Nat.lt_trichotomy j j' with h3 | h3 | h3
   ·exact absurd (h1' j h3) h2
   ·rw [h3]
   ·exact absurd (h1 j' h3) h2'
  ·exact absurd (hn' j hj) h2
 ·rcases h' with ⟨j', hj', h1', h2', rfl⟩ | ⟨hn', h'⟩
  ·exact absurd (hn j' hj') h2'
  ·rcases h with ⟨h1, h2, rfl⟩ | ⟨h1, h2, rfl⟩ | ⟨h1, h2, rfl⟩ | ⟨h1, h2, er, p, n0, _, hrun, hc⟩
   ·rcases h' with ⟨g1, g2, rfl⟩ | ⟨g1, g2, rfl⟩ | ⟨g1, g2, rfl⟩ | ⟨g1, g2, _⟩
    ·rfl
    ·exact absurd g2 h2
    ·exact absurd (h1.symm.trans g1) (by decide)
    ·exact absurd (h1.symm.trans g1) (by decide)
   ·rcases h' with ⟨g1, g2, rfl⟩ | ⟨g1, g2, rfl⟩ | ⟨g1, g2, rfl⟩ | ⟨g1, g2, _⟩
    ·exact absurd h2 g2
    ·rfl
    ·exact absurd (h1.symm.trans g1) (by decide)
    ·exact absurd (h1.symm.trans g1) (by decide)
   ·rcases h' with ⟨g1, g2, rfl⟩ | ⟨g1, g2, rfl⟩ | ⟨g1, g2, rfl⟩ | ⟨g1, g2, _⟩
    ·exact absurd (h1.symm.trans g1) (by decide)
    ·exact absurd (h1.symm.trans g1) (by decide)
    ·rfl
    ·exact absurd g2 h2
   ·rcases h' with ⟨g1, g2, rfl⟩ | ⟨g1, g2, rfl⟩ | ⟨g1, g2, rfl⟩ | ⟨g1, g2, er', p', n0', _, hrun', hc'⟩
    ·exact absurd (h1.symm.trans g1) (by decide)
    ·exact absurd (h1.symm.trans g1) (by decide)
    ·exact absurd h2 g2
    ·have he := runB_uniq hrun hrun'
     simp only [Prod.mk.injEq] at he
     obtain ⟨rfl, rfl⟩ := he
     rcases hc with ⟨c1, rfl⟩ | ⟨c1, _, c2, rfl⟩ | ⟨c1, _, t, hD, c2, c3, rfl⟩
     ·rcases hc' with ⟨d1, rfl⟩ | ⟨d1, _, d2, rfl⟩ | ⟨d1, _, t', hD', d2, d3, rfl⟩
      ·rfl
      ·exact absurd d1 c1
      ·exact absurd d1 c1
     ·rcases hc' with ⟨d1, rfl⟩ | ⟨d1, _, d2, rfl⟩ | ⟨d1, _, t', hD', d2, d3, rfl⟩
      ·exact absurd c1 d1
      ·rfl
      ·rw [d2] at d3; exact absurd c2 d3
     ·rcases hc' with ⟨d1, rfl⟩ | ⟨d1, _, d2, rfl⟩ | ⟨d1, _, t', hD', d2, d3, rfl⟩
      ·exact absurd c1 d1
      ·rw [c2] at c3; exact absurd d2 c3
      ·rw [hD.uniq hD']
theorem heads_inj : ∀ k (h : k < 12) j (hj : j < 12), (headsW[k]'h).1 = (headsW[j]'hj).1 → k = j := by decide
theorem LineP.uniq (h : LineP s r) (h' : LineP s r') : r = r' := by
 rcases h with ⟨h1, rfl⟩ | ⟨h1, p, h2, rfl⟩ | ⟨h1, ts, h2, h⟩
 ·rcases h' with ⟨g1, rfl⟩ | ⟨g1, p, g2, rfl⟩ | ⟨g1, ts, g2, h'⟩
  ·rfl
  ·omega
  ·omega
 ·rcases h' with ⟨g1, rfl⟩ | ⟨g1, p', g2, rfl⟩ | ⟨g1, ts, g2, h'⟩
  ·omega
  ·rw [h2] at g2; cases g2; rfl
  ·rw [g2] at h2; cases h2
 ·rcases h' with ⟨g1, rfl⟩ | ⟨g1, p', g2, rfl⟩ | ⟨g1, ts', g2, h'⟩
  ·omega
  ·rw [h2] at g2; cases g2
  ·rw [h2] at g2
   simp only [Prod.mk.injEq, and_true] at g2
   subst g2
   rcases h with ⟨k, hk, e, h⟩ | ⟨h, rfl⟩
   ·rcases h' with ⟨k', hk', e', h'⟩ | ⟨h', rfl⟩
    ·obtain rfl := heads_inj k hk k' hk' (e.trans e'.symm)
     exact h.uniq h'
    ·exact absurd e (h' k hk)
   ·rcases h' with ⟨k', hk', e', h'⟩ | ⟨h', rfl⟩
    ·exact absurd e' (h k' hk')
    ·rfl
end Go.Proofs.YtihgojcfpnhelaaGreatDoor
namespace Go.Proofs.YtihgojcfpnhelaaGreatDoor
open Go.RowKit
def IsLn (s : By) (l : Ln) : Prop := l.Ok ∧ ∀ r, LineP s r → r = l.r
theorem isLn {s : By} {l : Ln} (hok : l.Ok) (h : LineP s l.r) : IsLn s l := ⟨hok, fun _ hr => hr.uniq h⟩
def dgt (i : Nat) : UInt8 := UInt8.ofNat (48 + i)
def fN (i : Nat) : By := [102, dgt i]
def dg (i : Nat) : By := [dgt i]
theorem fN_facts : ∀ i, i < 10 → kindB (fN i) = 2 ∧ nmB (fN i) = fN i ∧ nuB (fN i) = 0 ∧ headD (fN i) = false ∧ nameB (fN i) = true ∧ isD (dgt i) = true := by decide
theorem dg_facts : ∀ i, i < 10 → nmB (dg i) = [] ∧ nuB (dg i) = i ∧ headD (dg i) = true ∧ Lib.decDigits i = dg i := by decide +kernel
theorem fN_ok (i : Nat) (h : i < 10) : NmOk (fN i) := by
 obtain ⟨h1, h2, _, _, _, h6⟩ := fN_facts i h
 exact ⟨GI.ti (Or.inr (Or.inr (Or.inr (Or.inr ⟨_, rfl, h6⟩)))) (by simp [fN]), h1, h2⟩
theorem fN_o (i : Nat) : NmO (fN i) := ⟨by simp [fN], by simp [fN]⟩
theorem isLn_set {nm rest : By} {rts : List (By × Nat)} {p : Pt} (h : NmOk nm) (ho : NmO nm) (hl : rest.length + nm.length ≤ 113) (ht : toks (rest.length + nm.length + 1) rest (4 + nm.length + 3) = (rts, none)) (hD : Der rts 1 0 rts.length p) (hop : opn p ≤ 6) (hx : (txt p).length ≤ 100) : IsLn (setN nm rest) (.set nm p) := by
 have hok : OkT rts := by
  have := (okT_of (setN nm rest)).drop 3
  rw [toks_setN nm h rest, ht] at this
  exact this
 exact ⟨⟨ho, hD.shape, hD.good hok, hx⟩, fun r hr => line_setN nm h rest rts p hl ht hD hop hx r hr⟩
theorem der1 (x : By) (k q : Nat) (hc : Cls x k) (hk : k = 1 ∨ k = 2 ∨ k = 7 ∨ k = 8) : Der [(x, q)] 1 0 1 (.atom k (nmB x) (nuB x)) :=
 (Der.atom (ts := [(x, q)]) 0 k (by simp) hc hk).at6 1 (by omega) (by omega)
theorem cls_dg (i : Nat) (h : i < 10) : Cls (dg i) 1 := Or.inl ⟨(dg_facts i h).2.2.1, rfl⟩
def nmP (i : Nat) : Pt := .atom 2 (fN i) 0
def dgP (i : Nat) : Pt := .atom 1 [] i
theorem atom_dg (i : Nat) (h : i < 10) : Pt.atom 1 (nmB (dg i)) (nuB (dg i)) = dgP i := by
 obtain ⟨h2, h3, _⟩ := dg_facts i h
 rw [h2, h3]
 rfl
theorem txt_small : ∀ j, j < 10 → (txt (dgP j)).length ≤ 100 ∧ (txt (.bin 12 (nmP j) (dgP 1))).length ≤ 100 ∧ (txt (.bin 15 (nmP j) (dgP 2))).length ≤ 100 ∧ (txt (.bin 13 (dgP 1) (nmP j))).length ≤ 100 := by decide +kernel
theorem isLn_word (s : By) (k : Nat) (hk : k < 12) (hs : (headsW[k]'hk).1 = s) (hn : (headsW[k]'hk).2.2.1 = 0) (hf : (headsW[k]'hk).2.2.2 = false) (ht : toksOf s = ([(s, 0)], none)) (hl : s.length ≤ 120) (hnm : nmB s = s) (l : Ln) (hok : l.Ok) (hr : l.r = .ok (headsW[k]'hk).2.1 [] none) : IsLn s l := by
 refine isLn hok (Or.inr (Or.inr ⟨hl, _, ht, Or.inl ⟨k, hk, ?_, ?_⟩⟩))
 ·rw [hs]
  simp [nT, tAt, hnm]
 ·rw [hn, hf, hr]
  exact Or.inr ⟨fun i hi => by omega, Or.inr (Or.inl ⟨rfl, by simp [kN], rfl⟩)⟩
theorem isLn_list : IsLn [108, 105, 115, 116] .list := isLn_word _ 10 (by decide) (by decide) (by decide) (by decide) (by decide) (by decide) (by decide) _ trivial rfl
theorem isLn_order : IsLn [111, 114, 100, 101, 114] .order := isLn_word _ 11 (by decide) (by decide) (by decide) (by decide) (by decide) (by decide) (by decide) _ trivial rfl
theorem isLn_begin : IsLn [98, 101, 103, 105, 110] .begin := isLn_word _ 3 (by decide) (by decide) (by decide) (by decide) (by decide) (by decide) (by decide) _ trivial rfl
theorem isLn_commit : IsLn [99, 111, 109, 109, 105, 116] .commit := isLn_word _ 4 (by decide) (by decide) (by decide) (by decide) (by decide) (by decide) (by decide) _ trivial rfl
theorem isLn_cancel : IsLn [99, 97, 110, 99, 101, 108] .cancel := isLn_word _ 5 (by decide) (by decide) (by decide) (by decide) (by decide) (by decide) (by decide) _ trivial rfl
theorem isLn_undo : IsLn [117, 110, 100, 111] .undo := isLn_word _ 6 (by decide) (by decide) (by decide) (by decide) (by decide) (by decide) (by decide) _ trivial rfl
theorem isLn_redo : IsLn [114, 101, 100, 111] .redo := isLn_word _ 7 (by decide) (by decide) (by decide) (by decide) (by decide) (by decide) (by decide) _ trivial rfl
theorem toks_wordN (c : UInt8) (wr nm : By) (h : NmOk nm) (hc : c ≠ 32) (hrl : ∀ rest, rowLen (c :: wr ++ (32 :: rest)) = (c :: wr).length) (hok : tokOK (c :: wr) = true) : toksOf (c :: wr ++ (32 :: nm)) = ([(c :: wr, 0), (nm, (c :: wr).length + 1)], none) := by
 have hr2 := rowLen_app nm [] h.ti fun _ => Or.inl rfl
 obtain ⟨c', r', rfl, hc', hok', _⟩ := h.ti
 have e0 : toksOf (c :: wr ++ (32 :: (c' :: r'))) = toks ((wr.length + (r'.length + 1) + 1) + 1) (c :: wr ++ (32 :: (c' :: r'))) 0 := by
  unfold toksOf
  rw [show (c :: wr ++ (32 :: (c' :: r'))).length = (wr.length + (r'.length + 1) + 1) + 1 by simp; omega]
 have e1 : (c' :: r' : By) = c' :: r' ++ [] := by simp
 rw [e0, toks_to (wr.length + (r'.length + 1) + 1) c wr (32 :: (c' :: r')) 0 hc (hrl _) hok, toks_sp, show wr.length + (r'.length + 1) = (wr.length + r'.length) + 1 by omega]
 rw [e1, toks_to (wr.length + r'.length) c' r' [] _ hc' hr2 hok', toks_nil]
 simp
theorem isLn_one (c : UInt8) (wr nm : By) (h : NmOk nm) (ho : NmO nm) (hc : c ≠ 32) (hrl : ∀ rest, rowLen (c :: wr ++ (32 :: rest)) = (c :: wr).length) (hok : tokOK (c :: wr) = true) (k : Nat) (hk : k < 12) (hs : (headsW[k]'hk).1 = c :: wr) (hn : (headsW[k]'hk).2.2.1 = 1) (hf : (headsW[k]'hk).2.2.2 = false) (hnm : nmB (c :: wr) = c :: wr) (hw : wr.length ≤ 100) (l : Ln) (hlo : l.Ok) (hr : l.r = .ok (headsW[k]'hk).2.1 [nm] none) : IsLn (c :: wr ++ (32 :: nm)) l := by
 refine isLn hlo (Or.inr (Or.inr ⟨?_, _, toks_wordN c wr nm h hc hrl hok, Or.inl ⟨k, hk, ?_, ?_⟩⟩))
 ·have := ho.2
  simp
  omega
 ·rw [hs]
  simp [nT, tAt, hnm]
 ·rw [hn, hf, hr]
  refine Or.inr ⟨fun i hi => ?_, Or.inr (Or.inl ⟨rfl, by simp [kN], ?_⟩)⟩
  ·obtain rfl : i = 0 := by omega
   simp [kN, tAt, h.k2]
  ·simp [namesT, nT, tAt, h.nmb]
theorem isLn_value (nm : By) (h : NmOk nm) (ho : NmO nm) : IsLn (118 :: 97 :: 108 :: 117 :: 101 :: 32 :: nm) (.value nm) :=
 isLn_one 118 [97, 108, 117, 101] nm h ho (by decide) (fun rest => by simp [rowLen, show isL 118 = true from by decide, show isLD 97 = true from by decide, show isLD 108 = true from by decide, show isLD 117 = true from by decide, show isLD 101 = true from by decide, show isLD 32 = false from by decide]) (by decide) 8 (by decide) rfl rfl rfl (by decide) (by decide) _ ho rfl
theorem isLn_delete (nm : By) (h : NmOk nm) (ho : NmO nm) : IsLn (100 :: 101 :: 108 :: 101 :: 116 :: 101 :: 32 :: nm) (.del nm) :=
 isLn_one 100 [101, 108, 101, 116, 101] nm h ho (by decide) (fun rest => by simp [rowLen, show isL 100 = true from by decide, show isLD 108 = true from by decide, show isLD 116 = true from by decide, show isLD 101 = true from by decide, show isLD 32 = false from by decide]) (by decide) 1 (by decide) rfl rfl rfl (by decide) (by decide) _ ho rfl
end Go.Proofs.YtihgojcfpnhelaaGreatDoor
namespace Go.Proofs.YtihgojcfpnhelaaGreatDoor
open Go.RowKit
theorem fewB_fN (r : By) : (fewB r).1 = fN (nextB r 8).1 := by
 have h := nextB_lt r 8 (by decide)
 have := (dg_facts (nextB r 8).1 (by omega)).2.2.2
 simp only [fewB, numB, this]
 rfl
theorem ri_reads {s : By} {m : Nat} (h : RI 1 s m) : ∃ p, txt p = s ∧ opn p ≤ m ∧ MF p ∧ ∀ f k, s.length ≤ f → ∃ ts, toks f s k = (ts, none) ∧ Der ts 1 0 ts.length p := by
 obtain ⟨its, p, rfl, hg, ho, hD, ht, hop, hm⟩ := h
 refine ⟨p, ht, hop, hm, fun f k hf => ⟨_, toks_items its f k (ho [] (Or.inl rfl)) hf, ?_⟩⟩
 have hlen : (tokI its k).length = (tks its).length := by rw [← tokI_fst its k, List.length_map]
 rw [hlen]
 have := hD.like (ts' := tokI its k) 0 (fun i _ _ => ?_) (by omega)
 ·exact this
 ·rw [tAt_z0, tAt_fst, tokI_fst]
  exact Or.inl rfl
noncomputable def rlP (d : Nat) (r : By) : Pt := Classical.choose (ri_reads (ruleI d r))
theorem rlP_facts (d : Nat) (r : By) : txt (rlP d r) = (ruleB d r).1 ∧ opn (rlP d r) ≤ 2 * d ∧ MF (rlP d r) ∧ ∀ f k, (ruleB d r).1.length ≤ f → ∃ ts, toks f (ruleB d r).1 k = (ts, none) ∧ Der ts 1 0 ts.length (rlP d r) := by
 exact Classical.choose_spec (ri_reads (ruleI d r))
noncomputable def lnB (r : By) : Ln :=
 if (nextB r 8).1 = 0 then .del (fewB (nextB r 8).2).1
 else if (nextB r 8).1 = 1 then .ren (fewB (nextB r 8).2).1 (fewB (fewB (nextB r 8).2).2).1
 else .set (fewB (nextB r 8).2).1 (rlP (nextB (fewB (nextB r 8).2).2 3).1 (nextB (fewB (nextB r 8).2).2 3).2)
theorem toks_ren (x y : By) (hx : NmOk x) (hy : NmOk y) : toksOf ([114, 101, 110, 97, 109, 101, 32] ++ x ++ [32] ++ y) = ([([114, 101, 110, 97, 109, 101], 0), (x, 7), (y, 7 + x.length + 1)], none) := by
 have r1 := rowLen_app x (32 :: y) hx.ti fun _ => Or.inr ⟨32, _, rfl, by decide⟩
 have r2 := rowLen_app y [] hy.ti fun _ => Or.inl rfl
 obtain ⟨c, r, rfl, hc, hok, _⟩ := hx.ti
 obtain ⟨c', r', rfl, hc', hok', _⟩ := hy.ti
 have e0 : toksOf ([114, 101, 110, 97, 109, 101, 32] ++ (c :: r) ++ [32] ++ (c' :: r')) = toks (r.length + r'.length + 9 + 1) ([114, 101, 110, 97, 109, 101] ++ (32 :: ((c :: r) ++ (32 :: ((c' :: r') ++ []))))) 0 := by
  unfold toksOf
  rw [show ([114, 101, 110, 97, 109, 101, 32] ++ (c :: r) ++ [32] ++ (c' :: r') : By).length = r.length + r'.length + 9 + 1 by simp; omega]
  simp
 rw [e0, toks_to (r.length + r'.length + 9) 114 [101, 110, 97, 109, 101] _ 0 (by decide) (by simp [rowLen, show isL 114 = true from by decide, show isLD 101 = true from by decide, show isLD 110 = true from by decide, show isLD 97 = true from by decide, show isLD 109 = true from by decide, show isLD 32 = false from by decide]) (by decide)]
 rw [show r.length + r'.length + 9 = r.length + r'.length + 8 + 1 by omega, toks_sp, show r.length + r'.length + 8 = r.length + r'.length + 7 + 1 by omega]
 have r1' : rowLen (c :: r ++ 32 :: ((c' :: r') ++ [])) = (c :: r).length := by simpa using r1
 rw [toks_to (r.length + r'.length + 7) c r _ _ hc r1' hok, show r.length + r'.length + 7 = r.length + r'.length + 6 + 1 by omega, toks_sp, show r.length + r'.length + 6 = r.length + r'.length + 5 + 1 by omega, toks_to (r.length + r'.length + 5) c' r' [] _ hc' r2 hok', toks_nil]
 simp
theorem isLn_ren (x y : By) (hx : NmOk x) (hy : NmOk y) (ox : NmO x) (oy : NmO y) : IsLn ([114, 101, 110, 97, 109, 101, 32] ++ x ++ [32] ++ y) (.ren x y) := by
 refine isLn ⟨ox, oy⟩ (Or.inr (Or.inr ⟨?_, _, toks_ren x y hx hy, Or.inl ⟨2, by decide, ?_, ?_⟩⟩))
 ·have := ox.2
  have := oy.2
  simp
  omega
 ·show ([114, 101, 110, 97, 109, 101] : By) = _
  simp [nT, tAt]
  decide
 ·refine Or.inr ⟨fun i hi => ?_, Or.inr (Or.inl ⟨rfl, by simp [kN, headsW], ?_⟩)⟩
  ·have hi2 : i < 2 := hi
   rcases (show i = 0 ∨ i = 1 by omega) with rfl | rfl
   ·simp [kN, tAt, hx.k2]
   ·simp [kN, tAt, hy.k2]
  ·show LnR.ok 3 [x, y] none = _
   have : namesT [([114, 101, 110, 97, 109, 101], 0), (x, 7), (y, 7 + x.length + 1)] 1 2 = [x, y] := by simp [namesT, nT, tAt, hx.nmb, hy.nmb, List.range_succ]
   rw [← this]
   rfl
theorem isLn_line (r : By) : IsLn (lineB r) (lnB r) := by
 unfold lineB lnB
 have n1 := nextB_lt (nextB r 8).2 8 (by decide)
 have n2 := nextB_lt (fewB (nextB r 8).2).2 8 (by decide)
 rw [fewB_fN (nextB r 8).2, fewB_fN (fewB (nextB r 8).2).2]
 split
 ·exact isLn_delete _ (fN_ok _ (by omega)) (fN_o _)
 ·split
  ·exact isLn_ren _ _ (fN_ok _ (by omega)) (fN_ok _ (by omega)) (fN_o _) (fN_o _)
  ·have n3 := nextB_lt (fewB (nextB r 8).2).2 3 (by decide)
   obtain ⟨h1, h2, _, h4⟩ := rlP_facts (nextB (fewB (nextB r 8).2).2 3).1 (nextB (fewB (nextB r 8).2).2 3).2
   have hl : (ruleB (nextB (fewB (nextB r 8).2).2 3).1 (nextB (fewB (nextB r 8).2).2 3).2).1.length ≤ 53 := by
    have := ruleB_len (nextB (fewB (nextB r 8).2).2 3).1 (nextB (fewB (nextB r 8).2).2 3).2
    have : 2 ^ (nextB (fewB (nextB r 8).2).2 3).1 ≤ 2 ^ 2 := Nat.pow_le_pow_right (by decide) (by omega)
    omega
   obtain ⟨ts, ht, hD⟩ := h4 ((ruleB (nextB (fewB (nextB r 8).2).2 3).1 (nextB (fewB (nextB r 8).2).2 3).2).1.length + (fN (nextB (nextB r 8).2 8).1).length + 1) (4 + (fN (nextB (nextB r 8).2 8).1).length + 3) (by omega)
   have := isLn_set (fN_ok _ (by omega)) (fN_o _) (by simp [fN]; omega) ht hD (by omega) (by rw [h1]; omega)
   simpa [setN] using this
end Go.Proofs.YtihgojcfpnhelaaGreatDoor
namespace Go.Proofs
open Go.Shelf
def Tryz.lays106_ren : Go.Shelf.Ren := ⟨fun | 106 => 141 | 213 => 172 | 265 => 204 | n => n, fun | 3 => 3 | 9 => 9 | n => n, fun | n => n⟩
theorem Tryz.lays106 : Go.Proofs.Lays.n106 Tryz.prog Tryz.lays106_ren := {
 mixed := by kernel_rfl
 f106 := Tryz.func141.trans (congrArg some (by kernel_rfl))
 f213 := Tryz.func172.trans (congrArg some (by kernel_rfl))
 f265 := Tryz.func204.trans (congrArg some (by kernel_rfl))
 t3 := Tryz.underlying3
 a3 := Tryz.isAgg3
 z3 := Tryz.sizeOf3
 v3 := Tryz.zeroValue3
 t9 := Tryz.underlying9
 a9 := Tryz.isAgg9
 z9 := Tryz.sizeOf9
 v9 := Tryz.zeroValue9 }
def Tryz.lays125_ren : Go.Shelf.Ren := ⟨fun | 125 => 203 | 128 => 231 | 129 => 174 | n => n, fun | 3 => 3 | 4 => 4 | 5 => 5 | 9 => 9 | 46 => 267 | 51 => 265 | 53 => 187 | n => n, fun | n => n⟩
theorem Tryz.lays125 : Go.Proofs.Lays.n125 Tryz.prog Tryz.lays125_ren := {
 mixed := by kernel_rfl
 f125 := Tryz.func203.trans (congrArg some (by kernel_rfl))
 f128 := Tryz.func231.trans (congrArg some (by kernel_rfl))
 f129 := Tryz.func174.trans (congrArg some (by kernel_rfl))
 t3 := Tryz.underlying3
 a3 := Tryz.isAgg3
 z3 := Tryz.sizeOf3
 v3 := Tryz.zeroValue3
 t4 := Tryz.underlying4
 a4 := Tryz.isAgg4
 z4 := Tryz.sizeOf4
 v4 := Tryz.zeroValue4
 t5 := Tryz.underlying5
 a5 := Tryz.isAgg5
 z5 := Tryz.sizeOf5
 v5 := Tryz.zeroValue5
 t9 := Tryz.underlying9
 a9 := Tryz.isAgg9
 z9 := Tryz.sizeOf9
 v9 := Tryz.zeroValue9
 t46 := Tryz.underlying267
 a46 := Tryz.isAgg267
 z46 := Tryz.sizeOf267
 v46 := Tryz.zeroValue267
 t51 := Tryz.underlying265
 a51 := Tryz.isAgg265
 z51 := Tryz.sizeOf265
 v51 := Tryz.zeroValue265
 t53 := Tryz.underlying187
 a53 := Tryz.isAgg187
 z53 := Tryz.sizeOf187
 v53 := Tryz.zeroValue187 }
def Tryz.lays20_ren : Go.Shelf.Ren := ⟨fun | 20 => 223 | n => n, fun | 0 => 0 | 3 => 3 | 4 => 4 | 22 => 101 | 24 => 220 | 25 => 229 | n => n, fun | n => n⟩
theorem Tryz.lays20 : Go.Proofs.SlLaysF.n20 Tryz.prog Tryz.lays20_ren := {
 mixed := by kernel_rfl
 f20 := ⟨Tryz.f223.name, by kernel_rfl, Tryz.func223.trans (congrArg some (by kernel_rfl))⟩
 t0 := Tryz.underlying0
 a0 := Tryz.isAgg0
 z0 := Tryz.sizeOf0
 v0 := Tryz.zeroValue0
 t3 := Tryz.underlying3
 a3 := Tryz.isAgg3
 z3 := Tryz.sizeOf3
 v3 := Tryz.zeroValue3
 t4 := Tryz.underlying4
 a4 := Tryz.isAgg4
 z4 := Tryz.sizeOf4
 v4 := Tryz.zeroValue4
 t22 := Tryz.underlying101
 a22 := Tryz.isAgg101
 z22 := Tryz.sizeOf101
 v22 := Tryz.zeroValue101
 a24 := Tryz.isAgg220
 z24 := Tryz.sizeOf220
 t25 := Tryz.underlying229
 a25 := Tryz.isAgg229
 z25 := Tryz.sizeOf229
 v25 := Tryz.zeroValue229 }
end Go.Proofs
namespace Go.Proofs.YtihgojcfpnhelaaGreatDoor
open Go.RowKit Go.Shelf
attribute [local go_sem] Oper.semAt_some
def upL (n : Nat) : (k : Nat) → k ≤ n → List { i : Nat // i < n }
 | 0, _ => []
 | k + 1, h => upL n k (by omega) ++ [⟨k, by omega⟩]
theorem upL_length (n : Nat) : ∀ k h, (upL n k h).length = k
 | 0, _ => rfl
 | k + 1, h => by simp [upL, upL_length n k]
theorem wrap_up (n j : Nat) (hn : n ≤ maxLen) (hj : j < n) : wrap64 ((j : Int) + 1) = ((j + 1 : Nat) : Int) := by
 unfold maxLen at hn
 unfold wrap64
 omega
theorem meas_up (n j : Nat) (hj : j < n) : ((n : Int) - ((j + 1 : Nat) : Int)).toNat < ((n : Int) - (j : Int)).toNat := by omega
theorem values1 (m : Nat) (hm : 1 ≤ m) (l Bs b off n c : Nat) (vs : Nat → Value) (T : Nat → Prop) (hn : n ≤ maxLen) (hT1 : T Bs) (hT2 : T b) (J Jx : List { i : Nat // i < n } → World → Prop)
  (hY : ∀ pre (x : { i : Nat // i < n }) W, J pre W → pre.length < n → YieldAt Fence.wide (m - 1) Tryz.prog l #[vs x.1] W fun e W' =>
   (e = .returned (.bool true) ∧ J (pre ++ [x]) W' ∧ KpB T W W') ∨ (e = .returned (.bool false) ∧ Jx (pre ++ [x]) W'))
  (W : World) (hBs : W.cell? ⟨Bs, 0, none⟩ = some (.slice (some ⟨b, off, none⟩) n c)) (hc : ∀ j, j < n → W.cell? ⟨b, off + j, none⟩ = some (vs j)) (h0 : J [] W) :
  CallsIn Fence.wide m Tryz.prog 171 #[.func (.yield l) #[] #[], .pointer (some ⟨Bs, 0, none⟩)] W fun e W' => (∃ v, e = .returned v) ∧
   ((∃ ys, ys = upL n n (Nat.le_refl _) ∧ J ys W') ∨ (∃ pre, True ∧ Jx pre W')) := by
 refine callsIn_of_wp Tryz.func171 rfl trivial ?_ rfl
 simp only [Tryz.ntmps171, List.size_toArray, List.length_cons, List.length_nil, Nat.reduceAdd, Nat.reduceSub, Array.replicate_succ, Array.replicate_zero, List.push_toArray, List.append_toArray, List.nil_append, List.cons_append]
 gi_wp2
 gi_loopw [7] (fun i wr => ∃ (j : Nat) (hj : j ≤ n), i = .int .i64 (j : Int) ∧ J (upL n j hj) wr ∧ KpB T W wr) (fun i _ => ((n : Int) - intOf i).toNat)
 case atStart => exact ⟨0, by omega, rfl, h0, Nat.le_refl _, fun _ _ => rfl⟩
 case round =>
  obtain ⟨j, hj, rfl, hJs, hsz, hkp⟩ := hrel
  by_cases hjn : j < n
  ·obtain ⟨fn, tmps, assign, body, hy, hR⟩ := hY _ ⟨j, hjn⟩ wr hJs (by rw [upL_length]; omega)
   dsimp only at hy
   have hcx : wr.cell? ⟨b, off + j, none⟩ = some (vs j) := (World.cell?_of_block (a := ⟨b, off + j, none⟩) (hkp b hT2)).trans (hc _ (by omega))
   have hil : (j : Int) < (n : Int) := by omega
   have hwj : wrap64 ((j : Int) + 1) = ((j + 1 : Nat) : Int) := wrap_up n j hn hjn
   gi_wp2
   refine hR.mono ?_
   rintro e W3 (⟨rfl, hJ3, hk3⟩ | ⟨rfl, hJx3⟩)
   ·gi_wp2
    go_roundw
    case rel =>
     exact ⟨j + 1, hjn, by rw [hwj], hJ3, Nat.le_trans hsz hk3.1, fun q hq => (hk3.2 q hq).trans (hkp q hq)⟩
    case measure =>
     rw [hwj]
     exact meas_up n j hjn
   ·gi_wp2
    refine bodyPost_ret (results_none rfl _ _ _) rfl ?_
    exact ⟨⟨_, rfl⟩, .inr ⟨_, trivial, hJx3⟩⟩
  ·obtain rfl : j = n := by omega
   gi_wp2
   go_end0
   exact ⟨⟨_, rfl⟩, .inl ⟨_, rfl, hJs⟩⟩
theorem values0 (m : Nat) (l Bs c : Nat) (a : Option Addr) (J : List { i : Nat // i < 0 } → World → Prop) (W : World) (hBs : W.cell? ⟨Bs, 0, none⟩ = some (.slice a 0 c)) (h0 : J [] W) :
  CallsIn Fence.wide m Tryz.prog 171 #[.func (.yield l) #[] #[], .pointer (some ⟨Bs, 0, none⟩)] W fun e W' => (∃ v, e = .returned v) ∧ J [] W' := by
 refine callsIn_of_wp Tryz.func171 rfl trivial ?_ rfl
 simp only [Tryz.ntmps171, List.size_toArray, List.length_cons, List.length_nil, Nat.reduceAdd, Nat.reduceSub, Array.replicate_succ, Array.replicate_zero, List.push_toArray, List.append_toArray, List.nil_append, List.cons_append]
 gi_wp2
 gi_loopw [7] (fun i wr => i = .int .i64 0 ∧ J [] wr) (fun _ _ => 0)
 case atStart => exact ⟨rfl, h0⟩
 case round =>
  obtain ⟨rfl, hJs⟩ := hrel
  gi_wp2
  go_end0
  exact ⟨⟨_, rfl⟩, hJs⟩
theorem valuesC (a : Option Addr) (n c : Nat) (w : World) :
  Calls Tryz.prog 139 #[.slice a n c] w fun e w' => e = .returned (.func (.func 171) #[] #[.pointer (some ⟨w.heap.size, 0, none⟩)]) ∧ w' = w.alloc (.cells #[.slice a n c] 101) := by
 go_enter Tryz.func139, Tryz.ntmps139
 go_wp2
 go_ret
 exact ⟨rfl, rfl⟩
theorem values_stops (m : Nat) (hm : 1 ≤ m) (Bs n c : Nat) (a : Option Addr) (vs : Nat → Value) (T : Nat → Prop) (hn : n ≤ maxLen) (hT1 : T Bs) (w : World) (hT : ∀ q, T q → q < w.heap.size) (hBs : w.cell? ⟨Bs, 0, none⟩ = some (.slice a n c)) (ha : n = 0 ∨ ∃ h o, a = some ⟨h, o, none⟩ ∧ T h) (hc : ∀ j, j < n → ∀ h o, a = some ⟨h, o, none⟩ → w.cell? ⟨h, o + j, none⟩ = some (vs j)) :
  SeqStopsK Fence.wide m Tryz.prog 171 #[.pointer (some ⟨Bs, 0, none⟩)] (fun x : { i : Nat // i < n } => #[vs x.1]) (KpB T) (fun ys => ys = upL n n (Nat.le_refl _)) (fun _ => True) n w := fun l J Jx W hW _ _ hY h0 => by
 have hBs' := (hW.cell (p := ⟨Bs, 0, none⟩) (hT _ hT1)).trans hBs
 rcases ha with rfl | ⟨h, o, rfl, hh⟩
 ·exact (values0 m l Bs c a J W hBs' h0).mono fun e W' ⟨he, hj⟩ => ⟨he, .inl ⟨_, rfl, hj⟩⟩
 ·exact values1 m hm l Bs h o n c vs T hn hT1 hh J Jx hY W hBs' (fun j hj => (hW.cell (p := ⟨h, o + j, none⟩) (hT _ hh)).trans (hc j hj h o rfl)) h0
end Go.Proofs.YtihgojcfpnhelaaGreatDoor
namespace Go.Proofs.YtihgojcfpnhelaaGreatDoor
open Go.RowKit Go.Shelf
attribute [local go_sem] Oper.semAt_some
def AppI (w : World) (n : Nat) (vs : Nat → Value) (pre : List { i : Nat // i < n }) (W : World) : Prop :=
 ∃ v, Boxed W w.heap.size 101 v ∧ W.ownsRow w.heap.size 220 1 v pre.length (pre.map fun x => vs x.1) ∧ Below w.heap.size w W
theorem appI_own {w : World} {n B : Nat} {vs : Nat → Value} (hw : w.heap.size ≤ B) : OwnFrom B (AppI w n vs) := by
 rintro pre W W' row ⟨v, h1, h2, h3⟩ hg hr
 refine ⟨v, h1.kept hg fun e' => ?_, ?_, ⟨hg.os.trans h3.os, hg.tape.trans h3.tape, hg.output.trans h3.output, Nat.le_trans h3.size hg.size, fun q hq => ?_⟩⟩
 ·obtain ⟨_, o, h4, h5⟩ := hr _ e'.symm
  rw [show W.heap[w.heap.size]? = _ from h1] at h4
  cases h4
  simp [Obj.isCells] at h5
 ·refine own_ke h2 (P := fun q => some q = row) ⟨hg.os, hg.tape, hg.output, hg.size, fun q hq hn => hg.block q hq hn⟩ fun q hq e' => ?_
  rcases h2.2 with ⟨h3, _⟩ | ⟨g, cap, cur, h3, _, h4, _⟩
  ·rw [h3] at hq; simp [Value.ownBlock] at hq
  ·rw [h3] at hq
   simp [Value.ownBlock] at hq
   subst hq
   obtain ⟨_, o, h5, h6⟩ := hr g e'.symm
   rw [h4] at h5
   cases h5
   simp [Obj.isCells] at h6
 ·rw [hg.block q (Nat.lt_of_lt_of_le hq h3.size) fun e' => by have := (hr q e'.symm).1; omega]
  exact h3.block q hq
theorem upL_map (n : Nat) (f : Nat → Value) : (upL n n (Nat.le_refl _)).map (fun x => f x.1) = (List.range n).map f := by
 have : ∀ k h, (upL n k h).map (fun x => f x.1) = (List.range k).map f := by
  intro k
  induction k with
  | zero => intro _; rfl
  | succ k ih => intro h; rw [upL, List.map_append, ih, List.range_succ, List.map_append]; rfl
 exact this n _
theorem appendSeq (Bs n c : Nat) (a : Option Addr) (ps : Nat → Nat) (w : World) (hn : n ≤ 1000) (hBl : Bs < w.heap.size) (hBs : w.cell? ⟨Bs, 0, none⟩ = some (.slice a n c)) (ha : n = 0 ∨ ∃ h o, a = some ⟨h, o, none⟩ ∧ h < w.heap.size) (hc : ∀ j, j < n → ∀ h o, a = some ⟨h, o, none⟩ → w.cell? ⟨h, o + j, none⟩ = some (.pointer (some ⟨ps j, 0, none⟩))) :
  Calls Tryz.prog 201 #[.slice none 0 0, .func (.func 171) #[] #[.pointer (some ⟨Bs, 0, none⟩)]] w fun r w' => ∃ an ln cn, r = .returned (.slice an ln cn) ∧ w'.ownsRow w.heap.size 220 1 (.slice an ln cn) n ((List.range n).map fun j => .pointer (some ⟨ps j, 0, none⟩)) ∧ Below w.heap.size w w' := by
 have hnm : n ≤ maxLen := by unfold maxLen; omega
 have HC := toHid hc
 have HA := toHid ha
 clear hc ha
 refine (callsIn_wide (n := 3)).1 ?_
 refine callsIn_of_wp_marks Tryz.func201 rfl trivial ?_ rfl
 simp only [Tryz.ntmps201, List.size_toArray, List.length_cons, List.length_nil, Nat.reduceAdd, Nat.reduceSub, Array.replicate_succ, Array.replicate_zero, List.push_toArray, List.append_toArray, List.nil_append, List.cons_append]
 gi_wp2
 have hb1 : Below w.heap.size w (w.alloc (.cells #[.slice none 0 0] 101)) := (Below.refl _ _).alloc (Nat.le_refl _) _
 have bO := Boxed.new w 101 (.slice none 0 0)
 refine wpIn_rangeFunc_ownG rfl (by omega) (gf := 171) (lb := #[.pointer (some ⟨Bs, 0, none⟩)]) rfl trivial (enters_of Tryz.func171 (by kernel_rfl) rfl)
  (values_stops _ (by omega) Bs n c a (fun i => .pointer (some ⟨ps i, 0, none⟩)) (fun q => q < w.heap.size) hnm hBl _ (fun q hq => by simp; omega) ((hb1.cell (p := ⟨Bs, 0, none⟩) hBl).trans hBs) HA.out (fun i hi h o e' => by
   rcases HA.out with h0 | ⟨h', o', h1, h2⟩
   ·omega
   ·rw [e'] at h1
    cases h1
    exact (hb1.cell (p := ⟨h, o + i, none⟩) h2).trans (HC.out i hi h o e')))
  (fun h1 h2 => ⟨Nat.le_trans h1.1 h2.1, fun q hq => (h2.2 q hq).trans (h1.2 q hq)⟩)
  (fun W l o o' hl ho _ _ => ⟨by simp, fun q hq => World.putObj_heap_other (fun e' => by simp at hl; omega)⟩)
  (Below.refl _ _) (fun _ => rfl) (AppI w n (fun i => .pointer (some ⟨ps i, 0, none⟩))) (fun _ _ _ => False)
  (appI_own (by simp)) (fun _ _ _ _ _ hs _ _ => hs)
  ⟨.slice none 0 0, bO, World.ownsRow_nil _ _ _ _, hb1⟩
  (fun x => { tmps := #[.slice none 0 0, .func (.func 171) #[] #[.pointer (some ⟨Bs, 0, none⟩)], .pointer (some ⟨w.heap.size, 0, none⟩), undef, .slice none 0 0, .pointer (some ⟨ps x.1, 0, none⟩), .func (.func 171) #[] #[.pointer (some ⟨Bs, 0, none⟩)], .pointer (some ⟨ps x.1, 0, none⟩), undef, undef, undef, undef, undef], defers := [] }) ?assign ?body ?done ?stop
 case assign =>
  intro l x W K hK
  gi_wp2
  exact hK
 case body =>
  rintro l pre x W ⟨v, hbox, hown, hbel⟩ hlt
  obtain ⟨i1, gi, gz0, gz1, gz2⟩ := info_parts infoPtr
  obtain ⟨an, ln, cn, rfl⟩ := own_slice hown
  have hcb := hbox.cell
  have hwW := hbel.size
  have hpl : pre.length < n := hlt
  have hno : (Value.slice an ln cn).ownBlock ≠ some w.heap.size := fun h1 => hbox.not_row (by decide) hown h1.symm
  have hwB : w.heap.size < W.heap.size := hbox.lt
  have HBX := toHid hbox
  have HOW := toHid hown
  have HBL := toHid hbel
  clear hbox hown hbel hlt
  gi_wp2_with (first | (gi_at_builtin; refine wpListIn_append_own _ rfl _ _ 101 rfl w.heap.size 220 i1 (.pointer none) 1 8 Tryz.underlying101 gi gz0 gz1 gz2 rfl (by decide) _ _ _ rfl (HOW.out.alloc _) ⟨W.heap.size, 0, none⟩ 1 1 [.pointer (some ⟨ps x.1, 0, none⟩)] rfl rfl (fun q u hq => cells_new W [.pointer (some ⟨ps x.1, 0, none⟩)] 220 q u hq) (fun u hu => by simp at hu; subst hu; rfl) (by omega) (by omega) (by simp; omega) ?_; intro v' w3 hown' hg3 hnil3; have hbx3 : Boxed w3 w.heap.size 101 (.slice an ln cn) := (hg3.block _ (by simp; omega) (fun h1 => hno h1.symm)).trans ((Below.heap_alloc W _ _ (by omega)).trans HBX.out); have hcb3 := hbx3.cell; have hfb3 := hbx3.frozen; obtain ⟨an', ln', cn', rfl⟩ := own_slice hown'; have H1 := toHid hown'; have H2 := toHid hg3; have H3 := toHid hbx3; clear hown' hg3 hnil3 hbx3; go_frame) | gi_in)
  have hgr := H2.out
  have hg3 := hgr.size
  simp at hg3
  have hset : ∀ q, q ≠ w.heap.size → (w3.setCell ⟨w.heap.size, 0, none⟩ (.slice an' ln' cn')).heap[q]? = w3.heap[q]? := fun q hq => Below.heap_setCell _ _ _ _ hq
  have hold : ∀ q, q < W.heap.size → q ≠ w.heap.size → (Value.slice an ln cn).ownBlock ≠ some q → (w3.setCell ⟨w.heap.size, 0, none⟩ (.slice an' ln' cn')).heap[q]? = W.heap[q]? := fun q hq h1 h3 => by
   rw [hset q h1, hgr.block q (by simp; omega) (fun h => h3 h.symm), Below.heap_alloc _ _ _ (by omega)]
  have hlow : ∀ q, q < w.heap.size → (Value.slice an ln cn).ownBlock ≠ some q := fun q hq h1 => by
   have := (HOW.out.lt q h1).1; omega
  have hno' : (Value.slice an' ln' cn').ownBlock ≠ some w.heap.size := fun h1 => H3.out.not_row (by decide) H1.out h1.symm
  have hbox' := H3.out.set (.slice an' ln' cn')
  have hlen : (pre ++ [x]).length = pre.length + 1 := by simp
  refine ⟨⟨by simp; omega, fun q o hB hq ho => ?_⟩, ⟨by simp; omega, fun q hq => hold q (by omega) (by omega) (hlow q hq)⟩, .slice an' ln' cn', hbox', ?_, ⟨?_, ?_, ?_, by simp; omega, fun q hq => (hold q (by omega) (by omega) (hlow q hq)).trans (HBL.out.block q hq)⟩⟩
  ·refine (hold q (Array.getElem?_eq_some_iff.1 hq).1 (by omega) fun h1 => ?_).trans hq
   rcases HOW.out.2 with ⟨h3, _⟩ | ⟨gg, cap, cur, h3, _, h4, _⟩
   ·rw [h3] at h1; simp [Value.ownBlock] at h1
   ·rw [h3] at h1
    simp [Value.ownBlock] at h1
    subst h1
    rw [h4] at hq
    cases hq
    simp [Obj.isCells] at ho
  ·rw [hlen, List.map_append]
   exact own_ke H1.out (P := fun q => q = w.heap.size) ((Ks.refl _ _).set w.heap.size 0 _ rfl) fun q hq e' => hno' (by rw [hq, e'])
  ·exact hgr.os.trans HBL.out.os
  ·exact hgr.tape.trans HBL.out.tape
  ·exact hgr.output.trans HBL.out.output
 case done =>
  rintro D' ys W hD rfl ⟨v, hbox, hown, hbel⟩ hK
  have hcell := hbox.cell
  obtain ⟨an, ln, cn, rfl⟩ := own_slice hown
  have HB := toHid hbox
  have HO := toHid hown
  have HL := toHid hbel
  have HK := toHid hK
  clear hbox hown hbel hK
  gi_wp2
  refine ⟨by simp, .inl ⟨_, _, rfl, run_takeDeferred HK.out, ?_⟩⟩
  have hg := grownBy_putObj' W D' (.deferred none)
  have hDl : D' < W.heap.size := (Array.getElem?_eq_some_iff.1 HK.out).1
  have hDw : w.heap.size < D' := by simp at hD; omega
  refine ⟨.slice an ln cn, by simp [results, Tryz.f201, go_sem], an, ln, cn, rfl, ?_, ⟨hg.os.trans HL.out.os, hg.tape.trans HL.out.tape, hg.output.trans HL.out.output, Nat.le_trans HL.out.size hg.size, fun q hq => (hg.block q (Nat.lt_of_lt_of_le hq HL.out.size) fun e' => by cases e'; omega).trans (HL.out.block q hq)⟩⟩
  have ho := HO.out
  rw [upL_length, upL_map n (fun i => .pointer (some ⟨ps i, 0, none⟩))] at ho
  refine own_ke ho (P := fun q => some q = some D') ⟨hg.os, hg.tape, hg.output, hg.size, fun q hq hn => hg.block q hq hn⟩ fun q hq e' => ?_
  cases e'
  rcases ho.2 with ⟨h3, _⟩ | ⟨g, cap, cur, h3, _, h4, _⟩
  ·rw [h3] at hq; simp [Value.ownBlock] at hq
  ·rw [h3] at hq
   simp [Value.ownBlock] at hq
   subst hq
   have := HK.out
   rw [h4] at this
   cases this
 case stop =>
  rintro D' c pre W _ _ h _
  exact h.elim
theorem collect (Bs n c : Nat) (a : Option Addr) (ps : Nat → Nat) (w : World) (hn : n ≤ 1000) (hBl : Bs < w.heap.size) (hBs : w.cell? ⟨Bs, 0, none⟩ = some (.slice a n c)) (ha : n = 0 ∨ ∃ h o, a = some ⟨h, o, none⟩ ∧ h < w.heap.size) (hc : ∀ j, j < n → ∀ h o, a = some ⟨h, o, none⟩ → w.cell? ⟨h, o + j, none⟩ = some (.pointer (some ⟨ps j, 0, none⟩))) :
  Calls Tryz.prog 169 #[.func (.func 171) #[] #[.pointer (some ⟨Bs, 0, none⟩)]] w fun r w' => ∃ an ln cn, r = .returned (.slice an ln cn) ∧ w'.ownsRow w.heap.size 220 1 (.slice an ln cn) n ((List.range n).map fun j => .pointer (some ⟨ps j, 0, none⟩)) ∧ Below w.heap.size w w' := by
 have H := toHid (appendSeq Bs n c a ps w hn hBl hBs ha hc)
 clear hn hBl hBs ha hc
 go_enter Tryz.func169, Tryz.ntmps169
 go_wp2_with (go_at_call 201; refine H.out.mono ?_; rintro e w' ⟨an, ln, cn, rfl, h1, h2⟩; have C1 := toHid h1; have C2 := toHid h2; clear h1 h2)
 go_ret
 exact ⟨an, ln, cn, rfl, C1.out, C2.out⟩
end Go.Proofs.YtihgojcfpnhelaaGreatDoor
namespace Go.Proofs.YtihgojcfpnhelaaGreatDoor
open Go.RowKit Go.Shelf Go.Sort
theorem cmpNames (b1 b2 : Nat) (n1 n2 : By) (W : World) (c1 : W.cell? ⟨b1, 0, none⟩ = some (.string ⟨n1.toArray⟩)) (c2 : W.cell? ⟨b2, 0, none⟩ = some (.string ⟨n2.toArray⟩)) :
  Calls Tryz.prog 140 #[.pointer (some ⟨b1, 0, none⟩), .pointer (some ⟨b2, 0, none⟩)] W fun e w' => e = .returned (.int .i64 (Lib.compareBytes n1 n2)) ∧ ∃ q, w' = W.drewN q := by
 have H := fun W => Any.strings_Compare Tryz.lays106 ⟨n1.toArray⟩ ⟨n2.toArray⟩ W
 change ∀ W, Calls Tryz.prog 141 _ _ _ at H
 simp only [] at H
 generalize Lib.compareBytes n1 n2 = z at H ⊢
 go_enter Tryz.func140, Tryz.ntmps140
 go_wp2_with fail
 go_region_with (first | (go_at_call 141; refine (H _).mono ?_; rintro e w' ⟨rfl, rfl⟩))
 all_goals go_wp2
 all_goals refine bodyPost_ret (v := .int .i64 z) (by simp [results, Tryz.results140, go_sem]) (by simp [go_sem]) ?_
 all_goals exact ⟨rfl, 1, rfl⟩
theorem sortWorld_heap {α : Type} [Inhabited α] (enc : α → Value) (w : World) (blk off m : Nat) (dk : Array α) (os : Array Obj) (q : Nat) (h1 : q ≠ blk) (h2 : q < w.heap.size) : (sortWorld enc w blk off m dk os).heap[q]? = w.heap[q]? := by
 unfold sortWorld Sort.grow Sort.putRow Sort.mapBlock Sort.ahead
 show ((w.heap.modify blk _) ++ os)[q]? = _
 rw [Array.getElem?_append_left (by simpa using h2), Array.getElem?_modify]
 simp [Ne.symm h1]
theorem putRow_heap {α : Type} [Inhabited α] (enc : α → Value) (w : World) (blk off : Nat) (d : Array α) (q : Nat) (h1 : q ≠ blk) : (putRow enc w blk off d).heap[q]? = w.heap[q]? := by
 unfold Sort.putRow Sort.mapBlock
 show (w.heap.modify blk _)[q]? = _
 rw [Array.getElem?_modify]
 simp [Ne.symm h1]
theorem wrap_few : ∀ n : Nat, n < 13 → IntKind.u64.wrap (n : Int) = (n : Int) := by decide
abbrev Mem (fs : List (Nat × Fd)) : Type := { f : Nat × Fd // f ∈ fs }
def encM {fs : List (Nat × Fd)} (x : Mem fs) : Value := .pointer (some ⟨x.1.1, 0, none⟩)
def cfM {fs : List (Nat × Fd)} (x y : Mem fs) : Int := Lib.compareBytes x.1.2.nm y.1.2.nm
theorem pdqM (fs : List (Nat × Fd)) [Inhabited (Mem fs)] (blk off cap : Nat) (lim : Int) (d : Array (Mem fs)) (w : World) (hcmp : CmpReads Tryz.prog 140 #[] (encM (fs := fs)) cfM blk off d.size w) (hH : Holds (encM (fs := fs)) w blk off d) (h12 : d.size ≤ 12) :
  Calls Tryz.prog 202 #[.slice (some ⟨blk, off, none⟩) d.size cap, .int .i64 0, .int .i64 (d.size : Int), .int .i64 lim, .func (.func 140) #[] #[]] w fun e w' => e = .returned (.tuple #[]) ∧ ∃ n, w' = (putRow (encM (fs := fs)) w blk off (Sort.insertionSort (ltOf (cfM (fs := fs))) d 0 d.size)).drewN n := by
 have hi := Any.insertionSortCmpFunc_one Tryz.lays20 (encM (fs := fs)) (fun _ => rfl) cfM 140 #[] blk off cap 0 d.size d w (enters_of Tryz.func140 (by kernel_rfl) rfl) hcmp hH (Nat.zero_le _) (Nat.le_refl _) (by omega)
 replace hi : Calls Tryz.prog 223 #[.slice (some ⟨blk, off, none⟩) d.size cap, .int .i64 0, .int .i64 (d.size : Int), .func (.func 140) #[] #[]] w fun e w' => e = .returned (.tuple #[]) ∧ ∃ n, w' = (putRow (encM (fs := fs)) w blk off (Sort.insertionSort (ltOf (cfM (fs := fs))) d 0 d.size)).drewN n := hi
 clear hcmp hH
 generalize Sort.insertionSort (ltOf (cfM (fs := fs))) d 0 d.size = d' at hi ⊢
 generalize d.size = n at hi h12 ⊢
 have hl : (n : Int) ≤ 12 := by omega
 go_enter Tryz.func202, Tryz.ntmps202
 go_wp2
 refine wp_loop_rounds 1 ?_
 rw [rounds_succ]
 go_wp2_with (go_at_call 223; refine hi.mono ?_; rintro e w' ⟨rfl, n, rfl⟩)
 (try simp only [Exit.inBlock, Exit.then]); refine bodyPost_ret (results_none rfl _ _ _) rfl ?_
 exact ⟨rfl, n, rfl⟩
theorem sortM (fs : List (Nat × Fd)) [Inhabited (Mem fs)] (blk off cap : Nat) (d : Array (Mem fs)) (w : World) (hcmp : CmpReads Tryz.prog 140 #[] (encM (fs := fs)) cfM blk off d.size w) (hH : Holds (encM (fs := fs)) w blk off d) (h12 : d.size ≤ 12) :
  Calls Tryz.prog 170 #[.slice (some ⟨blk, off, none⟩) d.size cap, .func (.func 140) #[] #[]] w fun e w' => e = .returned (.tuple #[]) ∧ ∃ n, w' = (putRow (encM (fs := fs)) w blk off (Sort.insertionSort (ltOf (cfM (fs := fs))) d 0 d.size)).drewN n := by
 have hp := fun lim => pdqM fs blk off cap lim d w hcmp hH h12
 have hl := Any.bits_Len Tryz.lays125 (d.size : Int) w (by omega) (by omega)
 change Calls Tryz.prog 203 _ _ _ at hl
 clear hcmp hH
 generalize Sort.insertionSort (ltOf (cfM (fs := fs))) d 0 d.size = d' at hp ⊢
 generalize Lib.bitLen (d.size : Int).toNat = z at hl
 have hw : IntKind.u64.wrap (d.size : Int) = (d.size : Int) := wrap_few d.size (by omega)
 generalize d.size = n at hp hl h12 hw ⊢
 go_enter Tryz.func170, Tryz.ntmps170
 go_wp2_with (first | (go_at_call 203; refine hl.mono ?_; rintro e w' ⟨rfl, rfl⟩) | (go_at_call 202; refine (hp _).mono ?_; rintro e w' ⟨rfl, n, rfl⟩))
 go_end0
 exact ⟨rfl, n, rfl⟩
end Go.Proofs.YtihgojcfpnhelaaGreatDoor
namespace Go.Proofs.YtihgojcfpnhelaaGreatDoor
open Go.RowKit Go.Shelf Go.Sort
theorem ins0 (a : Option Addr) (c : Nat) (w : World) :
  Calls Tryz.prog 223 #[.slice a 0 c, .int .i64 0, .int .i64 0, .func (.func 140) #[] #[]] w fun e w' => e = .returned (.tuple #[]) ∧ w' = w := by
 go_enter Tryz.func223, Tryz.ntmps223
 go_wp2
 refine wp_loop_rounds 1 ?_
 rw [rounds_succ]
 go_wp2
 go_end0
 exact ⟨rfl, rfl⟩
theorem pdq0 (a : Option Addr) (c : Nat) (lim : Int) (w : World) :
  Calls Tryz.prog 202 #[.slice a 0 c, .int .i64 0, .int .i64 0, .int .i64 lim, .func (.func 140) #[] #[]] w fun e w' => e = .returned (.tuple #[]) ∧ w' = w := by
 have hi := ins0 a c w
 go_enter Tryz.func202, Tryz.ntmps202
 go_wp2
 refine wp_loop_rounds 1 ?_
 rw [rounds_succ]
 go_wp2_with (go_at_call 223; refine hi.mono ?_; rintro e w' ⟨rfl, rfl⟩)
 (try simp only [Exit.inBlock, Exit.then]); refine bodyPost_ret (results_none rfl _ _ _) rfl ?_
 exact ⟨rfl, rfl⟩
theorem sort0 (a : Option Addr) (c : Nat) (w : World) :
  Calls Tryz.prog 170 #[.slice a 0 c, .func (.func 140) #[] #[]] w fun e w' => e = .returned (.tuple #[]) ∧ w' = w := by
 have hp := fun lim => pdq0 a c lim w
 have hl := Any.bits_Len Tryz.lays125 0 w (by omega) (by omega)
 change Calls Tryz.prog 203 _ _ _ at hl
 generalize Lib.bitLen (0 : Int).toNat = z at hl
 go_enter Tryz.func170, Tryz.ntmps170
 go_wp2_with (first | (go_at_call 203; refine hl.mono ?_; rintro e w' ⟨rfl, rfl⟩) | (go_at_call 202; refine (hp _).mono ?_; rintro e w' ⟨rfl, rfl⟩))
 go_end0
 exact ⟨rfl, rfl⟩
theorem cmp_lt : ∀ x y : By, Lib.compareBytes x y < 0 ↔ x < y
 | [], [] => by simp [Lib.compareBytes]
 | [], _ :: _ => by simp [Lib.compareBytes]
 | _ :: _, [] => by simp [Lib.compareBytes]
 | a :: r, b :: t => by
  have ih := cmp_lt r t
  unfold Lib.compareBytes
  rw [List.cons_lt_cons_iff]
  by_cases h1 : a < b
  ·simp [h1]
  ·rw [if_neg h1]
   by_cases h2 : b < a
   ·rw [if_pos h2]
    have : a ≠ b := fun e => h1 (e ▸ h2)
    simp [h1, this]
   ·rw [if_neg h2, ih]
    have : a = b := UInt8.le_antisymm (UInt8.not_lt.1 h2) (UInt8.not_lt.1 h1)
    simp [this]
theorem ltOf_cfM {fs : List (Nat × Fd)} (x y : Mem fs) : ltOf cfM x y = ltStr x.1.2.nm y.1.2.nm := by
 unfold ltOf cfM ltStr
 exact decide_eq_decide.2 (cmp_lt _ _)
theorem swoM (fs : List (Nat × Fd)) : SWO (ltOf (cfM (fs := fs))) := by
 refine ⟨fun x => ?_, fun x y z h1 h2 => ?_, fun x y z h1 h2 => ?_⟩
 ·rw [ltOf_cfM]; exact swo_ltStr.irrefl _
 ·rw [ltOf_cfM] at *; exact swo_ltStr.trans _ _ _ h1 h2
 ·rw [ltOf_cfM] at *; exact swo_ltStr.ntrans _ _ _ h1 h2
def srtD (fs : List (Nat × Fd)) [Inhabited (Mem fs)] : Array (Mem fs) := Sort.insertionSort (ltOf (cfM (fs := fs))) fs.attach.toArray 0 fs.length
theorem srtD_size (fs : List (Nat × Fd)) [Inhabited (Mem fs)] : (srtD fs).size = fs.length := by
 have := (insertionSort_holds (lt := ltOf (cfM (fs := fs))) (swoM fs) fs.attach.toArray 0 fs.length (Nat.zero_le _) (by simp)).1.1
 unfold srtD
 simpa using this
open Classical in
noncomputable def srtL (fs : List (Nat × Fd)) : List (Nat × Fd) := if h : fs = [] then [] else
 haveI : Inhabited (Mem fs) := ⟨⟨fs.head h, List.head_mem h⟩⟩
 (srtD fs).toList.map Subtype.val
theorem sortFs {S : Nat → Prop} (fs : List (Nat × Fd)) (w : World) (B : Nat) (v : Value) (hfd : ∀ f, f ∈ fs → FdAt w S f.1 f.2 ∧ f.1 < B) (ho : w.ownsRow B 220 1 v fs.length (fs.map fun f => .pointer (some ⟨f.1, 0, none⟩))) (hB : B ≤ w.heap.size) (h12 : fs.length ≤ 12) :
  Calls Tryz.prog 170 #[v, .func (.func 140) #[] #[]] w fun e w' => e = .returned (.tuple #[]) ∧ Below B w w' ∧ ∃ a c, v = .slice a fs.length c ∧ (srtL fs).length = fs.length ∧ ∀ j (hj : j < (srtL fs).length), ∃ g, a = some ⟨g, 0, none⟩ ∧ w'.cell? ⟨g, j, none⟩ = some (.pointer (some ⟨(srtL fs)[j].1, 0, none⟩)) := by
 obtain ⟨a, l, c, rfl⟩ := own_slice ho
 have hl : l = fs.length := by
  rcases ho.2 with h1 | ⟨g, cap, cur, h1, _⟩
  ·have := h1.1
   cases this
   exact h1.2.symm
  ·cases h1
   rfl
 subst hl
 by_cases h0 : fs = []
 ·subst h0
  refine (sort0 a c w).mono ?_
  rintro e w' ⟨rfl, rfl⟩
  exact ⟨rfl, Below.refl _ _, a, c, rfl, by simp [srtL], fun j hj => by simp [srtL] at hj⟩
 ·letI : Inhabited (Mem fs) := ⟨⟨fs.head h0, List.head_mem h0⟩⟩
  have hpos : 0 < fs.length := List.length_pos_iff.2 h0
  obtain ⟨g, cap, hv, hg, hgl⟩ := ho.form hpos
  simp at hv
  obtain ⟨rfl, rfl⟩ := hv
  have hH : Holds (encM (fs := fs)) w g 0 fs.attach.toArray := by
   intro j hj
   simp at hj
   have hc := ho.cellAt j (by simpa using hj)
   refine ⟨?_, ?_⟩
   ·simp only [Nat.zero_add]
    rw [hc]
    rw [getElem!_pos fs.attach.toArray j (by simpa using hj)]
    simp [encM, hj]
   ·simp only [Nat.zero_add]
    exact ho.frozenAt j
  have hcmp : CmpReads Tryz.prog 140 #[] (encM (fs := fs)) cfM g 0 fs.attach.toArray.size w := by
   intro m os dk hdk x y
   have hx := hfd x.1 x.2
   have hy := hfd y.1 y.2
   have cell : ∀ f : Nat × Fd, FdAt w S f.1 f.2 ∧ f.1 < B → (sortWorld (encM (fs := fs)) w g 0 m dk os).cell? ⟨f.1, 0, none⟩ = some (.string ⟨f.2.nm.toArray⟩) := fun f hf => by
    obtain ⟨⟨_, _, _, _, a', l', c', hr, _⟩, hlt⟩ := hf
    rw [World.cell?_of_block (a := ⟨f.1, 0, none⟩) (sortWorld_heap (encM (fs := fs)) w g 0 m dk os f.1 (by omega) (by omega))]
    exact (cell_of_row w f.1 0 _ _ _ hr).trans rfl
   exact cmpNames x.1.1 y.1.1 x.1.2.nm y.1.2.nm _ (cell x.1 hx) (cell y.1 hy)
  have hs := sortM fs g 0 c fs.attach.toArray w hcmp hH (by simpa using h12)
  have hsz : fs.attach.toArray.size = fs.length := by simp
  rw [hsz] at hs
  refine hs.mono ?_
  rintro e w' ⟨rfl, n, rfl⟩
  have hL : srtL fs = (srtD fs).toList.map Subtype.val := by
   unfold srtL
   rw [dif_neg h0]
  refine ⟨rfl, below_drewN ?_ n, some ⟨g, 0, none⟩, c, rfl, ?_, fun j hj => ⟨g, rfl, ?_⟩⟩
  ·refine ⟨rfl, rfl, rfl, ?_, fun q hq => putRow_heap _ _ _ _ _ q (by omega)⟩
   show w.heap.size ≤ (w.heap.modify g _).size
   simp
  ·rw [hL]; simp [srtD_size]
  ·have hjl : j < (srtD fs).size := by rw [hL] at hj; simpa using hj
   have := cell?_putRow (encM (fs := fs)) w g 0 fs.attach.toArray (srtD fs) hH (by rw [srtD_size, hsz]) j hjl
   rw [Nat.zero_add] at this
   refine Eq.trans (b := some (encM (srtD fs)[j]!)) this ?_
   rw [getElem!_pos (srtD fs) j hjl]
   simp [encM, hL]
theorem extract_all {α : Type} (d : Array α) (n : Nat) (h : d.size = n) : d.extract 0 n = d := by
 subst h
 exact Array.extract_size
theorem srtL_facts (fs : List (Nat × Fd)) : (srtL fs).Perm fs ∧ (srtL fs).Pairwise fun f g => ¬ g.2.nm < f.2.nm := by
 by_cases h0 : fs = []
 ·subst h0
  simp [srtL]
 ·letI : Inhabited (Mem fs) := ⟨⟨fs.head h0, List.head_mem h0⟩⟩
  have hL : srtL fs = (srtD fs).toList.map Subtype.val := by
   unfold srtL
   rw [dif_neg h0]
  have hsz : fs.attach.toArray.size = fs.length := by simp
  obtain ⟨⟨h1, _, h2⟩, h3⟩ := insertionSort_holds (lt := ltOf (cfM (fs := fs))) (swoM fs) fs.attach.toArray 0 fs.length (Nat.zero_le _) (by simp)
  have e1 : (srtD fs).toList.Perm fs.attach := by
   have e2 := extract_all (Sort.insertionSort (ltOf (cfM (fs := fs))) fs.attach.toArray 0 fs.length) fs.length (by rw [h1, hsz])
   have e3 := extract_all fs.attach.toArray fs.length hsz
   rw [e2, e3] at h2
   exact h2
  refine ⟨?_, ?_⟩
  ·rw [hL]
   have := e1.map Subtype.val
   rw [List.attach_map_subtype_val] at this
   exact this
  ·rw [hL, List.pairwise_map, List.pairwise_iff_getElem]
   intro i j hi hj hij
   simp at hi hj
   have := h3 i j (Nat.zero_le _) hij (by rw [srtD_size] at hj; exact hj)
   change ltOf cfM (srtD fs)[j]! (srtD fs)[i]! = false at this
   rw [ltOf_cfM, getElem!_pos (srtD fs) j hj, getElem!_pos (srtD fs) i hi] at this
   simpa [ltStr] using this
end Go.Proofs.YtihgojcfpnhelaaGreatDoor
namespace Go.Proofs.YtihgojcfpnhelaaGreatDoor
open Go.RowKit Go.Shelf Go.Sort
def PtrRow (w : World) (a : Option Addr) (gs : List (Nat × Fd)) : Prop := ∀ j (hj : j < gs.length), ∃ g, a = some ⟨g, 0, none⟩ ∧ w.cell? ⟨g, j, none⟩ = some (.pointer (some ⟨gs[j].1, 0, none⟩))
theorem sortedFs {S : Nat → Prop} (Bs c : Nat) (a : Option Addr) (fs : List (Nat × Fd)) (w : World) (hs : Sh w S a fs) (hBl : Bs < w.heap.size) (hBs : w.cell? ⟨Bs, 0, none⟩ = some (.slice a fs.length c)) (h12 : fs.length ≤ 12) :
  Calls Tryz.prog 138 #[.func (.func 171) #[] #[.pointer (some ⟨Bs, 0, none⟩)], .func (.func 140) #[] #[]] w fun r w' => ∃ a' c', r = .returned (.slice a' fs.length c') ∧ Hid (PtrRow w' a' (srtL fs)) ∧ Hid (Below w.heap.size w w') := by
 have hcol := collect Bs fs.length c a (fun j => (fs.getD j (0, ⟨[], .atom 0 [] 0, (0, 0)⟩)).1) w (by omega) hBl hBs (by
  by_cases h0 : fs.length = 0
  ·exact Or.inl h0
  ·obtain ⟨g, o, h1, h2, _⟩ := hs.ptr 0 (by omega)
   exact Or.inr ⟨g, o, h1, hs.still g h2⟩) (fun j hj h o e' => by
  obtain ⟨g, o', h1, h2, h3⟩ := hs.ptr j hj
  rw [e'] at h1
  cases h1
  rw [h3]
  simp [List.getD_eq_getElem?_getD, hj])
 have hmap : (List.range fs.length).map (fun j => Value.pointer (some ⟨(fs.getD j (0, ⟨[], .atom 0 [] 0, (0, 0)⟩)).1, 0, none⟩)) = fs.map fun f => Value.pointer (some ⟨f.1, 0, none⟩) := by
  apply List.ext_getElem
  ·simp
  ·intro i h1 h2
   simp at h1
   simp [List.getD_eq_getElem?_getD, h1]
 rw [hmap] at hcol
 have HCOL := toHid (hcol.mono (R' := fun r w1 => ∃ an ln cn, r = .returned (.slice an ln cn) ∧ Hid (Below w.heap.size w w1) ∧ Hid (Calls Tryz.prog 170 #[.slice an ln cn, .func (.func 140) #[] #[]] w1 fun e w' => e = .returned (.tuple #[]) ∧ ln = fs.length ∧ Hid (PtrRow w' an (srtL fs)) ∧ Hid (Below w.heap.size w w'))) (by
  rintro r w1 ⟨an, ln, cn, rfl, h1, h2⟩
  refine ⟨an, ln, cn, rfl, h2, ?_⟩
  refine (sortFs (S := S) fs w1 w.heap.size (.slice an ln cn) (fun f hf => ⟨(hs.next h2).fld f hf, (hs.fld f hf).lt⟩) h1 h2.size h12).mono ?_
  rintro e w' ⟨rfl, k1, a', c', k2, k3, k4⟩
  cases k2
  exact ⟨rfl, rfl, k4, h2.trans k1⟩))
 clear hcol hmap hs hBl hBs h12
 go_enter Tryz.func138, Tryz.ntmps138
 go_wp2_with (first | (go_at_call 169; refine HCOL.out.mono ?_; rintro e w1 ⟨an, ln, cn, rfl, B1, H1⟩; refine Hid.out ?_))
 refine toHid ?_
 go_wp2_with (first | (go_at_call 170; refine H1.out.mono ?_; rintro e w2 ⟨rfl, hln, B2, B3⟩; subst hln))
 go_ret
 exact ⟨an, cn, rfl, B2, B3⟩
end Go.Proofs.YtihgojcfpnhelaaGreatDoor
namespace Go.Proofs.YtihgojcfpnhelaaGreatDoor
open Go.RowKit Go.Shelf Go.Sort
def rowB (f : Fd) : By := f.nm ++ [32, 61, 32] ++ txt f.p ++ [10]
noncomputable def lstB (fs : List (Nat × Fd)) : By := (srtL fs).flatMap fun f => rowB f.2
theorem bu_new (w : World) : Bu w.heap.size [] (w.alloc (.cells #[.pointer none, .slice none 0 0] 170)) :=
 ⟨Lib.IsBuilderF.of (Lib.fresh_isBuilder 170 5 w), by simp⟩
theorem rowB_len (f : Fd) : (rowB f).length = f.nm.length + (txt f.p).length + 4 := by
 simp [rowB]
 omega
theorem rowB_bytes (f : Fd) : (⟨(rowB f).toArray⟩ : ByteArray) = { data := List.toArray f.nm } ++ { data := #[32, 61, 32] } ++ { data := List.toArray (txt f.p) } ++ { data := #[10] } := by
 apply ByteArray.ext
 simp [rowB, ByteArray.data_append]
theorem rows_len (gs : List (Nat × Fd)) (h : ∀ f, f ∈ gs → f.2.nm.length ≤ 100 ∧ (txt f.2.p).length ≤ 100) : (gs.flatMap fun f => rowB f.2).length ≤ gs.length * 204 := by
 induction gs with
 | nil => simp
 | cons g r ih =>
  have h1 := h g (by simp)
  have h2 := ih fun f hf => h f (by simp [hf])
  have h3 := rowB_len g.2
  simp only [List.flatMap_cons, List.length_append, List.length_cons]
  omega
end Go.Proofs.YtihgojcfpnhelaaGreatDoor
