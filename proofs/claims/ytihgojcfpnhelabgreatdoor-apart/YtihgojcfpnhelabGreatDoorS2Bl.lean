import Derived.Test.YtihgojcfpnhelabGreatDoorS2Bk
set_option maxRecDepth 100000
set_option maxHeartbeats 4000000
set_option linter.unusedVariables false
set_option linter.unusedSimpArgs false
namespace Go.Proofs.YtihgojcfpnhelabGreatDoor
open Go.RowKit
section
variable {S S1 O S5 : Nat → Prop} {e : Nat} {D D1 : Nat → Prop} {σ σ0 σ1 σ2 : Sta} {v1 v2 v3 v4 v5 : Value} {te : TypeId} {w w' W w1 w2 w3 w5 : World} {ws0 ws1 us : List Wr} {b N N3 : Nat} {cs cs3 : Array Value} {ar : AR} {r : Ending} {hs gs : List (Nat × Fd)}
theorem tailFin (hk3 : Ks (fun q => q = e ∨ D q) w w3) (hu0 : ∀ q, S q → S5 q) (hu1 : ∀ q, S5 q → S q ∨ (w.heap.size ≤ q ∧ ∃ c t z, w3.heap[q]? = some (.cells c t z))) (hp3 : PhS w3 S5 e D σ2 v1 v2 v3 v4 v5 te) (hσ2 : runW ws1 σ0 = σ2) (hfs2 : σ2.fs = gs) (hbk3 : BkAt e D w3 S5 N3 cs3 (invW ws1 σ0)) (hl : hs.length ≤ 400) (hgl : σ2.ord.length ≤ 400) (hsub : ∀ x, x ∈ hs → x ∈ gs) (hSw : ∀ q, S q → q < w.heap.size) (v : Value) (hown5 : w5.ownsRow w3.heap.size 116 1 v hs.length (ptrs hs)) (hb5 : Below w3.heap.size w3 w5) :
  (∀ W (hW : Below w5.heap.size w5 W), Calls Tryz.prog 66 #[v] W fun r w' => ∃ an cn, r = .returned (.slice an hs.length cn) ∧ w'.ownsRow W.heap.size 9 1 (.slice an hs.length cn) hs.length (strs (nmsF hs)) ∧ Below W.heap.size W w') ∧
  (∀ (an : Option Addr) (cn : Nat) W (hW : Below w5.heap.size w5 W), W.ownsRow w5.heap.size 9 1 (.slice an hs.length cn) hs.length (strs (nmsF hs)) → Calls Tryz.prog 79 #[.pointer (some ⟨e, 0, none⟩), v] W fun r w7 => ∃ N7 cs7, r = .returned (.func (.func N7) #[] cs7) ∧ Hid (Calls Tryz.prog 31 #[.slice (some ⟨w7.heap.size, 0, none⟩) 2 2] (w7.alloc (.cells #[.func (.func N3) #[] cs3, .func (.func N7) #[] cs7] 84)) fun r w8 => ∃ N8 cs8, r = .returned (.func (.func N8) #[] cs8) ∧ StOk S e D σ0 ws1 v1 v2 v3 v4 v5 te hs gs w (.returned (.tuple #[.slice an hs.length cn, .func (.func N8) #[] cs8, .int .i64 0])) w8)) := by
 obtain ⟨a3, c3, hSh3, _, _, _⟩ := hp3.sh
 rw [hfs2] at hSh3
 obtain ⟨ak, ck, rfl⟩ := own_len hown5
 have hfl3 : ∀ x, x ∈ gs → x.1 < w3.heap.size := fun x hx => (hSh3.fld x hx).lt
 refine ⟨fun W hW => (names107 _ _ _ W (((hSh3.next hb5).ofOwn hsub hown5 hfl3).next hW) (by omega)).mono (by
  rintro r w' ⟨v, rfl, h1, h2⟩
  obtain ⟨an, cn, rfl⟩ := own_len h1
  exact ⟨an, cn, rfl, h1, h2⟩), fun an cn W hW hnm => ?_⟩
 have hb3W : Below w3.heap.size w3 W := hb5.trans (hW.mono hb5.size)
 have hDk : ∀ x, x ∈ hs → D x.1 := fun x hx => by
  have := hsub x hx
  rw [← hfs2] at this
  obtain ⟨q, hq', e'⟩ := List.mem_map.1 this
  rw [← e']
  exact hp3.sub q hq'
 have hwo := workOutS (w := W) (S := S5) (e := e) (D := D) (σ := σ2) (v1 := v1) (v2 := v2) (v3 := v3) (v4 := v4) (v5 := v5) (te := te) ck ak (hs.map fun x => x.1) (hp3.next hb3W) (by omega) (by simp; omega) (fun j hj => by
  have hj' : j < hs.length := by simpa using hj
  obtain ⟨g5, cap5, e5, hg5, hg5l⟩ := hown5.form (by omega)
  cases e5
  refine ⟨by simpa using hDk _ (List.getElem_mem hj'), g5, 0, rfl, Nat.lt_of_lt_of_le hg5l hW.size, by have := hp3.lt; omega, fun hD => ?_, ?_⟩
  ·have := (hp3.fld g5 hD).lt; omega
  ·rw [hW.cell (p := ⟨g5, 0 + j, none⟩) hg5l, Nat.zero_add, hown5.cellAt j (by omega)]
   unfold ptrs
   rw [List.getElem?_map, List.getElem?_eq_getElem hj']
   simp)
 rw [List.length_map] at hwo
 refine hwo.mono ?_
 rintro r w7 ⟨N7, cs7, S7, rfl, m0, m1, hp7, hbk7, hk7⟩
 refine ⟨N7, cs7, rfl, ?_⟩
 have hk07 : Ks (fun q => q = e ∨ D q) w w7 := (hk3.trans (Ks.of hb3W)).trans hk7
 have hnmW : ∀ q, (Value.slice an hs.length cn).ownBlock = some q → w5.heap.size ≤ q ∧ q < W.heap.size := fun q hq => hnm.lt q hq
 have hs35 := hb5.size
 have hs5W := hW.size
 have hsW7 := hk7.size
 have hw3 := hk3.size
 have hel3 := hp3.lt
 have hnm7 : w7.ownsRow w5.heap.size 9 1 (.slice an hs.length cn) hs.length (strs (nmsF hs)) := own_ke hnm hk7 fun q hq h1 => by
  have := (hnmW q hq).1
  rcases h1 with h1 | h1
  ·omega
  ·have := (hp3.fld q h1).lt; omega
 have hσ7 : runW (ws1 ++ workS σ2 (hs.map fun x => x.1)) σ0 = runW (workS σ2 (hs.map fun x => x.1)) σ2 := by rw [runW_app, hσ2]
 have hbu := built2 (S := S) (O := fun q => w.heap.size ≤ q ∧ (Value.slice an hs.length cn).ownBlock ≠ some q) (w := w) (W := w7) (N1 := N3) (cs1 := cs3) (N2 := N7) (cs2 := cs7) (fun q hq => ⟨by omega, fun h1 => by have := (hnmW q h1).2; omega⟩) (ws1 := ws1) (ws2 := workS σ2 (hs.map fun x => x.1)) (σ := σ0) (S1 := S7) (by rw [hσ7]; exact hp7) (fun q hq => m0 q (hu0 q hq)) (fun q hq => ?_) ((hbk3.next (fun q hq => (hk7.block q (Nat.lt_of_lt_of_le (hp3.still q hq) hb3W.size) (hp3.notP q hq)).trans (hb3W.block q (hp3.still q hq)))).wide m0 fun _ h => h) (by rw [hσ2]; exact hbk7) hk07
 ·refine (hbu.all (by omega) (fun q hq => ⟨by simp at hq; omega, fun h1 => by have := (hnmW q h1).2; simp at hq; omega⟩)).mono ?_
  rintro r w8 ⟨⟨N8, cs8, S8, rfl, p0, p1, hp8, hbk8, hk8⟩, hb8⟩
  refine ⟨N8, cs8, rfl, an, cn, N8, cs8, S8, workS σ2 (hs.map fun x => x.1), rfl, ?_, fun q hq hS8 => ?_, p0, fun q hq => (p1 q hq).imp id fun h => ⟨h.1.1, h.2⟩, hp8, hbk8, hk8, ?_⟩
  ·exact own_base (own_below (own_below hnm7 (bZ _)) hb8) (by omega)
  ·rcases p1 q hS8 with h1 | h1
   ·have := hSw q h1
    have := (hnmW q hq).1
    omega
   ·exact h1.1.2 hq
  ·rw [hσ7, workS_fs, hfs2]
   intro q hq
   obtain ⟨x, hx, rfl⟩ := List.mem_map.1 hq
   have := hsub x hx
   rw [← hfs2] at this
   obtain ⟨q, hq', e'⟩ := List.mem_map.1 this
   rw [← e']
   exact hq'
 ·rcases m1 q hq with h1 | ⟨h1, c, t, z, h2⟩
  ·rcases hu1 q h1 with h3 | ⟨h3, c, t, z, h4⟩
   ·exact Or.inl h3
   ·refine Or.inr ⟨⟨h3, fun h5 => ?_⟩, c, t, z, hk7.cells ((hb3W.block q (hp3.still q h1)).trans h4) (hp3.notP q h1)⟩
    have := hp3.still q h1
    have := (hnmW q h5).1
    omega
  ·refine Or.inr ⟨⟨by omega, fun h5 => ?_⟩, c, t, z, h2⟩
   have := (hnmW q h5).2
   omega
theorem delNone (c : Nat) (a : Option Addr) (fs : List (Nat × Fd)) (x : By) (hs : Sh w S a fs) (hc : w.cell? ⟨e, 0, none⟩ = some (.slice a fs.length c)) (hl : fs.length ≤ 100) (hnew : findF fs x = none) :
  Calls Tryz.prog 55 #[.pointer (some ⟨e, 0, none⟩), .string ⟨x.toArray⟩] w fun r w' => r = .returned (.tuple #[.slice none 0 0, .nilFunc, .int .i64 5]) ∧ w = w' := by
 have HF := tZ (find101 x e c a fs w hs hc (by omega))
 rw [findB, hnew] at HF
 have HF' := tZ (show Calls Tryz.prog 58 #[.pointer (some ⟨e, 0, none⟩), .string ⟨x.toArray⟩] w fun r w' => r = .returned (.pointer none) ∧ w = w' from HF.out)
 clear hs hc HF
 go_enter Tryz.func55, Tryz.ntmps55
 go_wp2_with (first | (go_at_call 58; refine HF'.out.mono ?_; rintro r w1 ⟨rfl, rfl⟩))
 refine bodyPost_ret (v := .tuple #[.slice none 0 0, .nilFunc, .int .i64 5]) (by simp [results, Tryz.results55, go_sem]) (by simp [go_sem]) ?_
 exact ⟨rfl, rfl⟩
theorem delSome (at_ : Nat) (x : By) (h : PhS w S e D σ v1 v2 v3 v4 v5 te) (hnd : σ.ord.Nodup) (hl : σ.ord.length ≤ 100) (hat : σ.ord[at_]? = some b) (hf : findF σ.fs x = some (b, σ.mem b)) :
  Calls Tryz.prog 55 #[.pointer (some ⟨e, 0, none⟩), .string ⟨x.toArray⟩] w (StOk S e D σ [.ord (σ.ord.eraseIdx at_)] v1 v2 v3 v4 v5 te (hangP [x] (σ.fs.eraseIdx at_)) (σ.fs.eraseIdx at_) w) := by
 obtain ⟨hatl, hatb⟩ := List.getElem?_eq_some_iff.1 hat
 have hfl : σ.fs.length = σ.ord.length := by simp [Sta.fs]
 obtain ⟨a, c, hsh, hcc, hac, hrow⟩ := h.sh
 have hel : e < w.heap.size := h.lt
 obtain ⟨⟨e0, e1, e2, e3, e4, e5⟩, ⟨z0, z1, z2, z3, z4, z5⟩, _⟩ := row6 hrow
 have HF := tZ (find101 x e c a σ.fs w hsh e0 (by omega))
 rw [findB_some hf] at HF
 have HI := tZ (index136 a c b at_ σ.fs w hsh (by omega) (by omega) (by simp [Sta.fs, hatb]) (fun i hi hlt => by
  have := List.pairwise_iff_getElem.1 hnd i at_ (by omega) hatl hlt
  simpa [Sta.fs, ← hatb] using this))
 have hatF : at_ < σ.fs.length := by omega
 obtain ⟨ga, oa, rfl, hq1, hq2⟩ := hsh.ptr at_ hatF
 have z6 : (at_ : Int) + 1 ≤ (σ.fs.length : Int) := by omega
 have z7 : (σ.fs.length : Int) ≤ (c : Int) := by omega
 have z4' : (at_ : Int) + 1 ≤ (c : Int) := by omega
 have hatz : (at_ : Int) ≤ (σ.fs.length : Int) := by omega
 have hcz : (at_ : Int) ≤ (c : Int) := by omega
 have hwr : IntKind.i64.wrap ((at_ : Int) + 1) = (at_ : Int) + 1 := by rw [IntKind.wrap_i64]; omega
 have z8 : (at_ : Int) < 100 := by omega
 have z9 : at_ + 1 ≤ c := by omega
 have z10 : at_ < c := by omega
 have z11 : at_ ≤ c := by omega
 have z14 : at_ + 1 ≤ σ.fs.length := by omega
 have HS := tZ hsh
 have HPH := tZ h
 have HFL := tZ (show σ.fs.length = σ.ord.length ∧ σ.fs.length ≤ 100 from ⟨hfl, by omega⟩)
 clear hq1 hq2 hsh hrow h hnd hat hatb hatl hfl hf hac hcc hl
 go_enter Tryz.func55, Tryz.ntmps55
 go_wp2_with (first | (go_at_call 58; refine HF.out.mono ?_; rintro r w1 ⟨rfl, rfl⟩) | (go_at_call 77; refine HI.out.mono ?_; rintro r w1 ⟨rfl, rfl⟩))
 have hcat : catP [σ.fs.take at_, σ.fs.drop (at_ + 1)] = σ.fs.eraseIdx at_ := by simp [catP, List.eraseIdx_eq_take_drop_succ]
 have hfe : (⟨σ.ord.eraseIdx at_, σ.mem⟩ : Sta).fs = σ.fs.eraseIdx at_ := by
  unfold Sta.fs
  rw [List.eraseIdx_eq_take_drop_succ, List.eraseIdx_eq_take_drop_succ, List.map_append, List.map_take, List.map_drop]
 have hle : (σ.fs.eraseIdx at_).length = (σ.ord.eraseIdx at_).length := by rw [← hfe]; simp [Sta.fs]
 have hll : (σ.fs.eraseIdx at_).length ≤ σ.fs.length := List.length_eraseIdx_le _ _
 have HCON := tZ (show ∀ (c4 : Nat) (a4 : Addr), PtAt w (.slice (some a4) (σ.fs.length - (at_ + 1)) c4) (σ.fs.drop (at_ + 1)) → Calls Tryz.prog 76 #[.slice (some ⟨w.heap.size, 0, none⟩) 2 2] (w.alloc (.cells #[.slice (some ⟨ga, oa, none⟩) at_ c, .slice (some a4) (σ.fs.length - (at_ + 1)) c4] 58)).drew fun r w2 => ∃ an ln cn, r = .returned (.slice an ln cn) ∧ Hid (Calls Tryz.prog 75 #[.pointer (some ⟨e, 0, none⟩), .slice an ln cn] w2 fun r w3 => ∃ N1 cs1, r = .returned (.func (.func N1) #[] cs1) ∧ Hid (∃ S3 : Nat → Prop, (∀ q, S q → S3 q) ∧ (∀ q, S3 q → S q ∨ (w.heap.size ≤ q ∧ ∃ c t z, w3.heap[q]? = some (.cells c t z))) ∧ PhS w3 S3 e D ⟨σ.ord.eraseIdx at_, σ.mem⟩ v1 v2 v3 v4 v5 te ∧ BkAt e D w3 S3 N1 cs1 [.ord σ.ord] ∧ Ks (fun q => q = e ∨ D q) w w3)) from fun c4 a4 h4 => by
  have hbW : Below w.heap.size w (w.alloc (.cells #[.slice (some ⟨ga, oa, none⟩) at_ c, .slice (some a4) (σ.fs.length - (at_ + 1)) c4] 58)).drew := (bZ _).drew
  have hrow : (w.alloc (.cells #[.slice (some ⟨ga, oa, none⟩) at_ c, .slice (some a4) (σ.fs.length - (at_ + 1)) c4] 58)).drew.heap[w.heap.size]? = some (.cells #[.slice (some ⟨ga, oa, none⟩) at_ c, .slice (some a4) (σ.fs.length - (at_ + 1)) c4] 58 (0, 0)) := heap_alloc_new w _
  have hszW : (w.alloc (.cells #[.slice (some ⟨ga, oa, none⟩) at_ c, .slice (some a4) (σ.fs.length - (at_ + 1)) c4] 58)).drew.heap.size = w.heap.size + 1 := by simp
  generalize (w.alloc (.cells #[.slice (some ⟨ga, oa, none⟩) at_ c, .slice (some a4) (σ.fs.length - (at_ + 1)) c4] 58)).drew = W at *
  have hsW := HS.out.next hbW
  have r0 : W.cell? ⟨w.heap.size, 0, none⟩ = some (.slice (some ⟨ga, oa, none⟩) at_ c) := (cell_of_row _ _ 0 _ _ _ hrow).trans rfl
  have r1 : W.cell? ⟨w.heap.size, 1, none⟩ = some (.slice (some a4) (σ.fs.length - (at_ + 1)) c4) := (cell_of_row _ _ 1 _ _ _ hrow).trans rfl
  have p0 : PtAt W (.slice (some ⟨ga, oa, none⟩) at_ c) (σ.fs.take at_) := by
   have := hsW.part 0 at_ c (by omega)
   simpa using this
  have p1 := h4.next hbW
  refine (concat135 [σ.fs.take at_, σ.fs.drop (at_ + 1)] [.slice (some ⟨ga, oa, none⟩) at_ c, .slice (some a4) (σ.fs.length - (at_ + 1)) c4] w.heap.size 2 W rfl (by omega) (fun i hi => ?_) (by rw [hcat]; have := HFL.out.2; omega) (by simp)).mono ?_
  ·rcases (show i = 0 ∨ i = 1 by simp at hi; omega) with rfl | rfl
   ·exact ⟨r0, p0⟩
   ·exact ⟨r1, p1⟩
  ·rintro r w2 ⟨v, rfl, ho, hb2⟩
   rw [hcat] at ho
   obtain ⟨an, cn, rfl⟩ := own_len ho
   refine ⟨an, _, cn, rfl, ?_⟩
   have hb02 : Below w.heap.size w w2 := hbW.trans (hb2.mono hbW.size)
   have hsz := hbW.size
   have hob : ∀ q, (Value.slice an (σ.fs.eraseIdx at_).length cn).ownBlock = some q → W.heap.size ≤ q ∧ q < w2.heap.size := fun q hq => ho.lt q hq
   have hoc : ∀ q, (Value.slice an (σ.fs.eraseIdx at_).length cn).ownBlock = some q → ∃ c t z, w2.heap[q]? = some (.cells c t z) := fun q hq => by
    rcases ho.2 with ⟨h3, _⟩ | ⟨g, cap, cur, h3, _, h4, _⟩
    ·rw [h3] at hq; simp [Value.ownBlock] at hq
    ·rw [h3] at hq
     simp [Value.ownBlock] at hq
     subst hq
     exact ⟨_, _, _, h4⟩
   have hel' := HPH.out.lt
   have hp2 : PhS w2 (fun q => S q ∨ (Value.slice an (σ.fs.eraseIdx at_).length cn).ownBlock = some q) e D σ v1 v2 v3 v4 v5 te := (HPH.out.next hb02).wide (fun q hq => Or.inl hq) fun q hq => hq.imp id fun h1 => ⟨(hob q h1).2, by have := (hob q h1).1; omega, fun h2 => by have := (HPH.out.fld q h2).lt; have := (hob q h1).1; omega⟩
   have hra : RowAt w2 (fun q => S q ∨ (Value.slice an (σ.fs.eraseIdx at_).length cn).ownBlock = some q) an (σ.ord.eraseIdx at_) := fun j hj => by
    have hj' : j < (σ.fs.eraseIdx at_).length := by omega
    obtain ⟨g5, cap5, e5, _, _⟩ := ho.form (by omega)
    cases e5
    refine ⟨g5, 0, rfl, Or.inr rfl, ?_⟩
    rw [Nat.zero_add, ho.cellAt j (by omega)]
    unfold ptrs
    rw [List.getElem?_map, List.getElem?_eq_getElem hj']
    have e6 : ((σ.fs.eraseIdx at_)[j]).1 = (σ.ord.eraseIdx at_)[j] := by
     have : (σ.fs.eraseIdx at_).map Prod.fst = σ.ord.eraseIdx at_ := by rw [← hfe, fs_fst]
     rw [← List.getElem_map Prod.fst]
     ·simp only [this]
     ·simpa using hj'
    simp [e6]
   have hput := putOrd hp2 (σ.ord.eraseIdx at_) an cn (fun q hq => HPH.out.sub q (List.mem_of_mem_eraseIdx hq)) hra (by
    rcases ho.2 with ⟨h3, h4⟩ | ⟨g, cap, cur, h3, _, _, h4, _⟩
    ·omega
    ·cases h3; omega) (fun h1 => by
    rcases ho.2 with ⟨h3, h4⟩ | ⟨g, cap, cur, h3, _⟩
    ·simp at h3; exact h3.2.2
    ·rw [h1] at h3; cases h3)
   rw [← hle] at hput
   refine hput.mono ?_
   rintro r w3 ⟨N1, cs1, S3, rfl, q0, q1, q2, q3, q4⟩
   refine ⟨N1, cs1, rfl, S3, fun q hq => q0 q (Or.inl hq), fun q hq => ?_, q2, q3, (Ks.of hb02).trans q4⟩
   rcases q1 q hq with (h1 | h1) | h1
   ·exact Or.inl h1
   ·obtain ⟨cc, t, z, h2⟩ := hoc q h1
    exact Or.inr ⟨by have := (hob q h1).1; omega, cc, t, z, q4.cells h2 (hp2.notP q (Or.inr h1))⟩
   ·exact Or.inr ⟨Nat.le_trans hb02.size h1.1, h1.2⟩)
 have HFIN := tZ (show ∀ (N1 : Nat) (cs1 : Array Value) (w3 : World), (∃ S3 : Nat → Prop, (∀ q, S q → S3 q) ∧ (∀ q, S3 q → S q ∨ (w.heap.size ≤ q ∧ ∃ c t z, w3.heap[q]? = some (.cells c t z))) ∧ PhS w3 S3 e D ⟨σ.ord.eraseIdx at_, σ.mem⟩ v1 v2 v3 v4 v5 te ∧ BkAt e D w3 S3 N1 cs1 [.ord σ.ord] ∧ Ks (fun q => q = e ∨ D q) w w3) →
   Calls Tryz.prog 78 #[.pointer (some ⟨e, 0, none⟩), .string ⟨x.toArray⟩] w3 fun r w5 => ∃ ah lh ch, r = .returned (.slice ah lh ch) ∧ Hid (Calls Tryz.prog 66 #[.slice ah lh ch] w5 fun r w6 => ∃ an ln cn, r = .returned (.slice an ln cn) ∧ Hid (Calls Tryz.prog 79 #[.pointer (some ⟨e, 0, none⟩), .slice ah lh ch] w6 fun r w7 => ∃ N7 cs7, r = .returned (.func (.func N7) #[] cs7) ∧ Hid (Calls Tryz.prog 31 #[.slice (some ⟨w7.heap.size, 0, none⟩) 2 2] (w7.alloc (.cells #[.func (.func N1) #[] cs1, .func (.func N7) #[] cs7] 84)) fun r w8 => ∃ N8 cs8, r = .returned (.func (.func N8) #[] cs8) ∧ StOk S e D σ [.ord (σ.ord.eraseIdx at_)] v1 v2 v3 v4 v5 te (hangP [x] (σ.fs.eraseIdx at_)) (σ.fs.eraseIdx at_) w (.returned (.tuple #[.slice an ln cn, .func (.func N8) #[] cs8, .int .i64 0])) w8))) from by
  rintro N1 cs1 w3 ⟨S3, q0, q1, q2, q3, q4⟩
  obtain ⟨a3, c3, hSh3, _, _, hrow3⟩ := q2.sh
  rw [hfe] at hSh3 hrow3
  have hfl' := HFL.out.2
  refine (hanging137 x e c3 a3 (σ.fs.eraseIdx at_) w3 hSh3 (row6 hrow3).1.1 q2.lt (by omega)).mono ?_
  rintro r w5 ⟨vh, rfl, hown, hb5⟩
  have hkl := hangP_len [x] (σ.fs.eraseIdx at_)
  obtain ⟨t1, t2⟩ := tailFin (S := S) (w := w) (σ0 := σ) (ws1 := [.ord (σ.ord.eraseIdx at_)]) (hs := hangP [x] (σ.fs.eraseIdx at_)) (gs := σ.fs.eraseIdx at_) q4 q0 q1 q2 rfl hfe q3 (by omega) (by rw [← hle]; omega) (fun y hy => hangP_sub _ _ y hy) HPH.out.still vh hown hb5
  obtain ⟨ah, ch, rfl⟩ := own_len hown
  refine ⟨ah, _, ch, rfl, (t1 w5 (Below.refl _ _)).mono ?_⟩
  rintro r w6 ⟨an, cn, rfl, hon, hb6⟩
  exact ⟨an, _, cn, rfl, t2 an cn w6 hb6 hon⟩)
 have hs1 := HS.out
 by_cases y3 : c = at_ + 1
 ·have HC1 := tZ (HCON.out 0 ⟨ga, oa, none⟩ (by
   have e1 : σ.fs.length - (at_ + 1) = 0 := by omega
   rw [e1, List.drop_of_length_le (by omega)]
   exact PtAt.empty _ _ _))
  subst y3
  clear HCON hs1 hcat hfe hle hll HF HI
  go_wp2_with fail
  go_region_with (first | (go_at_call 76; refine HC1.out.mono ?_; rintro r w2 ⟨an, ln, cn, rfl, C2⟩) | (go_at_call 75; refine C2.out.mono ?_; rintro r w3 ⟨N1, cs1, rfl, C3⟩))
  all_goals have C4 := tZ (HFIN.out N1 cs1 w3 C3.out)
  all_goals clear C2 C3 HC1 HFIN
  all_goals go_wp2_with (first | (go_at_call 78; refine C4.out.mono ?_; rintro r w5 ⟨ah, lh, ch, rfl, C5⟩) | (go_at_call 66; refine C5.out.mono ?_; rintro r w6 ⟨am, lm, cm, rfl, C6⟩) | (go_at_call 79; refine C6.out.mono ?_; rintro r w7 ⟨N7, cs7, rfl, C7⟩) | (go_at_call 31; refine C7.out.mono ?_; rintro r w8 ⟨N8, cs8, rfl, hst⟩; have HST := tZ hst; clear hst))
  all_goals go_ret3
  all_goals exact HST.out
 ·have HC1 := tZ (HCON.out (c - (at_ + 1)) ⟨ga, oa + (at_ + 1), none⟩ (by
   have := hs1.part (at_ + 1) (σ.fs.length - (at_ + 1)) (c - (at_ + 1)) (by omega)
   rw [List.take_of_length_le (by simp)] at this
   exact this))
  clear HCON hs1 hcat hfe hle hll HF HI
  go_wp2_with fail
  go_region_with (first | (go_at_call 76; refine HC1.out.mono ?_; rintro r w2 ⟨an, ln, cn, rfl, C2⟩) | (go_at_call 75; refine C2.out.mono ?_; rintro r w3 ⟨N1, cs1, rfl, C3⟩))
  all_goals have C4 := tZ (HFIN.out N1 cs1 w3 C3.out)
  all_goals clear C2 C3 HC1 HFIN
  all_goals go_wp2_with (first | (go_at_call 78; refine C4.out.mono ?_; rintro r w5 ⟨ah, lh, ch, rfl, C5⟩) | (go_at_call 66; refine C5.out.mono ?_; rintro r w6 ⟨am, lm, cm, rfl, C6⟩) | (go_at_call 79; refine C6.out.mono ?_; rintro r w7 ⟨N7, cs7, rfl, C7⟩) | (go_at_call 31; refine C7.out.mono ?_; rintro r w8 ⟨N8, cs8, rfl, hst⟩; have HST := tZ hst; clear hst))
  all_goals go_ret3
  all_goals exact HST.out
end
end Go.Proofs.YtihgojcfpnhelabGreatDoor
