import Derived.Test.YtihgojcfpnhelaaGreatDoorSg
set_option linter.unusedVariables false
set_option linter.unusedSimpArgs false
namespace Go.Proofs.YtihgojcfpnhelaaGreatDoor
open Go.RowKit

/-- All but the blocks of P stands. -/
structure Ks (P : Nat → Prop) (w w' : World) : Prop where
  os : w'.os = w.os
  tape : w'.tape = w.tape
  output : w'.output = w.output
  size : w.heap.size ≤ w'.heap.size
  block : ∀ k, k < w.heap.size → ¬ P k → w'.heap[k]? = w.heap[k]?

theorem Ks.of {P : Nat → Prop} {w w' : World} (h : Below w.heap.size w w') : Ks P w w' := ⟨h.os, h.tape, h.output, h.size, fun k hk _ => h.block k hk⟩
theorem Ks.trans {P : Nat → Prop} {w w' w'' : World} (h : Ks P w w') (g : Ks P w' w'') : Ks P w w'' :=
  ⟨g.os.trans h.os, g.tape.trans h.tape, g.output.trans h.output, Nat.le_trans h.size g.size, fun k hk hP => (g.block k (Nat.lt_of_lt_of_le hk h.size) hP).trans (h.block k hk hP)⟩
theorem Ks.refl (P : Nat → Prop) (w : World) : Ks P w w := ⟨rfl, rfl, rfl, Nat.le_refl _, fun _ _ _ => rfl⟩
theorem Ks.wide {P P' : Nat → Prop} {w w' : World} (h : Ks P w w') (hp : ∀ q, P q → P' q) : Ks P' w w' := ⟨h.os, h.tape, h.output, h.size, fun k hk hn => h.block k hk fun hh => hn (hp k hh)⟩
theorem Ks.set {P : Nat → Prop} {w w' : World} (h : Ks P w w') (q j : Nat) (v : Value) (hq : P q) : Ks P w (w'.setCell ⟨q, j, none⟩ v) :=
  h.trans ⟨rfl, rfl, rfl, by simp, fun k _ hP => Below.heap_setCell _ _ _ _ (fun e => hP (by rw [show k = q from e]; exact hq))⟩
theorem Ks.alloc {P : Nat → Prop} {w w' : World} (h : Ks P w w') (o : Obj) : Ks P w (w'.alloc o) := h.trans (Ks.of ((Below.refl _ _).alloc (Nat.le_refl _) _))

def setV (fs : List (Nat × Fd)) (b : Nat) (v : Vl) : List (Nat × Fd) := fs.map fun f => if f.1 = b then (f.1, { f.2 with v := v }) else f
def ruleOf (fs : List (Nat × Fd)) (b : Nat) : Pt := match fs.find? (fun f => f.1 == b) with | some f => f.2.p | none => .atom 1 [] 0
/-- Fields are worked out anew, one behind the other. -/
def workP : List (Nat × Fd) → List Nat → List (Nat × Fd)
  | fs, [] => fs
  | fs, b :: r => workP (setV fs b (valP (rho fs) (ruleOf fs b))) r

theorem setV_length (fs : List (Nat × Fd)) (b : Nat) (v : Vl) : (setV fs b v).length = fs.length := by simp [setV]
theorem setV_fst (fs : List (Nat × Fd)) (b : Nat) (v : Vl) (j : Nat) (h : j < (setV fs b v).length) : ((setV fs b v)[j]).1 = (fs[j]'(by rwa [setV_length] at h)).1 := by
  simp only [setV, List.getElem_map]
  split <;> rfl

theorem FdAt.stays {w w' : World} {S : Nat → Prop} {b : Nat} {f : Fd} (h : FdAt w S b f) (hb : w'.heap[b]? = w.heap[b]?) (hS : ∀ q, S q → w'.heap[q]? = w.heap[q]?) : FdAt w' S b f := by
  obtain ⟨h1, h2, h3, h4, a, l, c, hh, hp⟩ := h
  exact ⟨h1, h2, h3, h4, a, l, c, hb.trans hh, hp.next hS⟩

/-- A field's worth is written. -/
theorem Sh.setV {w : World} {S : Nat → Prop} {a : Option Addr} {fs : List (Nat × Fd)} (h : Sh w S a fs) (b : Nat) (v : Vl) (hb : ¬ S b) : Sh ((w.setCell ⟨b, 5, none⟩ (.int .i64 v.1)).setCell ⟨b, 6, none⟩ (.int .i64 v.2)) S a (Go.Proofs.YtihgojcfpnhelaaGreatDoor.setV fs b v) := by
  have hoth : ∀ q, q ≠ b → ((w.setCell ⟨b, 5, none⟩ (.int .i64 v.1)).setCell ⟨b, 6, none⟩ (.int .i64 v.2)).heap[q]? = w.heap[q]? := fun q hq => by
    rw [Below.heap_setCell _ _ _ _ hq, Below.heap_setCell _ _ _ _ hq]
  have hSq : ∀ q, S q → q ≠ b := fun q hq e => hb (e ▸ hq)
  refine ⟨fun q hq => by simpa using h.still q hq, fun j hj => ?_, fun x hx => ?_⟩
  · obtain ⟨g, o, h1, h2, h3⟩ := h.ptr j (by rwa [setV_length] at hj)
    refine ⟨g, o, h1, h2, ?_⟩
    rw [World.cell?_of_block (hoth g (hSq g h2)), h3, setV_fst]
  · simp only [Go.Proofs.YtihgojcfpnhelaaGreatDoor.setV, List.mem_map] at hx
    obtain ⟨f, hf, rfl⟩ := hx
    have hF := h.fld f hf
    by_cases e : f.1 = b
    · rw [if_pos e]
      obtain ⟨h1, h2, h3, h4, a1, l1, c1, hh, hp⟩ := hF
      refine ⟨h1, h2, h3, h4, a1, l1, c1, ?_, hp.next fun q hq => hoth q (hSq q hq)⟩
      subst e
      simp only
      rw [setCell_block (setCell_block hh _ _)]
      rfl
    · rw [if_neg e]
      exact hF.stays (hoth _ e) fun q hq => hoth q (hSq q hq)

theorem infoBack : (Tryz.prog.info? 151).map (fun i => (i.zero, i.size, i.bytes)) = some (some .nilFunc, 1, 8) := by kernel_rfl

/-- Behind a Put of a field's worth. -/
structure PutI (S : Nat → Prop) (a : Option Addr) (fs : List (Nat × Fd)) (w w2 : World) (fr : List (Nat × Fd)) (v : Value) (j : Nat) (xs : List Value) : Prop where
  sh : Sh w2 S a fr
  ks : Ks (fun q => ∃ f, f ∈ fs ∧ f.1 = q) w w2
  own : w2.ownsRow w.heap.size 151 1 v j xs

theorem PutI.after {S : Nat → Prop} {a : Option Addr} {fs : List (Nat × Fd)} {w w2 : World} {fr : List (Nat × Fd)} {v : Value} {j : Nat} {xs : List Value} (h : PutI S a fs w w2 fr v j xs) {o : Obj} {w3 : World} {v' : Value} {j' : Nat} {xs' : List Value} (hg : (w2.alloc o).grownBy w3 v.ownBlock) (ho : w3.ownsRow w.heap.size 151 1 v' j' xs') (hS : ∀ q, S q → q < w.heap.size) (hf : ∀ f, f ∈ fr → f.1 < w.heap.size) : PutI S a fs w w3 fr v' j' xs' := by
  have hkeep : ∀ q, q < w.heap.size → w3.heap[q]? = w2.heap[q]? := fun q hq => by
    have := h.ks.size
    rw [hg.block q (by simp; omega) (fun e => by have := (h.own.lt q e.symm).1; omega), Below.heap_alloc _ _ _ (by omega)]
  refine ⟨⟨fun q hq => ?_, fun i hi => ?_, fun x hx => (h.sh.fld x hx).stays (hkeep _ (hf x hx)) fun q hq => hkeep q (hS q hq)⟩, ?_, ho⟩
  · have h1 := hS q hq
    have h2 := hg.size
    have h3 := h.ks.size
    simp at h2
    omega
  · obtain ⟨g, o, h1, h2, h3⟩ := h.sh.ptr i hi
    exact ⟨g, o, h1, h2, (World.cell?_of_block (a := ⟨g, o + i, none⟩) (hkeep g (hS g h2))).trans h3⟩
  · refine ⟨hg.os.trans h.ks.os, hg.tape.trans h.ks.tape, hg.output.trans h.ks.output, ?_, fun k hk hP => (hkeep k hk).trans (h.ks.block k hk hP)⟩
    have h2 := hg.size
    have h3 := h.ks.size
    simp at h2
    omega

/-- Working fields out: the state of the loop. -/
structure WkI (S : Nat → Prop) (a : Option Addr) (fs ks : List (Nat × Fd)) (w wr : World) (j : Nat) (v : Value) (fr : List (Nat × Fd)) : Prop where
  same : workP fs (ks.map fun f => f.1) = workP fr ((ks.drop j).map fun f => f.1)
  fst : fr.map (fun f => f.1) = fs.map fun f => f.1
  sh : Sh wr S a fr
  ks : Ks (fun q => ∃ f, f ∈ fs ∧ f.1 = q) w wr
  own : ∃ xs, wr.ownsRow w.heap.size 151 1 v j xs

theorem WkI.mem {S : Nat → Prop} {a : Option Addr} {fs ks : List (Nat × Fd)} {w wr : World} {j : Nat} {v : Value} {fr : List (Nat × Fd)} (h : WkI S a fs ks w wr j v fr) {b : Nat} (hb : ∃ f, f ∈ fs ∧ f.1 = b) : ∃ f, f ∈ fr ∧ f.1 = b ∧ ruleOf fr b = f.2.p := by
  obtain ⟨f, hf, rfl⟩ := hb
  have h1 : f.1 ∈ fr.map (fun f => f.1) := by rw [h.fst]; exact List.mem_map_of_mem hf
  obtain ⟨f', hf', he⟩ := List.mem_map.1 h1
  cases hh : fr.find? (fun x => x.1 == f.1) with
  | none =>
    rw [List.find?_eq_none] at hh
    exact absurd (by simpa using he) (by simpa using hh f' hf')
  | some g => exact ⟨g, List.mem_of_find?_eq_some hh, by simpa using List.find?_some hh, by simp [ruleOf, hh]⟩

theorem map_setV (fs : List (Nat × Fd)) (b : Nat) (v : Vl) : (setV fs b v).map (fun f => f.1) = fs.map fun f => f.1 := by
  simp only [setV, List.map_map]
  congr 1
  funext f
  simp only [Function.comp]
  split <;> rfl

set_option maxRecDepth 100000 in
set_option maxHeartbeats 4000000 in
theorem workOut139 {S : Nat → Prop} (e c ck : Nat) (a ak : Option Addr) (fs ks : List (Nat × Fd)) (w : World) (hs : Sh w S a fs) (hc : w.cell? ⟨e, 0, none⟩ = some (.slice a fs.length c)) (he : e < w.heap.size) (hl : fs.length ≤ 500) (hkl : ks.length ≤ 500) (hef : ∀ f, f ∈ fs → f.1 ≠ e)
    (hk : ∀ j (h : j < ks.length), (∃ f, f ∈ fs ∧ f.1 = (ks[j]).1) ∧ ∃ g o, ak = some ⟨g, o, none⟩ ∧ g < w.heap.size ∧ (∀ f, f ∈ fs → f.1 ≠ g) ∧ w.cell? ⟨g, o + j, none⟩ = some (.pointer (some ⟨(ks[j]).1, 0, none⟩))) :
    Calls Tryz.prog 167 #[.pointer (some ⟨e, 0, none⟩), .slice ak ks.length ck] w fun r w' => ∃ g, r = .returned (.func (.func 106) #[] #[.pointer (some ⟨g, 0, none⟩)]) ∧ Sh w' S a (workP fs (ks.map fun f => f.1)) ∧ Ks (fun q => ∃ f, f ∈ fs ∧ f.1 = q) w w' := by
  have HS := toHid hs
  have HK := toHid hk
  obtain ⟨i1, gi, gz0, gz1, gz2⟩ := info_parts infoBack
  clear hs hk
  go_enter Tryz.func167, Tryz.ntmps167
  go_wp2_with fail
  go_loopg [5, 7, 10] ks.length (fun gk s5 _ s10 wr => ∃ (j : Nat) (fr : List (Nat × Fd)), j ≤ ks.length ∧ ks.length ≤ j + gk ∧ s10 = .int .i64 (j : Int) ∧ Hid (WkI S a fs ks w wr j s5 fr))
  case atStart => exact ⟨0, fs, Nat.zero_le _, by omega, rfl, ⟨rfl, rfl, HS.out, Ks.refl _ _, [], World.ownsRow_nil _ _ _ _⟩⟩
  case round =>
    obtain ⟨j, fr, hj, hgk, rfl, HI⟩ := hrel
    have hfl : fr.length = fs.length := by have := congrArg List.length HI.out.fst; simpa using this
    have hsz := HI.out.ks.size
    by_cases hlt : j < ks.length
    · have hltz : (j : Int) < (ks.length : Int) := by omega
      obtain ⟨hmem, g, o, rfl, hg, hgf, hp⟩ := HK.out j hlt
      have hp' := (World.cell?_of_block (a := ⟨g, o + j, none⟩) (HI.out.ks.block g hg (fun ⟨f, hf, he⟩ => hgf f hf he))).trans hp
      obtain ⟨f, hf, hfb, hrule⟩ := HI.out.mem hmem
      have hF := HI.out.sh.fld f hf
      have hFS := hF.1
      have hFl := hF.lt
      obtain ⟨_, hsh, _, _, a2, l2, c2, hb2, hP2⟩ := hF
      obtain ⟨⟨k0, k1, k2, k3, k4, k5, k6⟩, hfz, _⟩ := row7 hb2
      have hce : wr.cell? ⟨e, 0, none⟩ = some (.slice a fr.length c) := by
        rw [hfl]
        exact (World.cell?_of_block (a := ⟨e, 0, none⟩) (HI.out.ks.block e he (fun ⟨f, hf, h⟩ => hef f hf h))).trans hc
      have HC := toHid (ruleWorth (.pointer (some ⟨e, 0, none⟩)) (rho fr) f.2.p a2 l2 c2 wr.drew (hP2.next fun _ _ => rfl) HI.out.sh.still hsh (fun x W hW => worth172 x e c a fr W ((HI.out.sh.next (Below.refl _ _).drew).next hW) ((hW.cell (p := ⟨e, 0, none⟩) (by show e < wr.heap.size; omega)).trans hce) (by have := hW.size; simp at this; omega) (by omega)))
      rw [hfb] at k0 k1 k2 k3 k4 k5 k6 hfz hFS hFl hb2
      have f5 := hfz 5
      have f6 := hfz 6
      obtain ⟨xs, hxs⟩ := HI.out.own
      obtain ⟨an, ln, cn, rfl⟩ := own_slice hxs
      have HXS := toHid hxs
      have hdrop := List.drop_eq_getElem_cons hlt
      have hbw : (ks[j]).1 < w.heap.size := by obtain ⟨f0, hf0, he0⟩ := hmem; rw [← he0]; exact (HS.out.fld f0 hf0).lt
      have HSAME := toHid (show workP fs (ks.map fun f => f.1) = workP (setV fr (ks[j]).1 (valP (rho fr) f.2.p)) ((ks.drop (j + 1)).map fun f => f.1) by
        rw [HI.out.same, hdrop, List.map_cons, workP, hrule])
      have HMEM := toHid hmem
      generalize (ks[j]).1 = b at *
      generalize hvv : valP (rho fr) f.2.p = vv at *
      have HPW := toHid (fun W (hW : Below wr.drew.heap.size wr.drew W) => (putValue b f.2.v.1 f.2.v.2 vv.1 vv.2 W ((hW.cell (p := ⟨b, 5, none⟩) hFl).trans k5) ((hW.cell (p := ⟨b, 6, none⟩) hFl).trans k6) ((hW.frozen (p := ⟨b, 5, none⟩) hFl).trans f5) ((hW.frozen (p := ⟨b, 6, none⟩) hFl).trans f6) (Nat.lt_of_lt_of_le hFl hW.size)).mono (R' := fun r w2 => ∃ g1 g2, r = .returned (.func (.func 219) #[] #[.pointer (some ⟨g1, 0, none⟩), .pointer (some ⟨g2, 0, none⟩)]) ∧ PutI S a fs w w2 (setV fr b vv) (.slice an ln cn) j xs ∧ ∃ cs, w2.heap[b]? = some (.cells #[.string ⟨f.2.nm.toArray⟩, .int .i64 (f.2.p.k : Int), .string ⟨f.2.p.nm.toArray⟩, .int .i64 (f.2.p.n : Int), .slice a2 l2 c2, .int .i64 vv.1, .int .i64 vv.2] cs (0, 0))) (by
        rintro r w2 ⟨rfl, rfl⟩
        have hWl := hW.size
        have hbW : b < W.heap.size := Nat.lt_of_lt_of_le hFl hW.size
        have hbel3 : Below ((W.setCell ⟨b, 5, none⟩ (.int .i64 vv.1)).setCell ⟨b, 6, none⟩ (.int .i64 vv.2)).heap.size ((W.setCell ⟨b, 5, none⟩ (.int .i64 vv.1)).setCell ⟨b, 6, none⟩ (.int .i64 vv.2)) _ := below3 ((W.setCell ⟨b, 5, none⟩ (.int .i64 vv.1)).setCell ⟨b, 6, none⟩ (.int .i64 vv.2)) (.cells #[.pointer (some ⟨b, 5, none⟩)] 287) (.cells #[.int .i64 vv.1, .int .i64 vv.2] 177) (.cells #[.int .i64 f.2.v.1, .int .i64 f.2.v.2] 177)
        refine ⟨_, _, rfl, ⟨?_, ?_, ?_⟩, ?_⟩
        · exact (((HI.out.sh.next (Below.refl _ _).drew).next hW).setV b vv hFS).next hbel3
        · exact ((((((HI.out.ks.trans (Ks.of ((Below.refl _ _).drew.trans hW))).set b 5 _ HMEM.out).set b 6 _ HMEM.out).alloc _).alloc _).alloc _)
        · exact own_below (own_set (own_set (own_below HXS.out ((Below.refl _ _).drew.trans hW)) hbw) hbw) hbel3
        · refine ⟨223, (hbel3.block b (by simpa using hbW)).trans ?_⟩
          rw [setCell_block (setCell_block ((hW.block b hFl).trans hb2) _ _)]
          rfl))
      have HC2 := toHid (show Calls Tryz.prog 197 #[.agg #[.int .i64 (f.2.p.k : Int), .string ⟨f.2.p.nm.toArray⟩, .int .i64 (f.2.p.n : Int), .slice a2 l2 c2], .func (.func 198) #[.pointer (some ⟨e, 0, none⟩)] #[]] wr.drew (VPost vv wr.drew) from HC.out)
      have HRW := toHid (fun W (hW : Below wr.drew.heap.size wr.drew W) => row7 ((hW.block b hFl).trans hb2))
      have HSW := toHid HS.out.still
      have HFW := toHid (show ∀ x, x ∈ setV fr b vv → x.1 < w.heap.size from fun x hx => by
        have h1 : x.1 ∈ (setV fr b vv).map fun f => f.1 := List.mem_map_of_mem hx
        rw [map_setV, HI.out.fst] at h1
        obtain ⟨f0, hf0, he0⟩ := List.mem_map.1 h1
        rw [← he0]
        exact (HS.out.fld f0 hf0).lt)
      clear HC hfz hb2 hdrop hxs hrule
      go_wp2_with fail
      go_region_held3 (fun w' => w'.cell? ⟨b, 1, none⟩ = some (.int .i64 (f.2.p.k : Int)) ∧ w'.cell? ⟨b, 2, none⟩ = some (.string ⟨f.2.p.nm.toArray⟩) ∧ w'.cell? ⟨b, 3, none⟩ = some (.int .i64 (f.2.p.n : Int)) ∧ w'.cell? ⟨b, 4, none⟩ = some (.slice a2 l2 c2)) (first | go_keep | (go_split_ands; exact ⟨n1, n2, n3, n4⟩)) (first | (go_at_call 197; refine HC2.out.mono ?_; rintro e w1 ⟨rfl, hb1⟩; obtain ⟨⟨n0, n1, n2, n3, n4, n5, n6⟩, _, _⟩ := HRW.out _ hb1; have B1 := toHid hb1; clear hb1) | (go_at_call 196; refine (HPW.out _ B1.out).mono ?_; rintro e w2 ⟨g1, g2, rfl, hpi, tcs, hrow⟩; obtain ⟨⟨n0, n1, n2, n3, n4, n5, n6⟩, _, _⟩ := row7 hrow; have B2 := toHid hpi; have B3 := toHid hrow; clear hpi hrow) | (refine step_append_lies _ (by rfl) (.tmp 14) (.tmp 26) 104 (by rfl) w.heap.size 151 i1 .nilFunc 1 8 Tryz.underlying104 gi gz0 gz1 gz2 rfl (by decide) (.slice an ln cn) j xs (by rfl) (B2.out.own.alloc _) ⟨w2.heap.size, 0, none⟩ 1 1 [.func (.func 219) #[] #[.pointer (some ⟨g1, 0, none⟩), .pointer (some ⟨g2, 0, none⟩)]] (by rfl) rfl (fun q u hq => cells_new w2 [.func (.func 219) #[] #[.pointer (some ⟨g1, 0, none⟩), .pointer (some ⟨g2, 0, none⟩)]] 151 q u hq) (fun u hu => by simp at hu; subst hu; rfl) (by omega) (by unfold maxLen; omega) (by omega) (by have := B2.out.ks.size; simp; omega) (w2.heap.size + 1) (by simp) ?_; intro g' cap' w3 hown' hgrow hat hltg; obtain ⟨⟨n0, n1, n2, n3, n4, n5, n6⟩, _, _⟩ := row7 ((hgrow.block b (by have := B2.out.ks.size; simp; omega) (fun e => by have := (B2.out.own.lt b e.symm).1; omega)).trans ((Below.heap_alloc w2 _ _ (by have := B2.out.ks.size; omega)).trans B3.out)); have B4 := toHid hown'; have B5 := toHid (B2.out.after hgrow hown' HSW.out HFW.out); clear hown' hgrow))
      all_goals go_wp2
      all_goals go_roundg (ks.length - (j + 1))
      all_goals try (case measure => omega)
      all_goals exact ⟨j + 1, setV fr b vv, by omega, by omega, by go_num, ⟨HSAME.out, (map_setV _ _ _).trans HI.out.fst, B5.out.sh, B5.out.ks, _, B5.out.own⟩⟩
    · have hltz : ¬ (j : Int) < (ks.length : Int) := by omega
      obtain rfl : j = ks.length := by omega
      obtain ⟨an, ln, cn, rfl⟩ := own_slice HI.out.own.choose_spec
      have HA := toHid (all138 an ln cn wr)
      go_wp2_with (first | (go_at_call 72; refine HA.out.mono ?_; rintro e w1 ⟨rfl, rfl⟩))
      go_ret
      refine ⟨_, rfl, ?_, HI.out.ks.alloc _⟩
      rw [HI.out.same, List.drop_length]
      exact HI.out.sh.next ((Below.refl _ _).alloc (Nat.le_refl _) _)
end Go.Proofs.YtihgojcfpnhelaaGreatDoor
