import Derived.Test.YtihgojcfpnhelaaGreatDoorSk
import Derived.Lib.SliceRun
set_option linter.unusedVariables false
set_option linter.unusedSimpArgs false
namespace Go.Proofs.YtihgojcfpnhelaaGreatDoor
open Go.RowKit

set_option maxRecDepth 100000 in
set_option maxHeartbeats 4000000 in
theorem delete100 (g c' : Nat) (fv : Fn) (cs : Array Value) (w : World) (h0 : w.cell? ⟨g, 0, none⟩ = some (.func fv #[] cs)) (hf : w.frozen? ⟨g, 0, none⟩ = false) :
    Calls Tryz.prog 136 #[.slice (some ⟨g, 0, none⟩) 1 (c' + 1), .int .i64 0, .int .i64 1] w fun r w' => r = .returned (.slice (some ⟨g, 0, none⟩) 0 (c' + 1)) ∧ Ks (fun q => q = g) w w' ∧ w'.heap.size = w.heap.size ∧ w'.heap[g]? = (w.setCell ⟨g, 0, none⟩ .nilFunc).heap[g]? := by
  obtain ⟨i1, gi, gz0, gz1, gz2⟩ := info_parts infoBack
  have hnil : ∀ W : World, W.setCells g 0 [] = W := fun W => by simp [World.setCells]
  have hone : ∀ W : World, W.setCells g 0 [.nilFunc] = W.setCell ⟨g, 0, none⟩ .nilFunc := fun W => by simp [World.setCells]
  have hclr : ∀ c, (Builtin.clear_ #[104] 0 #[.slice (some ⟨g, 0, none⟩) 1 c]).run Tryz.prog w.drew = .ok (.tuple #[]) (w.drew.setCell ⟨g, 0, none⟩ .nilFunc) := fun c => by
    have := Lib.run_clear_slice (P := Tryz.prog) w.drew 104 151 0 .nilFunc Tryz.underlying104 (fun W => by simp [zeroValue, typeInfo, gi, gz0]) rfl rfl g 0 1 c (by omega) (fun j hj => by
      obtain rfl : j = 0 := by omega
      show (w.cell? ⟨g, 0, none⟩).isSome = true
      rw [h0]; rfl) (fun j hj => by
      obtain rfl : j = 0 := by omega
      exact hf)
    rw [show List.replicate 1 Value.nilFunc = [.nilFunc] from rfl, hone] at this
    exact this
  have HFIN := toHid (show Ks (fun q => q = g) w (w.drew.setCell ⟨g, 0, none⟩ .nilFunc) ∧ (w.drew.setCell ⟨g, 0, none⟩ .nilFunc).heap.size = w.heap.size ∧ (w.drew.setCell ⟨g, 0, none⟩ .nilFunc).heap[g]? = (w.setCell ⟨g, 0, none⟩ .nilFunc).heap[g]? from ⟨(Ks.of (Below.refl _ _).drew).set g 0 _ rfl, by simp, rfl⟩)
  go_enter Tryz.func136, Tryz.ntmps136
  go_wp2_with fail
  by_cases hc0 : c' = 0
  · subst hc0
    go_region_law (refine step_append_room (by rfl) (.tmp 22) (.tmp 25) 104 (by rfl) 151 i1 1 Tryz.underlying104 gi gz1 g 0 0 1 (by rfl) ⟨g, 0, none⟩ 0 0 [] (by rfl) rfl (fun j u h => by simp at h) (fun u h => by simp at h) (by omega) (fun j h => by simp at h) ?_)
    all_goals go_wp2_with fail
    all_goals refine bodyPost_ret (v := .slice (some ⟨g, 0, none⟩) 0 (0 + 1)) (by simp [results, Tryz.results136, go_sem]) (by simp [go_sem]) ?_
    all_goals exact ⟨rfl, HFIN.out⟩
  · have q1 : (0 : Int) ≤ (c' : Int) + 1 := by omega
    have q2 : (0 : Int) ≤ (c' : Int) := by omega
    have q3 : (1 : Int) ≤ (c' : Int) + 1 := by omega
    go_region_law (refine step_append_room (by rfl) (.tmp 22) (.tmp 25) 104 (by rfl) 151 i1 1 Tryz.underlying104 gi gz1 g 0 0 (c' + 1) (by rfl) ⟨g, 1, none⟩ 0 c' [] (by rfl) rfl (fun j u h => by simp at h) (fun u h => by simp at h) (by omega) (fun j h => by simp at h) ?_)
    all_goals go_wp2_with fail
    all_goals refine bodyPost_ret (v := .slice (some ⟨g, 0, none⟩) 0 (c' + 1)) (by simp [results, Tryz.results136, go_sem]) (by simp [go_sem]) ?_
    all_goals exact ⟨rfl, HFIN.out⟩
end Go.Proofs.YtihgojcfpnhelaaGreatDoor
namespace Go.Proofs.YtihgojcfpnhelaaGreatDoor
open Go.RowKit

theorem own_setNe {w : World} {base z n q j : Nat} {e : TypeId} {v u : Value} {xs : List Value} (h : w.ownsRow base e z v n xs) (hq : v.ownBlock ≠ some q) : (w.setCell ⟨q, j, none⟩ u).ownsRow base e z v n xs := by
  obtain ⟨h1, h2⟩ := h
  refine ⟨h1, h2.imp id ?_⟩
  rintro ⟨g, cap, cur, rfl, h4, h5, h6⟩
  exact ⟨g, cap, cur, rfl, h4, (Below.heap_setCell _ _ _ _ (by show g ≠ q; intro e; exact hq (by rw [e]; rfl))).trans h5, h6⟩

/-- What 'keep' leaves: so many edits of M. -/
def KeepPost (B e M n : Nat) (v0 dv v4 v5 : Value) (te : TypeId) (w : World) (r : Ending) (w' : World) : Prop :=
  ∃ dv' bs, r = .returned (.tuple #[]) ∧ w'.heap[e]? = some (.cells #[v0, .int .i64 (M : Int), dv', .slice none 0 0, v4, v5] te (0, 0)) ∧ w'.ownsRow B 151 1 dv' n bs ∧ (dv'.ownBlock = dv.ownBlock ∨ ∃ g, dv'.ownBlock = some g ∧ w.heap.size ≤ g) ∧ Ks (fun q => q = e ∨ dv.ownBlock = some q) w w'

set_option maxRecDepth 100000 in
set_option maxHeartbeats 4000000 in
theorem keep66 (B e : Nat) (v0 : Value) (ad : Option Addr) (ld cd : Nat) (au : Option Addr) (lu cu : Nat) (v4 v5 : Value) (te : TypeId) (fv : Fn) (cs : Array Value) (w : World) (he : w.heap[e]? = some (.cells #[v0, .int .i64 0, .slice ad ld cd, .slice au lu cu, v4, v5] te (0, 0))) (hB : B ≤ w.heap.size) (ho : w.ownsRow B 151 1 (.slice ad ld cd) 0 []) (hne : (Value.slice ad ld cd).ownBlock ≠ some e) :
    Calls Tryz.prog 100 #[.pointer (some ⟨e, 1, none⟩), .func fv #[] cs] w (KeepPost B e 0 0 v0 (.slice ad ld cd) v4 v5 te w) := by
  obtain ⟨⟨e0, e1, e2, e3, e4, e5⟩, ⟨z0, z1, z2, z3, z4, z5⟩, hel⟩ := row6 he
  obtain ⟨i1, gi, gz0, gz1, gz2⟩ := info_parts infoBack
  have HO := toHid (own_setNe (j := 3) (u := .slice none 0 0) ho hne)
  have HE := toHid he
  clear ho he
  go_enter Tryz.func100, Tryz.ntmps100
  go_wp2_with (first | (at_builtin; refine wpList_append_lies _ rfl (.tmp 11) (.tmp 13) 104 rfl B 151 i1 .nilFunc 1 8 Tryz.underlying104 gi gz0 gz1 gz2 rfl (by decide) (.slice ad ld cd) 0 [] rfl (HO.out.alloc _) ⟨w.heap.size, 0, none⟩ 1 1 [.func fv #[] cs] rfl rfl (fun q u hq => by have := cells_new (w.setCell ⟨e, 3, none⟩ (.slice none 0 0)) [.func fv #[] cs] 151 q u hq; simpa using this) (fun u hu => by simp at hu; subst hu; rfl) (by omega) (by unfold maxLen; omega) (by omega) (by simp; omega) (w.heap.size + 1) (by simp) ?_; intro g cap w2 hown hgrow hat hlt; refine Hid.out ?_))
  obtain ⟨c', hc'⟩ : ∃ c', cap = c' + 1 := by
    rcases hown.2 with ⟨h1, _⟩ | ⟨g', cap', cur, h1, _, _, h2, _⟩
    · simp at h1
    · simp at h1
      exact ⟨cap - 1, by omega⟩
  subst hc'
  have hge : g ≠ e := by
    rcases hat with h | h
    · intro e'; rw [e'] at h; exact hne h
    · omega
  have hrow2 : w2.heap[e]? = some (.cells #[v0, .int .i64 0, .slice ad ld cd, .slice none 0 0, v4, v5] te (0, 0)) := by
    rw [hgrow.block e (by simp; omega) (fun h => hne h.symm), Below.heap_alloc _ _ _ (by simpa using hel), setCell_block HE.out]
    rfl
  obtain ⟨⟨k0, k1, k2, k3, k4, k5⟩, ⟨y0, y1, y2, y3, y4, y5⟩, hel2⟩ := row6 hrow2
  have hc0 := hown.cellAt 0 (by omega)
  have hf0 := hown.frozenAt 0
  simp at hc0
  have HOW := toHid hown
  have HGR := toHid hgrow
  have HAT := toHid hat
  have HR2 := toHid hrow2
  have hge' : e ≠ g := fun h => hge h.symm
  clear hown hgrow hat hrow2
  refine toHid ?_
  have HD := toHid (fun (W : World) (hW : W.heap = (w2.setCell ⟨e, 2, none⟩ (.slice (some ⟨g, 0, none⟩) 1 (c' + 1))).heap) => delete100 g c' fv cs W ((World.cell?_of_block (w := w2) (a := ⟨g, 0, none⟩) (by rw [hW]; exact Below.heap_setCell _ _ _ _ hge)).trans hc0) ((World.frozen?_of_block (w := w2) (a := ⟨g, 0, none⟩) (by rw [hW]; exact Below.heap_setCell _ _ _ _ hge)).trans hf0))
  have HD2 := toHid (HD.out (w2.setCell ⟨e, 2, none⟩ (.slice (some ⟨g, 0, none⟩) 1 (c' + 1))).drew rfl)
  have HFIN := toHid (show ∀ w3, Ks (fun q => q = g) (w2.setCell ⟨e, 2, none⟩ (.slice (some ⟨g, 0, none⟩) 1 (c' + 1))).drew w3 → w3.heap[g]? = ((w2.setCell ⟨e, 2, none⟩ (.slice (some ⟨g, 0, none⟩) 1 (c' + 1))).drew.setCell ⟨g, 0, none⟩ .nilFunc).heap[g]? → w3.heap[e]? = some (.cells #[v0, .int .i64 0, .slice (some ⟨g, 0, none⟩) 1 (c' + 1), .slice none 0 0, v4, v5] te (0, 0)) ∧ KeepPost B e 0 0 v0 (.slice ad ld cd) v4 v5 te w (.returned (.tuple #[])) (w3.setCell ⟨e, 2, none⟩ (.slice (some ⟨g, 0, none⟩) 0 (c' + 1))) from fun w3 hk3 hg3 => by
    have hr3 : w3.heap[e]? = some (.cells #[v0, .int .i64 0, .slice (some ⟨g, 0, none⟩) 1 (c' + 1), .slice none 0 0, v4, v5] te (0, 0)) := by
      rw [hk3.block e (by simpa using hel2) (fun h => hge' h)]
      show (w2.setCell ⟨e, 2, none⟩ (.slice (some ⟨g, 0, none⟩) 1 (c' + 1))).heap[e]? = _
      rw [setCell_block HR2.out]
      rfl
    refine ⟨hr3, .slice (some ⟨g, 0, none⟩) 0 (c' + 1), [], rfl, ?_, ?_, ?_, ?_⟩
    · rw [setCell_block hr3]
      rfl
    · rcases HOW.out.2 with ⟨h1, _⟩ | ⟨g', cap', cur, h1, h2, h3, h4, h5, h6, _⟩
      · simp at h1
      · simp at h1
        obtain ⟨rfl, rfl⟩ := h1
        refine ⟨by simp, Or.inr ⟨g, c' + 1, cur.setIfInBounds 0 .nilFunc, rfl, h2, ?_, Nat.zero_le _, h5, by simpa using h6, by simp⟩⟩
        rw [Below.heap_setCell _ _ _ _ hge, hg3]
        refine setCell_block (w := (w2.setCell ⟨e, 2, none⟩ (.slice (some ⟨g, 0, none⟩) 1 (c' + 1))).drew) ?_ 0 .nilFunc
        show (w2.setCell ⟨e, 2, none⟩ (.slice (some ⟨g, 0, none⟩) 1 (c' + 1))).heap[g]? = _
        rw [Below.heap_setCell _ _ _ _ hge]
        exact h3
    · rcases HAT.out with h | h
      · exact Or.inl h.symm
      · exact Or.inr ⟨g, rfl, by omega⟩
    · have hsz2 := HGR.out.size
      simp at hsz2
      have k1 : Ks (fun q => q = e ∨ (Value.slice ad ld cd).ownBlock = some q) w (((w.setCell ⟨e, 3, none⟩ (.slice none 0 0)).alloc (.cells #[.func fv #[] cs] 151))) := ((Ks.refl _ w).set e 3 _ (Or.inl rfl)).alloc _
      have k2 : Ks (fun q => q = e ∨ (Value.slice ad ld cd).ownBlock = some q) ((w.setCell ⟨e, 3, none⟩ (.slice none 0 0)).alloc (.cells #[.func fv #[] cs] 151)) w2 := ⟨HGR.out.os, HGR.out.tape, HGR.out.output, HGR.out.size, fun k hk hn => HGR.out.block k hk (fun h => hn (Or.inr h.symm))⟩
      have k3 := (k1.trans k2).set e 2 (.slice (some ⟨g, 0, none⟩) 1 (c' + 1)) (Or.inl rfl)
      have k4 : Ks (fun q => q = e ∨ (Value.slice ad ld cd).ownBlock = some q) w (w2.setCell ⟨e, 2, none⟩ (.slice (some ⟨g, 0, none⟩) 1 (c' + 1))).drew := k3.trans (Ks.of (Below.refl _ _).drew)
      have k5 : Ks (fun q => q = e ∨ (Value.slice ad ld cd).ownBlock = some q) w w3 := by
        refine ⟨hk3.os.trans k4.os, hk3.tape.trans k4.tape, hk3.output.trans k4.output, Nat.le_trans k4.size hk3.size, fun k hk hn => ?_⟩
        rw [hk3.block k (Nat.lt_of_lt_of_le hk k4.size) (fun h => ?_)]
        · exact k4.block k hk hn
        · rcases HAT.out with h' | h'
          · exact hn (Or.inr (by rw [h', h]))
          · omega
      exact k5.set e 2 _ (Or.inl rfl))
  go_wp2_with fail
  go_region
  all_goals go_wp2_with (first | (go_at_call 136; refine HD2.out.mono ?_; rintro r w3 ⟨rfl, hk3, hs3, hg3⟩; refine Hid.out ?_))
  all_goals obtain ⟨hr3, hpost⟩ := HFIN.out w3 hk3 hg3
  all_goals obtain ⟨⟨p0, p1, p2, p3, p4, p5⟩, ⟨x0, x1, x2, x3, x4, x5⟩, hel3⟩ := row6 hr3
  all_goals have HP := toHid hpost
  all_goals clear hk3 hg3 hr3 hpost
  all_goals refine toHid ?_
  all_goals go_wp2
  all_goals refine bodyPost_ret (v := .tuple #[]) (by simp [results, Tryz.results100, go_sem]) rfl ?_
  all_goals exact HP.out
set_option maxRecDepth 100000 in
set_option maxHeartbeats 4000000 in
/-- 'keep' where there is room. -/
theorem keepRoom (B e M n : Nat) (bs : List Value) (v0 : Value) (ad : Option Addr) (ld cd : Nat) (au : Option Addr) (lu cu : Nat) (v4 v5 : Value) (te : TypeId) (fv : Fn) (cs : Array Value) (w : World) (he : w.heap[e]? = some (.cells #[v0, .int .i64 (M : Int), .slice ad ld cd, .slice au lu cu, v4, v5] te (0, 0))) (hM : n < M) (hM6 : M ≤ 6) (hB : B ≤ w.heap.size) (ho : w.ownsRow B 151 1 (.slice ad ld cd) n bs) (hne : (Value.slice ad ld cd).ownBlock ≠ some e) :
    Calls Tryz.prog 100 #[.pointer (some ⟨e, 1, none⟩), .func fv #[] cs] w (KeepPost B e M (n + 1) v0 (.slice ad ld cd) v4 v5 te w) := by
  obtain ⟨⟨e0, e1, e2, e3, e4, e5⟩, ⟨z0, z1, z2, z3, z4, z5⟩, hel⟩ := row6 he
  obtain ⟨i1, gi, gz0, gz1, gz2⟩ := info_parts infoBack
  have HO := toHid (own_setNe (j := 3) (u := .slice none 0 0) ho hne)
  have HE := toHid he
  have hMz : ¬ (M : Int) < (n : Int) + 1 := by omega
  clear ho he
  go_enter Tryz.func100, Tryz.ntmps100
  go_wp2_with (first | (at_builtin; refine wpList_append_lies _ rfl (.tmp 11) (.tmp 13) 104 rfl B 151 i1 .nilFunc 1 8 Tryz.underlying104 gi gz0 gz1 gz2 rfl (by decide) (.slice ad ld cd) n bs rfl (HO.out.alloc _) ⟨w.heap.size, 0, none⟩ 1 1 [.func fv #[] cs] rfl rfl (fun q u hq => by have := cells_new (w.setCell ⟨e, 3, none⟩ (.slice none 0 0)) [.func fv #[] cs] 151 q u hq; simpa using this) (fun u hu => by simp at hu; subst hu; rfl) (by omega) (by unfold maxLen; omega) (by omega) (by simp; omega) (w.heap.size + 1) (by simp) ?_; intro g cap w2 hown hgrow hat hlt; refine Hid.out ?_))
  have hge : g ≠ e := by
    rcases hat with h | h
    · intro e'; rw [e'] at h; exact hne h
    · omega
  have hrow2 : w2.heap[e]? = some (.cells #[v0, .int .i64 (M : Int), .slice ad ld cd, .slice none 0 0, v4, v5] te (0, 0)) := by
    rw [hgrow.block e (by simp; omega) (fun h => hne h.symm), Below.heap_alloc _ _ _ (by simpa using hel), setCell_block HE.out]
    rfl
  obtain ⟨⟨k0, k1, k2, k3, k4, k5⟩, ⟨y0, y1, y2, y3, y4, y5⟩, hel2⟩ := row6 hrow2
  have HFIN := toHid (show KeepPost B e M (n + 1) v0 (.slice ad ld cd) v4 v5 te w (.returned (.tuple #[])) (w2.setCell ⟨e, 2, none⟩ (.slice (some ⟨g, 0, none⟩) (n + 1) cap)).drew from by
    refine ⟨_, _, rfl, (setCell_block hrow2 _ _).trans rfl, own_setNe hown (by simp [Value.ownBlock]; exact hge), ?_, ?_⟩
    · rcases hat with h | h
      · exact Or.inl h.symm
      · exact Or.inr ⟨g, rfl, by omega⟩
    · have k1 : Ks (fun q => q = e ∨ (Value.slice ad ld cd).ownBlock = some q) w (((w.setCell ⟨e, 3, none⟩ (.slice none 0 0)).alloc (.cells #[.func fv #[] cs] 151))) := ((Ks.refl _ w).set e 3 _ (Or.inl rfl)).alloc _
      have k2 : Ks (fun q => q = e ∨ (Value.slice ad ld cd).ownBlock = some q) ((w.setCell ⟨e, 3, none⟩ (.slice none 0 0)).alloc (.cells #[.func fv #[] cs] 151)) w2 := ⟨hgrow.os, hgrow.tape, hgrow.output, hgrow.size, fun k hk hn => hgrow.block k hk (fun h => hn (Or.inr h.symm))⟩
      exact ((k1.trans k2).set e 2 _ (Or.inl rfl)).trans (Ks.of (Below.refl _ _).drew))
  clear hown hgrow hat hrow2
  refine toHid ?_
  go_wp2_with fail
  go_region
  all_goals go_wp2
  all_goals refine bodyPost_ret (v := .tuple #[]) (by simp [results, Tryz.results100, go_sem]) rfl ?_
  all_goals exact HFIN.out

set_option maxRecDepth 100000 in
set_option maxHeartbeats 1000000 in
/-- 'Add' keeps, where no group is open. -/
theorem addKeep (e : Nat) (fv : Fn) (cs : Array Value) (w : World) (Q : Ending → World → Prop) (h4 : w.cell? ⟨e, 4, none⟩ = some (.bool false))
    (hK : Calls Tryz.prog 100 #[.pointer (some ⟨e, 1, none⟩), .func fv #[] cs] w fun r w' => r = .returned (.tuple #[]) ∧ Q r w') :
    Calls Tryz.prog 99 #[.pointer (some ⟨e, 1, none⟩), .func fv #[] cs] w fun r w' => r = .returned (.tuple #[]) ∧ Q r w' := by
  have HK := toHid hK
  clear hK
  go_enter Tryz.func99, Tryz.ntmps99
  go_wp2_with (first | (go_at_call 100; refine HK.out.mono ?_; rintro r w2 ⟨rfl, hq⟩; refine Hid.out ?_))
  have HQ := toHid hq
  clear hq HK
  refine toHid ?_
  go_wp2
  go_end0
  exact ⟨rfl, HQ.out⟩
end Go.Proofs.YtihgojcfpnhelaaGreatDoor
