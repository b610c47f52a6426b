import Derived.Test.YtihgojcfpnhelaaDoorYa
namespace Go.Proofs.YtihgojcfpnhelaaDoor
open Go.RowKit

theorem alloc2_new (w : World) (o : Obj) (cs : Array Value) (t : TypeId) : ((w.alloc o).alloc (.cells cs t)).heap[w.heap.size + 1]? = some (.cells cs t (0, 0)) := by
  have := heap_alloc_new (w.alloc o) (.cells cs t)
  rw [show (w.alloc o).heap.size = w.heap.size + 1 by simp] at this
  exact this

theorem alloc2_old (w : World) (cs : Array Value) (t : TypeId) (o : Obj) : ((w.alloc (.cells cs t)).alloc o).heap[w.heap.size]? = some (.cells cs t (0, 0)) :=
  (Below.heap_alloc _ _ _ (by simp)).trans (heap_alloc_new w _)

set_option maxRecDepth 100000 in
set_option maxHeartbeats 4000000 in
theorem plain16 {S : Nat → Prop} (p : Pt) (a : Option Addr) (l c : Nat) (w : World) (hP : PIs w S p a l c) (hS : ∀ q, S q → q < w.heap.size) (hE : Env w) (hG : Good p) (hl : (txt p).length ≤ 1000000) :
    Calls Tryd.prog 16 #[.agg #[.int .i64 (p.k : Int), .string ⟨p.nm.toArray⟩, .int .i64 (p.n : Int), .slice a l c]] w fun e w' => e = .returned (.string ⟨(txt p).toArray⟩) ∧ Below w.heap.size w w' := by
  have hsz := hE.size
  have hBu : Bu (w.heap.size + 1) [] ((w.alloc (.cells #[.int .i64 (p.k : Int), .string ⟨p.nm.toArray⟩, .int .i64 (p.n : Int), .slice a l c] 36)).alloc (.cells #[.pointer none, .slice none 0 0] 74)) := by
    refine ⟨?_, by simp⟩
    have := Lib.IsBuilderF.of (Lib.fresh_isBuilder 74 5 (w.alloc (.cells #[.int .i64 (p.k : Int), .string ⟨p.nm.toArray⟩, .int .i64 (p.n : Int), .slice a l c] 36)))
    show Lib.IsBuilderF 74 5 (w.heap.size + 1) (w.heap.size + 1) [] _
    simpa using this
  have hb1 : Below w.heap.size w (w.alloc (.cells #[.int .i64 (p.k : Int), .string ⟨p.nm.toArray⟩, .int .i64 (p.n : Int), .slice a l c] 36)) := (Below.refl _ _).alloc (Nat.le_refl _) _
  have hb2 : Below (w.heap.size + 1) (w.alloc (.cells #[.int .i64 (p.k : Int), .string ⟨p.nm.toArray⟩, .int .i64 (p.n : Int), .slice a l c] 36)) ((w.alloc (.cells #[.int .i64 (p.k : Int), .string ⟨p.nm.toArray⟩, .int .i64 (p.n : Int), .slice a l c] 36)).alloc (.cells #[.pointer none, .slice none 0 0] 74)) := (Below.refl _ _).alloc (by simp) _
  have HW := toHid (write31 (hP.next fun q hq => hb1.block q (hS q hq)) (w.heap.size + 1) [] _ (fun q hq => by have := hS q hq; omega) hb2 ((hE.next hb1).next ((Below.refl _ _).alloc (Nat.le_refl _) _)) (by omega) hG hBu (by simpa using hl))
  clear hP hS hE hG hBu hb1 hb2
  go_enter Tryd.func16, Tryd.ntmps16
  go_wp2_with (first | (go_at_call 31; refine HW.out.mono ?_; rintro e w1 ⟨rfl, hB1, hO1⟩; refine Hid.out ?_))
  rw [List.nil_append] at hB1
  have HB := toHid hB1
  have HO := toHid hO1
  clear hB1 hO1
  refine toHid ?_
  go_wp2_with (first | (go_at_call 32; refine (Tryd.Builder_String_any_k (w.heap.size + 1) (w.heap.size + 1) (txt p) _ HB.out.1 (by have := HB.out.2; omega)).mono ?_; rintro e w2 ⟨rfl, hB2, hb2⟩))
  go_ret
  exact ⟨rfl, (((Below.refl _ _).alloc (Nat.le_refl _) _).alloc (by simp) _).trans ((HO.out.bel.trans hb2.1).mono (by omega))⟩

set_option maxRecDepth 100000 in
set_option maxHeartbeats 4000000 in
theorem rulePlain9 {S : Nat → Prop} (p : Pt) (a : Option Addr) (l c : Nat) (w : World) (hP : PIs w S p a l c) (hS : ∀ q, S q → q < w.heap.size) (hE : Env w) (hG : Good p) (hl : (txt p).length ≤ 1000000) :
    Calls Tryd.prog 9 #[.agg #[.int .i64 (p.k : Int), .string ⟨p.nm.toArray⟩, .int .i64 (p.n : Int), .slice a l c]] w fun e w' => e = .returned (.string ⟨(txt p).toArray⟩) ∧ Below w.heap.size w w' := by
  have H := toHid (fun w1 (hb : Below w.heap.size w w1) => plain16 p a l c w1 (hP.next fun q hq => hb.block q (hS q hq)) (fun q hq => Nat.lt_of_lt_of_le (hS q hq) hb.size) (hE.next hb) hG hl)
  clear hP hS hE hG
  go_enter Tryd.func9, Tryd.ntmps9
  go_wp2_with (first | (go_at_call 16; refine (H.out _ ((Below.refl _ _).alloc (Nat.le_refl _) _)).mono ?_; rintro e w1 ⟨rfl, hb1⟩))
  go_ret
  exact ⟨rfl, ((Below.refl _ _).alloc (Nat.le_refl _) _).trans (hb1.mono (by simp))⟩

set_option maxRecDepth 100000 in
set_option maxHeartbeats 4000000 in
theorem bounded15 {S : Nat → Prop} (p : Pt) (a : Option Addr) (l c : Nat) (w : World) (hP : PIs w S p a l c) (hS : ∀ q, S q → q < w.heap.size) (hE : Env w) (hG : Good p) (hl : (txt p).length ≤ 1000000) :
    Calls Tryd.prog 15 #[.agg #[.int .i64 (p.k : Int), .string ⟨p.nm.toArray⟩, .int .i64 (p.n : Int), .slice a l c]] w fun e w' => Below w.heap.size w w' ∧ ((100 < (txt p).length ∧ e = .returned (.tuple #[.agg #[.int .i64 0, .string ⟨#[]⟩, .int .i64 0, .slice none 0 0], .int .i64 7])) ∨ (¬ 100 < (txt p).length ∧ e = .returned (.tuple #[.agg #[.int .i64 (p.k : Int), .string ⟨p.nm.toArray⟩, .int .i64 (p.n : Int), .slice a l c], .int .i64 0]))) := by
  have H := toHid (fun w1 (hb : Below w.heap.size w w1) => plain16 p a l c w1 (hP.next fun q hq => hb.block q (hS q hq)) (fun q hq => Nat.lt_of_lt_of_le (hS q hq) hb.size) (hE.next hb) hG hl)
  clear hP hS hE hG
  go_enter Tryd.func15, Tryd.ntmps15
  go_wp2_with (first | (go_at_call 16; refine (H.out _ (below2 _ _ _)).mono ?_; rintro e w1 ⟨rfl, hb1⟩; refine Hid.out ?_))
  have hR := (hb1.block (w.heap.size + 1) (by simp)).trans (alloc2_new w _ _ _)
  have hP1 := (hb1.block w.heap.size (by simp; omega)).trans (alloc2_old w _ _ _)
  obtain ⟨⟨k0, k1, k2, k3⟩, ⟨f0, f1, f2, f3⟩, hsz⟩ := row4 hR
  obtain ⟨⟨q0, q1, q2, q3⟩, _, hszp⟩ := row4 hP1
  have HB := toHid (show Below w.heap.size w w1 from (below2 w _ _).trans (hb1.mono (by simp; omega)))
  clear hb1 hR hP1
  refine toHid ?_
  by_cases hbig : 100 < (txt p).length <;> have HBIG := toHid hbig
  · go_wp2
    refine bodyPost_ret (v := .tuple #[.agg #[.int .i64 0, .string ⟨#[]⟩, .int .i64 0, .slice none 0 0], .int .i64 7]) (by simp [results, Tryd.results15, go_sem, k0, k1, k2, k3]) rfl ?_
    exact ⟨(((HB.out.setCell (p := ⟨w.heap.size + 1, 0, none⟩) (by simp) _).setCell (p := ⟨w.heap.size + 1, 1, none⟩) (by simp) _).setCell (p := ⟨w.heap.size + 1, 2, none⟩) (by simp) _).setCell (p := ⟨w.heap.size + 1, 3, none⟩) (by simp) _, Or.inl ⟨HBIG.out, rfl⟩⟩
  · go_wp2
    refine bodyPost_ret (v := .tuple #[.agg #[.int .i64 (p.k : Int), .string ⟨p.nm.toArray⟩, .int .i64 (p.n : Int), .slice a l c], .int .i64 0]) (by simp [results, Tryd.results15, go_sem, k0, k1, k2, k3]) rfl ?_
    exact ⟨(((HB.out.setCell (p := ⟨w.heap.size + 1, 0, none⟩) (by simp) _).setCell (p := ⟨w.heap.size + 1, 1, none⟩) (by simp) _).setCell (p := ⟨w.heap.size + 1, 2, none⟩) (by simp) _).setCell (p := ⟨w.heap.size + 1, 3, none⟩) (by simp) _, Or.inr ⟨HBIG.out, rfl⟩⟩
end Go.Proofs.YtihgojcfpnhelaaDoor
