import Derived.Test.YtihgojcfpnhelaaGreatDoorG2R
import Derived.Deep.RegionLaw
import Derived.Deep.AppendLies
import Derived.Deep.LoopGhost
import Derived.Laws.AppendOwnNone
set_option maxRecDepth 100000
set_option maxHeartbeats 4000000
set_option linter.unusedVariables false
set_option linter.unusedSimpArgs false
namespace Go.Proofs.YtihgojcfpnhelaaGreatDoor
open Go.RowKit
section
abbrev PT := Int × Nat × By × Nat
def ptc (l : List PT) : List Value := l.flatMap fun t => [.int .i64 t.1, .int .i64 (t.2.1 : Int), .string ⟨t.2.2.1.toArray⟩, .int .i64 (t.2.2.2 : Int)]
theorem setCell_block {w : World} {b : Nat} {cs : Array Value} {t : TypeId} {fr : Nat × Nat} (h : w.heap[b]? = some (.cells cs t fr)) (j : Nat) (u : Value) : (w.setCell ⟨b, j, none⟩ u).heap[b]? = some (.cells (cs.setIfInBounds j u) t fr) := by
 simp [World.setCell, Array.getElem?_modify, h]
structure Kp (b : Nat) (w w' : World) : Prop where
 bel : Below b w w'
 up : ∀ q, b < q → q < w.heap.size → w'.heap[q]? = w.heap[q]?
theorem Kp.size {b : Nat} {w w' : World} (h : Kp b w w') : w.heap.size ≤ w'.heap.size := h.bel.size
theorem Kp.heap {b : Nat} {w w' : World} (h : Kp b w w') {q : Nat} (hq : q ≠ b) (hs : q < w.heap.size) : w'.heap[q]? = w.heap[q]? := by
 rcases Nat.lt_or_ge q b with h1 | h1
 ·exact h.bel.block q h1
 ·exact h.up q (by omega) hs
theorem Kp.refl (b : Nat) (w : World) : Kp b w w := ⟨Below.refl _ _, fun _ _ _ => rfl⟩
theorem Kp.trans {b : Nat} {w w' w'' : World} (h : Kp b w w') (g : Kp b w' w'') : Kp b w w'' :=
 ⟨h.bel.trans g.bel, fun q hq hs => (g.up q hq (Nat.lt_of_lt_of_le hs h.size)).trans (h.up q hq hs)⟩
theorem Kp.next {b : Nat} {w w' w'' : World} (h : Kp b w w') (g : Below w'.heap.size w' w'') (hb : b < w'.heap.size) : Kp b w w'' :=
 h.trans ⟨g.mono (by omega), fun q _ hs => g.block q hs⟩
theorem Kp.of {b : Nat} {w w' : World} (g : Below w.heap.size w w') (hb : b < w.heap.size) : Kp b w w' := (Kp.refl b w).next g hb
theorem Kp.here {b : Nat} (w : World) (j : Nat) (u : Value) : Kp b w (w.setCell ⟨b, j, none⟩ u) :=
 ⟨(Below.refl b w).setCell (p := ⟨b, j, none⟩) (Nat.le_refl _) _, fun q hq _ => Below.heap_setCell _ _ _ _ (by show q ≠ b; omega)⟩
theorem Kp.there {b : Nat} {w w' : World} (h : Kp b w w') (g j : Nat) (u : Value) (hg : w.heap.size ≤ g) (hb : b < w.heap.size) : Kp b w (w'.setCell ⟨g, j, none⟩ u) :=
 ⟨h.bel.setCell (p := ⟨g, j, none⟩) (by show b ≤ g; omega) _, fun q hq hs => (Below.heap_setCell _ _ _ _ (by show q ≠ g; omega)).trans (h.up q hq hs)⟩
theorem Kp.drew {b : Nat} {w w' : World} (h : Kp b w w') : Kp b w w'.drew := ⟨h.bel.drew, h.up⟩
theorem Kp.blk {b q : Nat} {w w' : World} {o : Obj} (h : Kp b w w') (hq : w.heap[q]? = some o) (hn : q ≠ b) : w'.heap[q]? = some o :=
 (h.heap hn (Array.getElem?_eq_some_iff.1 hq).1).trans hq
theorem fz_of_row {w : World} {q : Nat} {cs : Array Value} {t : TypeId} (h : w.heap[q]? = some (.cells cs t (0, 0))) (o : Nat) : w.frozen? ⟨q, o, none⟩ = false := by
 simp [World.frozen?, h]
theorem row4 {w : World} {q : Nat} {v0 v1 v2 v3 : Value} {t : TypeId} (h : w.heap[q]? = some (.cells #[v0, v1, v2, v3] t (0, 0))) :
  (w.cell? ⟨q, 0, none⟩ = some v0 ∧ w.cell? ⟨q, 1, none⟩ = some v1 ∧ w.cell? ⟨q, 2, none⟩ = some v2 ∧ w.cell? ⟨q, 3, none⟩ = some v3) ∧ (w.frozen? ⟨q, 0, none⟩ = false ∧ w.frozen? ⟨q, 1, none⟩ = false ∧ w.frozen? ⟨q, 2, none⟩ = false ∧ w.frozen? ⟨q, 3, none⟩ = false) ∧ q < w.heap.size :=
 ⟨⟨(cell_of_row w q 0 _ _ _ h).trans rfl, (cell_of_row w q 1 _ _ _ h).trans rfl, (cell_of_row w q 2 _ _ _ h).trans rfl, (cell_of_row w q 3 _ _ _ h).trans rfl⟩, ⟨fz_of_row h 0, fz_of_row h 1, fz_of_row h 2, fz_of_row h 3⟩, (Array.getElem?_eq_some_iff.1 h).1⟩
theorem row1 {w : World} {q : Nat} {v0 : Value} {t : TypeId} (h : w.heap[q]? = some (.cells #[v0] t (0, 0))) :
  w.cell? ⟨q, 0, none⟩ = some v0 ∧ w.frozen? ⟨q, 0, none⟩ = false ∧ q < w.heap.size :=
 ⟨(cell_of_row w q 0 _ _ _ h).trans rfl, fz_of_row h 0, (Array.getElem?_eq_some_iff.1 h).1⟩
structure Rdr (w : World) (b bl cp : Nat) (pt : List PT) (i : Nat) (d e : Int) : Prop where
 own : w.heap[b]? = some (.cells #[.slice (some ⟨bl, i * 4, none⟩) (pt.length - i) (cp - i), .int .i64 d, .int .i64 e] 138 (0, 0))
 blk : bl < b
 lt : i < pt.length
 cap : pt.length ≤ cp
 many : pt.length ≤ 200
 kip : ∀ t, t ∈ pt → 0 ≤ t.1 ∧ t.1 < 20
 left : ∀ j (h : j < pt.length), w.cell? ⟨bl, j * 4, none⟩ = some (.int .i64 pt[j].1) ∧ w.cell? ⟨bl, j * 4 + 1, none⟩ = some (.int .i64 (pt[j].2.1 : Int)) ∧ w.cell? ⟨bl, j * 4 + 2, none⟩ = some (.string ⟨pt[j].2.2.1.toArray⟩) ∧ w.cell? ⟨bl, j * 4 + 3, none⟩ = some (.int .i64 (pt[j].2.2.2 : Int))
section
variable {w : World} {b bl cp : Nat} {pt : List PT} {i : Nat} {d e : Int}
theorem Rdr.size (h : Rdr w b bl cp pt i d e) : b < w.heap.size := (Array.getElem?_eq_some_iff.1 h.own).1
theorem Rdr.cell (h : Rdr w b bl cp pt i d e) : w.cell? ⟨b, 0, none⟩ = some (.slice (some ⟨bl, i * 4, none⟩) (pt.length - i) (cp - i)) ∧ w.cell? ⟨b, 1, none⟩ = some (.int .i64 d) ∧ w.cell? ⟨b, 2, none⟩ = some (.int .i64 e) ∧ ∀ j, w.frozen? ⟨b, j, none⟩ = false := by
 have hb := h.own
 refine ⟨?_, ?_, ?_, fun j => ?_⟩
 ·rw [cell_of_row w b 0 _ _ _ hb]; rfl
 ·rw [cell_of_row w b 1 _ _ _ hb]; rfl
 ·rw [cell_of_row w b 2 _ _ _ hb]; rfl
 ·simp [World.frozen?, hb]
theorem Rdr.next (h : Rdr w b bl cp pt i d e) {w' : World} (hb : Below w.heap.size w w') : Rdr w' b bl cp pt i d e := by
 have hs := h.size
 refine ⟨(hb.block b hs).trans h.own, h.blk, h.lt, h.cap, h.many, h.kip, fun j hj => ?_⟩
 have hl : bl < w.heap.size := Nat.lt_trans h.blk hs
 rw [hb.cell hl, hb.cell hl, hb.cell hl, hb.cell hl]; exact h.left j hj
theorem Rdr.apart (h : Rdr w b bl cp pt i d e) {w' : World} (hb : w'.heap[b]? = w.heap[b]?) (hl : w'.heap[bl]? = w.heap[bl]?) : Rdr w' b bl cp pt i d e := by
 refine ⟨hb.trans h.own, h.blk, h.lt, h.cap, h.many, h.kip, fun j hj => ?_⟩
 have key : ∀ o, w'.cell? ⟨bl, o, none⟩ = w.cell? ⟨bl, o, none⟩ := fun o => by simp only [World.cell?, hl]
 rw [key, key, key, key]; exact h.left j hj
theorem Rdr.store (h : Rdr w b bl cp pt i d e) {g j : Nat} {u : Value} (hg : g ≠ b) (hl : g ≠ bl) : Rdr (w.setCell ⟨g, j, none⟩ u) b bl cp pt i d e :=
 h.apart (Below.heap_setCell _ _ _ _ (by show b ≠ g; omega)) (Below.heap_setCell _ _ _ _ (by show bl ≠ g; omega))
theorem Rdr.drew (h : Rdr w b bl cp pt i d e) : Rdr w.drew b bl cp pt i d e := ⟨h.own, h.blk, h.lt, h.cap, h.many, h.kip, h.left⟩
theorem Rdr.setD (h : Rdr w b bl cp pt i d e) (d' : Int) : Rdr (w.setCell ⟨b, 1, none⟩ (.int .i64 d')) b bl cp pt i d' e ∧ Kp b w (w.setCell ⟨b, 1, none⟩ (.int .i64 d')) := by
 have hk := Kp.here (b := b) w 1 (.int .i64 d')
 refine ⟨⟨?_, h.blk, h.lt, h.cap, h.many, h.kip, fun j hj => ?_⟩, hk⟩
 ·rw [setCell_block h.own]; rfl
 ·rw [hk.bel.cell h.blk, hk.bel.cell h.blk, hk.bel.cell h.blk, hk.bel.cell h.blk]; exact h.left j hj
theorem Rdr.setE (h : Rdr w b bl cp pt i d e) (e' : Int) : Rdr (w.setCell ⟨b, 2, none⟩ (.int .i64 e')) b bl cp pt i d e' ∧ Kp b w (w.setCell ⟨b, 2, none⟩ (.int .i64 e')) := by
 have hk := Kp.here (b := b) w 2 (.int .i64 e')
 refine ⟨⟨?_, h.blk, h.lt, h.cap, h.many, h.kip, fun j hj => ?_⟩, hk⟩
 ·rw [setCell_block h.own]; rfl
 ·rw [hk.bel.cell h.blk, hk.bel.cell h.blk, hk.bel.cell h.blk, hk.bel.cell h.blk]; exact h.left j hj
theorem Rdr.step (h : Rdr w b bl cp pt i d e) (hi : i + 1 < pt.length) : Rdr (w.setCell ⟨b, 0, none⟩ (.slice (some ⟨bl, i * 4 + 4, none⟩) (pt.length - i - 1) (cp - i - 1))) b bl cp pt (i + 1) d e ∧ Kp b w (w.setCell ⟨b, 0, none⟩ (.slice (some ⟨bl, i * 4 + 4, none⟩) (pt.length - i - 1) (cp - i - 1))) := by
 have hk := Kp.here (b := b) w 0 (.slice (some ⟨bl, i * 4 + 4, none⟩) (pt.length - i - 1) (cp - i - 1))
 refine ⟨⟨?_, h.blk, hi, h.cap, h.many, h.kip, fun j hj => ?_⟩, hk⟩
 ·rw [setCell_block h.own, show (i + 1) * 4 = i * 4 + 4 by omega, show pt.length - (i + 1) = pt.length - i - 1 by omega, show cp - (i + 1) = cp - i - 1 by omega]; rfl
 ·rw [hk.bel.cell h.blk, hk.bel.cell h.blk, hk.bel.cell h.blk, hk.bel.cell h.blk]; exact h.left j hj
end
theorem heap4 (w : World) (g : Nat) (v0 v1 v2 v3 : Value) {q : Nat} (h : q ≠ g) : ((((w.setCell ⟨g, 0, none⟩ v0).setCell ⟨g, 1, none⟩ v1).setCell ⟨g, 2, none⟩ v2).setCell ⟨g, 3, none⟩ v3).heap[q]? = w.heap[q]? := by
 rw [Below.heap_setCell _ _ _ _ h, Below.heap_setCell _ _ _ _ h, Below.heap_setCell _ _ _ _ h, Below.heap_setCell _ _ _ _ h]
theorem Rdr.store4 {w : World} {b bl cp : Nat} {pt : List PT} {i : Nat} {d e : Int} (h : Rdr w b bl cp pt i d e) (g : Nat) (v0 v1 v2 v3 : Value) (hg : b < g) : Rdr ((((w.setCell ⟨g, 0, none⟩ v0).setCell ⟨g, 1, none⟩ v1).setCell ⟨g, 2, none⟩ v2).setCell ⟨g, 3, none⟩ v3) b bl cp pt i d e :=
 h.apart (heap4 w g v0 v1 v2 v3 (by omega)) (heap4 w g v0 v1 v2 v3 (by have := h.blk; omega))
theorem Kp.there4 {b : Nat} {w w' : World} (h : Kp b w w') (g : Nat) (v0 v1 v2 v3 : Value) (hg : w.heap.size ≤ g) (hb : b < w.heap.size) : Kp b w ((((w'.setCell ⟨g, 0, none⟩ v0).setCell ⟨g, 1, none⟩ v1).setCell ⟨g, 2, none⟩ v2).setCell ⟨g, 3, none⟩ v3) :=
 (((h.there g 0 v0 hg hb).there g 1 v1 hg hb).there g 2 v2 hg hb).there g 3 v3 hg hb
theorem heap2 (w : World) (o1 o2 : Obj) {q : Nat} (h : q < w.heap.size) : ((w.alloc o1).alloc o2).heap[q]? = w.heap[q]? := by
 rw [Below.heap_alloc _ _ _ (by simp; omega), Below.heap_alloc _ _ _ h]
theorem below2 (w : World) (o1 o2 : Obj) : Below w.heap.size w ((w.alloc o1).alloc o2) := ((Below.refl _ _).alloc (Nat.le_refl _) _).alloc (by simp) _
theorem size4 (w : World) (g : Nat) (v0 v1 v2 v3 : Value) : ((((w.setCell ⟨g, 0, none⟩ v0).setCell ⟨g, 1, none⟩ v1).setCell ⟨g, 2, none⟩ v2).setCell ⟨g, 3, none⟩ v3).heap.size = w.heap.size := by simp
theorem kind42 (w : World) (b bl cp : Nat) (pt : List PT) (i : Nat) (d e : Int) (h : Rdr w b bl cp pt i d e) :
  Calls Tryz.prog 127 #[.pointer (some ⟨b, 0, none⟩)] w fun r w' => r = .returned (.int .i64 (pt[i]'h.lt).1) ∧ w = w' := by
 have c0 := h.cell.1
 have l0 := (h.left i h.lt).1
 have hlt := h.lt
 have hn : (0 : Int) < ((pt.length - i : Nat) : Int) := by omega
 generalize (pt[i]'h.lt).1 = k at *
 generalize pt.length - i = n at *
 clear h hlt
 go_enter Tryz.func127, Tryz.ntmps127
 go_wp2
 go_ret
 exact ⟨rfl, rfl⟩
theorem is_yes (w : World) (b bl cp : Nat) (pt : List PT) (i : Nat) (d e k : Int) (h : Rdr w b bl cp pt i d e) (hk : (pt[i]'h.lt).1 = k) :
  Calls Tryz.prog 94 #[.pointer (some ⟨b, 0, none⟩), .int .i64 k] w fun r w' => r = .returned (.bool true) ∧ w = w' := by
 have H := toHid (kind42 w b bl cp pt i d e h)
 have HK := toHid hk
 have hkb : (k != k) = false := by simp
 clear hk
 go_enter Tryz.func94, Tryz.ntmps94
 go_wp2_with (first | (go_at_call 127; refine H.out.mono ?_; rw [HK.out]; rintro e w' ⟨rfl, rfl⟩))
 go_ret
 exact ⟨rfl, rfl⟩
theorem is_no (w : World) (b bl cp : Nat) (pt : List PT) (i : Nat) (d e k : Int) (h : Rdr w b bl cp pt i d e) (hk : (pt[i]'h.lt).1 ≠ k) :
  Calls Tryz.prog 94 #[.pointer (some ⟨b, 0, none⟩), .int .i64 k] w fun r w' => r = .returned (.bool false) ∧ Rdr w' b bl cp pt i d 3 ∧ Kp b w w' := by
 have H := toHid (kind42 w b bl cp pt i d e h)
 have HF := toHid (h.setE 3)
 obtain ⟨_, _, c2, fz⟩ := h.cell
 have fz2 := fz 2
 clear fz
 generalize (pt[i]'h.lt).1 = z at *
 have hkb : (z == k) = false := beq_eq_false_iff_ne.2 hk
 have hkb2 : (z != k) = true := by simp [bne, hkb]
 clear hk h
 go_enter Tryz.func94, Tryz.ntmps94
 go_wp2_with (first | (go_at_call 127; refine H.out.mono ?_; rintro e w' ⟨rfl, rfl⟩))
 go_ret
 exact ⟨rfl, HF.out⟩
theorem take45 (w : World) (b bl cp : Nat) (pt : List PT) (i : Nat) (d e : Int) (h : Rdr w b bl cp pt i d e) (hi : i + 1 < pt.length) :
  Calls Tryz.prog 130 #[.pointer (some ⟨b, 0, none⟩)] w fun r w' => r = .returned (.agg #[.int .i64 (pt[i]'h.lt).1, .int .i64 ((pt[i]'h.lt).2.1 : Int), .string ⟨(pt[i]'h.lt).2.2.1.toArray⟩, .int .i64 ((pt[i]'h.lt).2.2.2 : Int)]) ∧ Rdr w' b bl cp pt (i + 1) d e ∧ Kp b w w' := by
 obtain ⟨c0, _, _, fz⟩ := h.cell
 have fz0 := fz 0
 obtain ⟨l0, l1, l2, l3⟩ := h.left i h.lt
 have hcap := h.cap
 have hs := h.size
 have hbs : bl < w.heap.size := Nat.lt_trans h.blk hs
 have HF := toHid (fun w' (g : Rdr w' b bl cp pt i d e) => g.step hi)
 have HR := toHid h
 obtain ⟨n, hn⟩ : ∃ n, pt.length - i = n + 2 := ⟨pt.length - i - 2, by omega⟩
 obtain ⟨m, hm⟩ : ∃ m, cp - i = m + 2 := ⟨cp - i - 2, by omega⟩
 have hnm : n ≤ m := by omega
 rw [hn, hm] at c0 HF
 have hmany := h.many
 have hn1 : (0 : Int) < (n : Int) + 2 := by omega
 have hn2 : (0 : Int) ≤ (n : Int) := by omega
 have hn3 : (n : Int) ≤ (m : Int) := by omega
 generalize (pt[i]'h.lt).1 = k at *
 generalize (pt[i]'h.lt).2.1 = p at *
 generalize (pt[i]'h.lt).2.2.1 = x at *
 generalize (pt[i]'h.lt).2.2.2 = nn at *
 clear fz h hcap hn hm
 go_enter Tryz.func130, Tryz.ntmps130
 go_wp2
 refine bodyPost_ret (v := .agg #[.int .i64 k, .int .i64 (p : Int), .string ⟨x.toArray⟩, .int .i64 (nn : Int)]) (by simp [results, Tryz.results130, go_sem]) rfl ?_
 have hb2 := ((Below.refl _ (w.setCell ⟨b, 0, none⟩ (.slice (some ⟨bl, i * 4 + 4, none⟩) (n + 1) (m + 1)))).alloc (Nat.le_refl _) (.cells #[.int .i64 k, .int .i64 (p : Int), .string ⟨x.toArray⟩, .int .i64 (nn : Int)] 134)).alloc (by simp) (.cells #[.int .i64 k, .int .i64 (p : Int), .string ⟨x.toArray⟩, .int .i64 (nn : Int)] 134)
 exact ⟨rfl, (HF.out w HR.out).1.next hb2, (HF.out w HR.out).2.next hb2 (by simp; omega)⟩
theorem pass_yes (w : World) (b bl cp : Nat) (pt : List PT) (i : Nat) (d e k : Int) (h : Rdr w b bl cp pt i d e) (hk : (pt[i]'h.lt).1 = k) (hi : i + 1 < pt.length) :
  Calls Tryz.prog 188 #[.pointer (some ⟨b, 0, none⟩), .int .i64 k] w fun r w' => r = .returned (.bool true) ∧ Rdr w' b bl cp pt (i + 1) d e ∧ Kp b w w' := by
 have H := toHid (is_yes w b bl cp pt i d e k h hk)
 have HT := toHid (take45 w b bl cp pt i d e h hi)
 clear hk
 go_enter Tryz.func188, Tryz.ntmps188
 go_wp2_with (first | (go_at_call 94; refine H.out.mono ?_; rintro e w' ⟨rfl, rfl⟩) | (go_at_call 130; refine HT.out.mono ?_; rintro e w' ⟨rfl, hr, hbb⟩))
 go_ret
 exact ⟨rfl, hr, hbb⟩
theorem pass_no (w : World) (b bl cp : Nat) (pt : List PT) (i : Nat) (d e k : Int) (h : Rdr w b bl cp pt i d e) (hk : (pt[i]'h.lt).1 ≠ k) :
  Calls Tryz.prog 188 #[.pointer (some ⟨b, 0, none⟩), .int .i64 k] w fun r w' => r = .returned (.bool false) ∧ Rdr w' b bl cp pt i d 3 ∧ Kp b w w' := by
 have H := toHid (is_no w b bl cp pt i d e k h hk)
 clear hk
 go_enter Tryz.func188, Tryz.ntmps188
 go_wp2_with (first | (go_at_call 94; refine H.out.mono ?_; rintro e w' ⟨rfl, hr, hbb⟩))
 go_ret
 exact ⟨rfl, hr, hbb⟩
theorem enter_no (w : World) (b bl cp : Nat) (pt : List PT) (i : Nat) (e : Int) (h : Rdr w b bl cp pt i 6 e) :
  Calls Tryz.prog 158 #[.pointer (some ⟨b, 0, none⟩)] w fun r w' => r = .returned (.tuple #[.agg #[.int .i64 0, .int .i64 0, .string ⟨#[]⟩, .int .i64 0], .bool false]) ∧ Rdr w' b bl cp pt i 6 4 ∧ Kp b w w' := by
 have hs := h.size
 have HF := toHid (h.setE 4)
 obtain ⟨_, c2, c3, fz⟩ := h.cell
 have fz3 := fz 2
 clear fz h
 go_enter Tryz.func158, Tryz.ntmps158
 go_wp2
 refine bodyPost_ret (v := .tuple #[.agg #[.int .i64 0, .int .i64 0, .string ⟨#[]⟩, .int .i64 0], .bool false]) (by simp [results, Tryz.results158, go_sem]) rfl ?_
 have hb2 := (Below.refl _ (w.setCell ⟨b, 2, none⟩ (.int .i64 4))).alloc (Nat.le_refl _) (.cells #[.int .i64 0, .int .i64 0, .string ⟨#[]⟩, .int .i64 0] 134)
 exact ⟨rfl, HF.out.1.next hb2, HF.out.2.next hb2 (by simp; omega)⟩
theorem enter_yes (w : World) (b bl cp : Nat) (pt : List PT) (i : Nat) (d : Nat) (e : Int) (h : Rdr w b bl cp pt i d e) (hd : d < 6) (hi : i + 1 < pt.length) :
  Calls Tryz.prog 158 #[.pointer (some ⟨b, 0, none⟩)] w fun r w' => r = .returned (.tuple #[.agg #[.int .i64 (pt[i]'h.lt).1, .int .i64 ((pt[i]'h.lt).2.1 : Int), .string ⟨(pt[i]'h.lt).2.2.1.toArray⟩, .int .i64 ((pt[i]'h.lt).2.2.2 : Int)], .bool true]) ∧ Rdr w' b bl cp pt (i + 1) ((d : Int) + 1) e ∧ Kp b w w' := by
 have HF := toHid (h.setD ((d : Int) + 1))
 obtain ⟨_, c2, c3, fz⟩ := h.cell
 have fz2 := fz 1
 have hs := h.size
 have hblk := h.blk
 have HT := toHid (fun w1 (g : Rdr w1 b bl cp pt i ((d : Int) + 1) e) => take45 w1 b bl cp pt i _ e g hi)
 have hdb : ((d : Int) == 6) = false := beq_eq_false_iff_ne.2 (by omega)
 have hlt := h.lt
 clear fz
 go_enter Tryz.func158, Tryz.ntmps158
 go_wp2_with (first | (go_at_call 130; refine (HT.out _ (HF.out.1.next ((Below.refl _ _).alloc (Nat.le_refl _) _))).mono ?_; rintro e w' ⟨rfl, hr, hbb⟩; refine Hid.out ?_))
 have hblk1 := hbb.blk (q := w.heap.size) (by have := heap_alloc_new (w.setCell ⟨b, 1, none⟩ (.int .i64 ((d : Int) + 1))) (.cells #[.int .i64 0, .int .i64 0, .string ⟨#[]⟩, .int .i64 0] 134); simpa using this) (by omega)
 obtain ⟨⟨k0, k1, k2, k3⟩, ⟨f0, f1, f2, f3⟩, hsz⟩ := row4 hblk1
 clear hblk1
 have HB := toHid hbb
 have HR := toHid hr
 clear hr hbb
 refine toHid ?_
 go_wp2
 refine bodyPost_ret (v := .tuple #[.agg #[.int .i64 (pt[i]'hlt).1, .int .i64 ((pt[i]'hlt).2.1 : Int), .string ⟨(pt[i]'hlt).2.2.1.toArray⟩, .int .i64 ((pt[i]'hlt).2.2.2 : Int)], .bool true]) (by simp [results, Tryz.results158, go_sem, k0, k1, k2, k3]) rfl ?_
 have hk0 : Kp b w w' := (HF.out.2.next ((Below.refl _ _).alloc (Nat.le_refl _) _) (by simp; omega)).trans HB.out
 exact ⟨rfl, (((HR.out.store (by omega) (by omega)).store (by omega) (by omega)).store (by omega) (by omega)).store (by omega) (by omega), (((hk0.there _ _ _ (Nat.le_refl _) hs).there _ _ _ (Nat.le_refl _) hs).there _ _ _ (Nat.le_refl _) hs).there _ _ _ (Nat.le_refl _) hs⟩
end
section
attribute [local go_sem] idx_eq app_eq
def strs (l : List By) : List Value := l.map fun x => .string ⟨x.toArray⟩
def Own (w : World) (B : Nat) (v : Value) (l : List By) : Prop := w.ownsRow B 9 1 v l.length (strs l)
theorem own_lit (w : World) (l : List By) (hl : l.length ≤ 1000) : Own (w.alloc (.cells (strs l).toArray 9)) w.heap.size (.slice (some ⟨w.heap.size, 0, none⟩) l.length l.length) l := by
 have h := World.ownsRow_lit (base := w.heap.size) (e := 9) (size := 1) w (strs l).toArray l.length (Nat.le_refl _) (by unfold maxLen; omega) (by simp [strs])
 exact h
theorem info9 : (Tryz.prog.info? 9).map (fun i => (i.zero, i.size, i.bytes)) = some (some (.string ⟨#[]⟩), 1, 16) := by kernel_rfl
end
section
attribute [local go_sem] idx_eq app_eq
theorem byte_small (o : Nat) (h : o ≤ 7) : (48 + UInt8.ofNat o).toNat - 48 = o := by
 rcases (show o = 0 ∨ o = 1 ∨ o = 2 ∨ o = 3 ∨ o = 4 ∨ o = 5 ∨ o = 6 ∨ o = 7 by omega) with h | h | h | h | h | h | h | h <;> subst h <;> decide +kernel
theorem becomesB_sym (k : UInt8) (o : Nat) (t : By) (h : o ≤ 7) : becomesB (symB k o) t = some (becB k o t) := by
 show some (becB k ((48 + UInt8.ofNat o).toNat - 48) t) = _
 rw [byte_small o h]
theorem becomesB_tok (c : UInt8) (r t : By) (h : c ≠ 63) : becomesB (c :: r) t = none := by
 unfold becomesB
 split
 ·rename_i heq; simp at heq; exact absurd heq.1 h
 ·rename_i heq; simp at heq; exact absurd heq.1 h
 ·rfl
end
section
attribute [local go_sem] idx_eq app_eq
theorem toks_good (f : Nat) (l : By) (k : Nat) (t : By) (p : Nat) (h : (t, p) ∈ (toks f l k).1) : ∃ c r, t = c :: r ∧ c ≠ 63 ∧ c ≠ 78 := by
 induction f generalizing l k with
 | zero => simp [toks] at h
 | succ f ih =>
  match l with
  | [] => simp [toks] at h
  | c :: r =>
   unfold toks at h
   split at h
   ·exact ih _ _ h
   ·split at h
    ·rename_i hok
     simp only [List.mem_cons, Prod.mk.injEq] at h
     rcases h with ⟨rfl, rfl⟩ | h
     ·have h1 := rowLen_pos c r
      obtain ⟨n, hn⟩ : ∃ n, rowLen (c :: r) = n + 1 := ⟨rowLen (c :: r) - 1, by omega⟩
      rw [hn, List.take_succ_cons] at hok ⊢
      refine ⟨c, _, rfl, ?_⟩
      have key : ∀ d : UInt8, isD d = false → isL d = false → inB (d :: List.take n r) signW = false → d ≠ c := by
       rintro d g1 g2 g3 rfl
       unfold tokOK at hok
       rw [show headD (d :: List.take n r) = isD d from rfl, show headL (d :: List.take n r) = isL d from rfl, g1, g2, g3] at hok
       simp at hok
      exact ⟨(key 63 (by decide) (by decide) (by simp [inB, signW])).symm, (key 78 (by decide) (by decide) (by simp [inB, signW])).symm⟩
     ·exact ih _ _ h
    ·simp at h
theorem toks_length (f : Nat) (l : By) (k : Nat) : (toks f l k).1.length ≤ f := by
 induction f generalizing l k with
 | zero => simp [toks]
 | succ f ih =>
  match l with
  | [] => simp [toks]
  | c :: r =>
   unfold toks
   split
   ·exact Nat.le_succ_of_le (ih _ _)
   ·split
    ·simp only [List.length_cons]
     exact Nat.succ_le_succ (ih _ _)
    ·simp
theorem runB_step (len n : Nat) (x : By) (K : List By) (ts : List (By × Nat)) (t : By) (p : Nat) (h : (ts = [] ∧ t = [] ∧ p = len) ∨ ∃ r, ts = (t, p) :: r) :
  runB len (n + 1) (x :: K) ts = if x = wDeep then some (4, p) else match becomesB x t with
   | some m => runB len n (m ++ K) ts
   | none => if (if x = wName then nameB t else decide (t ≠ []) && decide (x = t)) then runB len n K ts.tail else some (3, p) := by
 rcases h with ⟨rfl, rfl, rfl⟩ | ⟨r, rfl⟩ <;> rfl
end
end Go.Proofs.YtihgojcfpnhelaaGreatDoor
