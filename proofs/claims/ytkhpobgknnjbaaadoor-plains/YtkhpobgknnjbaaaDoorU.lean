import Derived.Test.YtkhpobgknnjbaaaDoorS
namespace Go.Proofs.YtkhpobgknnjbaaaDoor
open Go.RowKit

abbrev PT := Int × Nat × By

def ptc (l : List PT) : List Value := l.flatMap fun t => [.int .i64 t.1, .int .i64 (t.2.1 : Int), .string ⟨t.2.2.toArray⟩]

theorem ptc_snoc (l : List PT) (t : PT) : ptc (l ++ [t]) = ptc l ++ [.int .i64 t.1, .int .i64 (t.2.1 : Int), .string ⟨t.2.2.toArray⟩] := by simp [ptc]

theorem setCell_block {w : World} {b : Nat} {cs : Array Value} {t : TypeId} {fr : Nat × Nat} (h : w.heap[b]? = some (.cells cs t fr)) (j : Nat) (u : Value) : (w.setCell ⟨b, j, none⟩ u).heap[b]? = some (.cells (cs.setIfInBounds j u) t fr) := by
  simp [World.setCell, Array.getElem?_modify, h]

/-- The reader that lies in block b: the tokens pt in block bl, of which i are taken: as tk. -/
structure Rdr (w : World) (b bl cp : Nat) (pt : List PT) (i : Nat) (tk : List PT) (d e : Int) : Prop where
  own : ∃ tv, w.heap[b]? = some (.cells #[.slice (some ⟨bl, i * 3, none⟩) (pt.length - i) (cp - i), tv, .int .i64 d, .int .i64 e] 50 (0, 0)) ∧ w.ownsRow (b + 1) 46 3 tv tk.length (ptc tk)
  blk : bl < b
  lt : i < pt.length
  cap : pt.length ≤ cp
  many : pt.length ≤ 200
  cnt : tk.length = i
  kin : ∀ t, t ∈ tk → 0 ≤ t.1 ∧ t.1 < 20
  kip : ∀ t, t ∈ pt → 0 ≤ t.1 ∧ t.1 < 20
  left : ∀ j (h : j < pt.length), w.cell? ⟨bl, j * 3, none⟩ = some (.int .i64 pt[j].1) ∧ w.cell? ⟨bl, j * 3 + 1, none⟩ = some (.int .i64 (pt[j].2.1 : Int)) ∧ w.cell? ⟨bl, j * 3 + 2, none⟩ = some (.string ⟨pt[j].2.2.toArray⟩)

section
variable {w : World} {b bl cp : Nat} {pt : List PT} {i : Nat} {tk : List PT} {d e : Int}

theorem Rdr.size (h : Rdr w b bl cp pt i tk d e) : b < w.heap.size := by
  obtain ⟨tv, hb, _⟩ := h.own
  exact (Array.getElem?_eq_some_iff.1 hb).1

theorem Rdr.cell (h : Rdr w b bl cp pt i tk d e) : w.cell? ⟨b, 0, none⟩ = some (.slice (some ⟨bl, i * 3, none⟩) (pt.length - i) (cp - i)) ∧ w.cell? ⟨b, 2, none⟩ = some (.int .i64 d) ∧ w.cell? ⟨b, 3, none⟩ = some (.int .i64 e) ∧ ∀ j, w.frozen? ⟨b, j, none⟩ = false := by
  obtain ⟨tv, hb, _⟩ := h.own
  refine ⟨?_, ?_, ?_, fun j => ?_⟩
  · rw [cell_of_row w b 0 _ _ _ hb]; rfl
  · rw [cell_of_row w b 2 _ _ _ hb]; rfl
  · rw [cell_of_row w b 3 _ _ _ hb]; rfl
  · simp [World.frozen?, hb]

/-- A store into the depth or the error. -/
theorem Rdr.setD (h : Rdr w b bl cp pt i tk d e) (d' : Int) : Rdr (w.setCell ⟨b, 2, none⟩ (.int .i64 d')) b bl cp pt i tk d' e ∧ Below b w (w.setCell ⟨b, 2, none⟩ (.int .i64 d')) := by
  obtain ⟨tv, hb, ho⟩ := h.own
  have hbel : Below b w (w.setCell ⟨b, 2, none⟩ (.int .i64 d')) := (Below.refl b w).setCell (p := ⟨b, 2, none⟩) (Nat.le_refl _) _
  refine ⟨⟨⟨tv, ?_, ownsRow_setCell_below ho (by simp) _⟩, h.blk, h.lt, h.cap, h.many, h.cnt, h.kin, h.kip, fun j hj => ?_⟩, hbel⟩
  · rw [setCell_block hb]; rfl
  · rw [hbel.cell h.blk, hbel.cell h.blk, hbel.cell h.blk]; exact h.left j hj

theorem Rdr.setE (h : Rdr w b bl cp pt i tk d e) (e' : Int) : Rdr (w.setCell ⟨b, 3, none⟩ (.int .i64 e')) b bl cp pt i tk d e' ∧ Below b w (w.setCell ⟨b, 3, none⟩ (.int .i64 e')) := by
  obtain ⟨tv, hb, ho⟩ := h.own
  have hbel : Below b w (w.setCell ⟨b, 3, none⟩ (.int .i64 e')) := (Below.refl b w).setCell (p := ⟨b, 3, none⟩) (Nat.le_refl _) _
  refine ⟨⟨⟨tv, ?_, ownsRow_setCell_below ho (by simp) _⟩, h.blk, h.lt, h.cap, h.many, h.cnt, h.kin, h.kip, fun j hj => ?_⟩, hbel⟩
  · rw [setCell_block hb]; rfl
  · rw [hbel.cell h.blk, hbel.cell h.blk, hbel.cell h.blk]; exact h.left j hj
end

set_option maxHeartbeats 1000000 in
theorem kind42 (w : World) (b bl cp : Nat) (pt : List PT) (i : Nat) (tk : List PT) (d e : Int) (h : Rdr w b bl cp pt i tk d e) :
    Calls Tryd.prog 42 #[.pointer (some ⟨b, 0, none⟩)] w fun r w' => r = .returned (.int .i64 (pt[i]'h.lt).1) ∧ w = w' := by
  have c0 := h.cell.1
  have l0 := (h.left i h.lt).1
  have hlt := h.lt
  have hn : (0 : Int) < ((pt.length - i : Nat) : Int) := by omega
  generalize (pt[i]'h.lt).1 = k at *
  generalize pt.length - i = n at *
  clear h hlt
  go_enter Tryd.func42, Tryd.ntmps42
  go_wp2
  go_ret
  exact ⟨rfl, rfl⟩

set_option maxHeartbeats 1000000 in
theorem is_yes (w : World) (b bl cp : Nat) (pt : List PT) (i : Nat) (tk : List PT) (d e k : Int) (h : Rdr w b bl cp pt i tk d e) (hk : (pt[i]'h.lt).1 = k) :
    Calls Tryd.prog 30 #[.pointer (some ⟨b, 0, none⟩), .int .i64 k] w fun r w' => r = .returned (.bool true) ∧ w = w' := by
  have H := toHid (kind42 w b bl cp pt i tk d e h)
  have HK := toHid hk
  have hkb : (k != k) = false := by simp
  clear hk
  go_enter Tryd.func30, Tryd.ntmps30
  go_wp2_with (first | (go_at_call 42; refine H.out.mono ?_; rw [HK.out]; rintro e w' ⟨rfl, rfl⟩))
  go_ret
  exact ⟨rfl, rfl⟩

set_option maxHeartbeats 1000000 in
theorem is_no (w : World) (b bl cp : Nat) (pt : List PT) (i : Nat) (tk : List PT) (d e k : Int) (h : Rdr w b bl cp pt i tk d e) (hk : (pt[i]'h.lt).1 ≠ k) :
    Calls Tryd.prog 30 #[.pointer (some ⟨b, 0, none⟩), .int .i64 k] w fun r w' => r = .returned (.bool false) ∧ Rdr w' b bl cp pt i tk d 3 ∧ Below b w w' := by
  have H := toHid (kind42 w b bl cp pt i tk d e h)
  have HF := toHid (h.setE 3)
  obtain ⟨_, _, c3, fz⟩ := h.cell
  have fz3 := fz 3
  clear fz
  generalize (pt[i]'h.lt).1 = z at *
  have hkb : (z == k) = false := beq_eq_false_iff_ne.2 hk
  have hkb2 : (z != k) = true := by simp [bne, hkb]
  clear hk h
  go_enter Tryd.func30, Tryd.ntmps30
  go_wp2_with (first | (go_at_call 42; refine H.out.mono ?_; rintro e w' ⟨rfl, rfl⟩))
  go_ret
  exact ⟨rfl, HF.out⟩

theorem take45 (w : World) (b bl cp : Nat) (pt : List PT) (i : Nat) (tk : List PT) (d e : Int) (h : Rdr w b bl cp pt i tk d e) (hi : i + 1 < pt.length) :
    Calls Tryd.prog 45 #[.pointer (some ⟨b, 0, none⟩)] w fun r w' => r = .returned (.tuple #[]) ∧ Rdr w' b bl cp pt (i + 1) (tk ++ [pt[i]'h.lt]) d e ∧ Below b w w' := by
  obtain ⟨c0, _, _, fz⟩ := h.cell
  obtain ⟨l0, l1, l2⟩ := h.left i h.lt
  obtain ⟨tv, hb, ho⟩ := h.own
  have hcap := h.cap
  have hmany := h.many
  have hcnt := h.cnt
  obtain ⟨n, hn⟩ : ∃ n, pt.length - i = n + 2 := ⟨pt.length - i - 2, by omega⟩
  rw [hn] at c0
  refine (take_raw b bl (i * 3) n (cp - i) tk.length tv _ _ _ (ptc tk) w c0 (by rw [cell_of_row w b 1 _ _ _ hb]; rfl) (fz 0) (fz 1) (by omega) l0 l1 l2 ho h.blk (by omega)).mono ?_
  rintro r w' ⟨rfl, g, cap, w1, hown1, hb1, rfl⟩
  have hbel : Below b w ((w1.setCell ⟨b, 1, none⟩ (.slice (some ⟨g, 0, none⟩) (tk.length + 1) cap)).setCell ⟨b, 0, none⟩ (.slice (some ⟨bl, i * 3 + 3, none⟩) (n + 1) (cp - i - 1))) :=
    ((hb1.mono (Nat.le_succ b)).setCell (p := ⟨b, 1, none⟩) (Nat.le_refl _) _).setCell (p := ⟨b, 0, none⟩) (Nat.le_refl _) _
  refine ⟨rfl, ⟨⟨.slice (some ⟨g, 0, none⟩) (tk.length + 1) cap, ?_, ?_⟩, h.blk, hi, h.cap, h.many, by simp [hcnt], fun t ht => ?_, h.kip, fun j hj => ?_⟩, hbel⟩
  · rw [setCell_block (setCell_block ((hb1.block b (by omega)).trans hb) 1 _) 0 _]
    rw [show (i + 1) * 3 = i * 3 + 3 by omega, show pt.length - (i + 1) = n + 1 by omega, show cp - (i + 1) = cp - i - 1 by omega]
    rfl
  · rw [ptc_snoc, List.length_append]
    exact ownsRow_setCell_below (ownsRow_setCell_below hown1 (by simp) _) (by simp) _
  · rw [List.mem_append, List.mem_singleton] at ht
    rcases ht with ht | rfl
    · exact h.kin t ht
    · exact h.kip _ (List.getElem_mem h.lt)
  · rw [hbel.cell h.blk, hbel.cell h.blk, hbel.cell h.blk]; exact h.left j hj

set_option maxHeartbeats 1000000 in
theorem pass_yes (w : World) (b bl cp : Nat) (pt : List PT) (i : Nat) (tk : List PT) (d e k : Int) (h : Rdr w b bl cp pt i tk d e) (hk : (pt[i]'h.lt).1 = k) (hi : i + 1 < pt.length) :
    Calls Tryd.prog 64 #[.pointer (some ⟨b, 0, none⟩), .int .i64 k] w fun r w' => r = .returned (.bool true) ∧ Rdr w' b bl cp pt (i + 1) (tk ++ [pt[i]'h.lt]) d e ∧ Below b w w' := by
  have H := toHid (is_yes w b bl cp pt i tk d e k h hk)
  have HT := toHid (take45 w b bl cp pt i tk d e h hi)
  clear hk
  go_enter Tryd.func64, Tryd.ntmps64
  go_wp2_with (first | (go_at_call 30; refine H.out.mono ?_; rintro e w' ⟨rfl, rfl⟩) | (go_at_call 45; refine HT.out.mono ?_; rintro e w' ⟨rfl, hr, hbb⟩))
  go_ret
  exact ⟨rfl, hr, hbb⟩

set_option maxHeartbeats 1000000 in
theorem pass_no (w : World) (b bl cp : Nat) (pt : List PT) (i : Nat) (tk : List PT) (d e k : Int) (h : Rdr w b bl cp pt i tk d e) (hk : (pt[i]'h.lt).1 ≠ k) :
    Calls Tryd.prog 64 #[.pointer (some ⟨b, 0, none⟩), .int .i64 k] w fun r w' => r = .returned (.bool false) ∧ Rdr w' b bl cp pt i tk d 3 ∧ Below b w w' := by
  have H := toHid (is_no w b bl cp pt i tk d e k h hk)
  clear hk
  go_enter Tryd.func64, Tryd.ntmps64
  go_wp2_with (first | (go_at_call 30; refine H.out.mono ?_; rintro e w' ⟨rfl, hr, hbb⟩))
  go_ret
  exact ⟨rfl, hr, hbb⟩

set_option maxHeartbeats 1000000 in
theorem enter_no (w : World) (b bl cp : Nat) (pt : List PT) (i : Nat) (tk : List PT) (e : Int) (h : Rdr w b bl cp pt i tk 6 e) :
    Calls Tryd.prog 52 #[.pointer (some ⟨b, 0, none⟩)] w fun r w' => r = .returned (.bool false) ∧ Rdr w' b bl cp pt i tk 6 4 ∧ Below b w w' := by
  have HF := toHid (h.setE 4)
  obtain ⟨_, c2, c3, fz⟩ := h.cell
  have fz3 := fz 3
  clear fz h
  go_enter Tryd.func52, Tryd.ntmps52
  go_wp2
  go_ret
  exact ⟨rfl, HF.out⟩

set_option maxHeartbeats 1000000 in
theorem enter_yes (w : World) (b bl cp : Nat) (pt : List PT) (i : Nat) (tk : List PT) (d : Nat) (e : Int) (h : Rdr w b bl cp pt i tk d e) (hd : d < 6) (hi : i + 1 < pt.length) :
    Calls Tryd.prog 52 #[.pointer (some ⟨b, 0, none⟩)] w fun r w' => r = .returned (.bool true) ∧ Rdr w' b bl cp pt (i + 1) (tk ++ [pt[i]'h.lt]) ((d : Int) + 1) e ∧ Below b w w' := by
  have HF := toHid (h.setD ((d : Int) + 1))
  obtain ⟨_, c2, c3, fz⟩ := h.cell
  have fz2 := fz 2
  have HT := toHid (take45 _ b bl cp pt i tk _ e HF.out.1 hi)
  have hdb : ((d : Int) == 6) = false := beq_eq_false_iff_ne.2 (by omega)
  clear fz
  go_enter Tryd.func52, Tryd.ntmps52
  go_wp2_with (first | (go_at_call 45; refine HT.out.mono ?_; rintro e w' ⟨rfl, hr, hbb⟩))
  go_ret
  exact ⟨rfl, hr, HF.out.2.trans hbb⟩
end Go.Proofs.YtkhpobgknnjbaaaDoor
