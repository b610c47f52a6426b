import Derived.Test.YtihgojcfpnhelabGreatDoorS2Q
import Derived.Deep.AppendLies
set_option maxRecDepth 100000
set_option maxHeartbeats 4000000
set_option linter.unusedVariables false
set_option linter.unusedSimpArgs false
namespace Go.Proofs.YtihgojcfpnhelabGreatDoor
open Go.RowKit
section
attribute [local go_sem] idx_eq app_eq
def pcells (ts : List (By × Nat)) : List Value := ts.flatMap fun t => [.int .i64 (kindB t.1), .int .i64 (t.2 : Int), .string ⟨(nmB t.1).toArray⟩, .int .i64 (nuB t.1 : Int)]
theorem pcells_snoc (ts : List (By × Nat)) (t : By) (p : Nat) : pcells (ts ++ [(t, p)]) = pcells ts ++ [.int .i64 (kindB t), .int .i64 (p : Int), .string ⟨(nmB t).toArray⟩, .int .i64 (nuB t : Int)] := by simp [pcells]
def endC (n : Nat) : List Value := [.int .i64 0, .int .i64 (n : Int), .string ⟨#[]⟩, .int .i64 0]
theorem info46 : (Tryz.prog.info? 78).map (fun i => (i.zero, i.size, i.bytes)) = some (some (.agg #[.int .i64 0, .int .i64 0, .string ⟨#[]⟩, .int .i64 0]), 4, 40) := by kernel_rfl
theorem allD_tw (r : By) : AllD (r.take (r.takeWhile isD).length) := by
 induction r with
 | nil => intro x hx; simp at hx
 | cons c r ih =>
  cases hc : isD c
  ·simp [hc]
   intro x hx; simp at hx
  ·simp [hc]
   intro x hx
   simp at hx
   rcases hx with rfl | hx
   ·exact hc
   ·exact ih x hx
theorem row_cons (c : UInt8) (r : By) : (c :: r).take (rowLen (c :: r)) = c :: r.take (rowLen (c :: r) - 1) := by
 have := rowLen_pos c r
 obtain ⟨n, hn⟩ : ∃ n, rowLen (c :: r) = n + 1 := ⟨rowLen (c :: r) - 1, by omega⟩
 rw [hn]
 rfl
theorem row_allD (c : UInt8) (r : By) (hc : isD c = true) : AllD (c :: r.take (rowLen (c :: r) - 1)) := by
 have hL : isL c = false := by
  have := isD_range hc
  simp [isL, letB]
  omega
 rw [rowLen_D hL hc, Nat.add_sub_cancel_left]
 intro x hx
 simp only [List.mem_cons] at hx
 rcases hx with rfl | hx
 ·exact hc
 ·exact allD_tw r x hx
theorem drop_ext (s : By) (k : Nat) (h : k < s.length) : (ByteArray.mk s.toArray).extract k s.length = ⟨(s[k] :: s.drop (k + 1)).toArray⟩ := by
 rw [ext_eq, ← List.drop_eq_getElem_cons h, List.take_of_length_le (by simp)]
theorem toks_row (f : Nat) (s : By) (k : Nat) (hk : k < s.length) (h : s[k] ≠ 32) (hok : tokOK (s[k] :: (s.drop (k + 1)).take (rowLen (s[k] :: s.drop (k + 1)) - 1)) = true) :
  toks (f + 1) (s.drop k) k = ((s[k] :: (s.drop (k + 1)).take (rowLen (s[k] :: s.drop (k + 1)) - 1), k) :: (toks f (s.drop (k + rowLen (s[k] :: s.drop (k + 1)))) (k + rowLen (s[k] :: s.drop (k + 1)))).1, (toks f (s.drop (k + rowLen (s[k] :: s.drop (k + 1)))) (k + rowLen (s[k] :: s.drop (k + 1)))).2) := by
 rw [← row_cons] at hok ⊢
 have hd : s.drop (k + rowLen (s[k] :: s.drop (k + 1))) = (s[k] :: s.drop (k + 1)).drop (rowLen (s[k] :: s.drop (k + 1))) := by
  conv => rhs; arg 2; rw [← List.drop_eq_getElem_cons hk]
  rw [List.drop_drop]
 rw [hd, List.drop_eq_getElem_cons hk]
 conv => lhs; unfold toks
 rw [if_neg h, if_pos hok]
theorem toks_row_bad (f : Nat) (s : By) (k : Nat) (hk : k < s.length) (h : s[k] ≠ 32) (hok : tokOK (s[k] :: (s.drop (k + 1)).take (rowLen (s[k] :: s.drop (k + 1)) - 1)) = false) :
  toks (f + 1) (s.drop k) k = ([], some k) := by
 rw [← row_cons] at hok
 rw [List.drop_eq_getElem_cons hk]
 conv => lhs; unfold toks
 rw [if_neg h, if_neg (by rw [hok]; simp)]
def ScanPost (s : By) (w : World) (e : Ending) (w' : World) : Prop :=
 (∀ p, (toksOf s).2 = some p → e = .returned (.tuple #[.slice none 0 0, .int .i64 2, .int .i64 (p : Int)])) ∧
 ((toksOf s).2 = none → ∃ v, e = .returned (.tuple #[v, .int .i64 0, .int .i64 0]) ∧ w'.ownsRow w.heap.size 78 4 v ((toksOf s).1.length + 1) (pcells (toksOf s).1 ++ endC s.length)) ∧
 Below w.heap.size w w'
theorem scan_long (s : By) (w : World) (h : 120 < s.length) : Calls Tryz.prog 22 #[.string ⟨s.toArray⟩] w fun e w' => e = .returned (.tuple #[.slice none 0 0, .int .i64 1, .int .i64 0]) ∧ w = w' := by
 go_enter Tryz.func22, Tryz.ntmps22
 go_wp2
 go_ret3
 exact ⟨rfl, rfl⟩
theorem scan7 (s : By) (w : World) (hE : Env w) (hl : s.length ≤ 120) :
  Calls Tryz.prog 22 #[.string ⟨s.toArray⟩] w (ScanPost s w) := by
 obtain ⟨i0, hi, hz0, hz1, hz2⟩ := info_parts info46
 have HE := tZ hE
 clear hE
 go_enter Tryz.func22, Tryz.ntmps22
 go_wp2
 go_loopw [5, 6] (fun v i wr => ∃ (k f : Nat) (ts : List (By × Nat)), k ≤ s.length ∧ s.length ≤ k + f ∧ i = .int .i64 (k : Int) ∧ wr.ownsRow w.heap.size 78 4 v ts.length (pcells ts) ∧ Below w.heap.size w wr ∧ ts.length ≤ k ∧
   Hid (toksOf s = (ts ++ (toks f (s.drop k) k).1, (toks f (s.drop k) k).2))) (fun _ i _ => s.length - (intOf i).toNat)
 case atStart => exact ⟨0, s.length, [], by omega, by omega, rfl, World.ownsRow_nil _ _ _ _, Below.refl _ _, by simp, rfl⟩
 case round =>
  obtain ⟨k, f, ts, hk, hf, rfl, hown, hb, hts, HT⟩ := hrel
  have hsz := hb.size
  by_cases hlt : k < s.length
  ·obtain ⟨f, rfl⟩ : ∃ g, f = g + 1 := ⟨f - 1, by omega⟩
   by_cases hsp : s[k] = 32
   ·have HT2 := tZ (HT.out.trans (by rw [toks_space f s k hlt hsp]))
    have hspb : ((s[k].toNat : Int) == 32) = true := by simp [hsp]
    clear hsp
    go_wp2
    go_roundw
    case rel => exact ⟨k + 1, f, ts, by omega, by omega, by go_num, hown, hb, by omega, HT2⟩
    case measure => simp [intOf]; omega
   ·have hspb : ((s[k].toNat : Int) == 32) = false := by
     simp only [beq_eq_false_iff_ne]
     intro h
     apply hsp
     apply UInt8.toNat_inj.1
     simp; omega
    have HX := tZ (drop_ext s k hlt)
    have HRC := tZ (row_cons s[k] (s.drop (k + 1)))
    have HRA := tZ (row_allD s[k] (s.drop (k + 1)))
    have hrl : rowLen (s[k] :: s.drop (k + 1)) ≤ s.length - k := by have := rowLen_le (s[k] :: s.drop (k + 1)); rw [List.length_cons, List.length_drop] at this; omega
    have hrp := rowLen_pos s[k] (s.drop (k + 1))
    have HTR := tZ (toks_row f s k hlt hsp)
    have HTB := tZ (toks_row_bad f s k hlt hsp)
    have HLR := tZ (show (s.drop (k + 1)).length ≤ 1000 by simp; omega)
    clear hsp
    cases hok : tokOK (s[k] :: (s.drop (k + 1)).take (rowLen (s[k] :: s.drop (k + 1)) - 1))
    ·have HTP := tZ (show tokP (s[k] :: (s.drop (k + 1)).take (rowLen (s[k] :: s.drop (k + 1)) - 1)) = (0, [], 0, false) by unfold tokP; rw [hok]; rfl)
     have HB := tZ (HTB.out hok)
     clear hok
     generalize s.drop (k + 1) = r at *
     generalize s[k] = c at HX HRC HRA hrl hrp HTP
     go_wp2_with (first | (go_at_call 33; rw [HX.out]; refine (firstRow12 c r _ HLR.out).mono ?_; rw [HRC.out]; rintro e w' ⟨rfl, rfl⟩) | (go_at_call 34; refine (fromRow13 c (r.take (rowLen (c :: r) - 1)) _ (HE.out.next hb) (by have := HLR.out; rw [List.length_take]; omega) HRA.out).mono ?_; rw [HTP.out]; rintro e w1 ⟨rfl, hb1⟩))
     go_ret3
     refine ⟨fun p hp => ?_, fun hn => ?_, (hb.trans (hb1.mono hsz)).alloc (by have := hb1.size; omega) _⟩
     ·rw [HT.out, HB.out] at hp
      simp at hp
      subst hp
      rfl
     ·rw [HT.out, HB.out] at hn
      simp at hn
    ·have HTP := tZ (show tokP (s[k] :: (s.drop (k + 1)).take (rowLen (s[k] :: s.drop (k + 1)) - 1)) = (kindB (s[k] :: (s.drop (k + 1)).take (rowLen (s[k] :: s.drop (k + 1)) - 1)), nmB (s[k] :: (s.drop (k + 1)).take (rowLen (s[k] :: s.drop (k + 1)) - 1)), nuB (s[k] :: (s.drop (k + 1)).take (rowLen (s[k] :: s.drop (k + 1)) - 1)), true) by unfold tokP; rw [hok]; rfl)
     have HB := tZ (HTR.out hok)
     have HRL := tZ (show (s[k] :: (s.drop (k + 1)).take (rowLen (s[k] :: s.drop (k + 1)) - 1)).length = rowLen (s[k] :: s.drop (k + 1)) by rw [List.length_cons, List.length_take, List.length_drop]; omega)
     clear hok HTR HTB
     generalize s.drop (k + 1) = r at *
     generalize s[k] = c at HX HRC HRA hrl hrp HTP HB HRL
     generalize hn : rowLen (c :: r) = n at *
     have HN := tZ hn
     clear hn
     go_wp2_with (first | (go_at_call 33; rw [HX.out]; refine (firstRow12 c r _ HLR.out).mono ?_; rw [HN.out, HRC.out]; rintro e w' ⟨rfl, rfl⟩; refine Hid.out ?_))
     refine tZ ?_
     generalize hrow : c :: r.take (n - 1) = row at *
     have HROW := tZ hrow
     clear hrow
     go_wp2_with (first | (go_at_call 34; rw [← HROW.out]; refine (fromRow13 c (r.take (n - 1)) _ (HE.out.next hb) (by have := HLR.out; rw [List.length_take]; omega) (by rw [HROW.out]; exact HRA.out)).mono ?_; rw [HROW.out, HTP.out]; rintro e w1 ⟨rfl, hb1⟩; refine Hid.out ?_))
     refine tZ ?_
     have hs1 := hb1.size
     have hrl2 := HRL.out
     have HRL2 := tZ hrl2
     have hrl3 : (row.length : Int) ≤ s.length := by omega
     clear hrl2
     go_wp2_with (first | (at_builtin; refine wpList_append_own _ rfl (.tmp 37) (.tmp 39) 71 rfl w.heap.size 78 i0 (.agg #[.int .i64 0, .int .i64 0, .string ⟨#[]⟩, .int .i64 0]) 4 40 Tryz.underlying71 hi hz0 hz1 hz2 rfl (by decide) u5 ts.length (pcells ts) rfl (((own_below hown hb1).alloc _).alloc _) ⟨w1.heap.size + 1, 0, none⟩ 1 1 [.int .i64 (kindB row), .int .i64 (k : Int), .string ⟨(nmB row).toArray⟩, .int .i64 (nuB row : Int)] rfl rfl ?c1 (fun u hu => by simp at hu; rcases hu with rfl | rfl | rfl | rfl <;> rfl) (by unfold maxLen; omega) (by omega) (by simp; omega) ?_; rotate_right; intro v' w2 hown' hgrow _; refine Hid.out ?_))
     case c1 =>
      intro j u hj
      have := cells_new (w1.alloc (.cells #[.int .i64 (kindB row), .int .i64 (k : Int), .string ⟨(nmB row).toArray⟩, .int .i64 (nuB row : Int)] 78)) [.int .i64 (kindB row), .int .i64 (k : Int), .string ⟨(nmB row).toArray⟩, .int .i64 (nuB row : Int)] 78 j u hj
      simpa using this
     have HO := tZ hown'
     have HG := tZ hgrow
     clear hown' hgrow
     refine tZ ?_
     go_wp2
     go_roundw
     case rel =>
      refine ⟨k + n, f, ts ++ [(row, k)], by omega, by omega, by rw [HRL2.out]; go_num, ?_, ?_, by simp; omega, ?_⟩
      ·rw [pcells_snoc, List.length_append]
       exact HO.out
      ·refine (((hb.trans (hb1.mono hsz)).alloc (by omega) _).alloc (by simp; omega) _).grown HG.out (by simp; omega) (fun q hq => ?_)
       exact (World.ownsRow.lt hown q hq).1
      ·refine HT.out.trans ?_
       rw [HB.out]
       simp
     case measure => rw [HRL2.out]; simp [intOf]; omega
  ·go_wp2_with (first | (at_builtin; refine wpList_append_own _ rfl (.tmp 45) (.tmp 49) 71 rfl w.heap.size 78 i0 (.agg #[.int .i64 0, .int .i64 0, .string ⟨#[]⟩, .int .i64 0]) 4 40 Tryz.underlying71 hi hz0 hz1 hz2 rfl (by decide) u5 ts.length (pcells ts) rfl (hown.alloc _) ⟨wr.heap.size, 0, none⟩ 1 1 (endC s.length) rfl rfl (fun j u hj => cells_new wr (endC s.length) 78 j u hj) (fun u hu => by simp [endC] at hu; rcases hu with rfl | rfl | rfl | rfl <;> rfl) (by unfold maxLen; omega) (by omega) (by simp; omega) ?_; intro v' w2 hown' hgrow _))
   go_ret3
   have hnil : toks f (s.drop k) k = ([], none) := by
    rw [List.drop_of_length_le (by omega)]
    cases f <;> rfl
   have HF := HT.out
   rw [hnil] at HF
   simp at HF
   refine ⟨fun p hp => ?_, fun _ => ?_, (hb.alloc hsz _).grown hgrow (by simp; omega) (fun q hq => (World.ownsRow.lt hown q hq).1)⟩
   ·rw [HF] at hp; simp at hp
   ·rw [HF]; exact ⟨_, rfl, hown'⟩
end
section
abbrev PT := Int × Nat × By × Nat
def ptc (l : List PT) : List Value := l.flatMap fun t => [.int .i64 t.1, .int .i64 (t.2.1 : Int), .string ⟨t.2.2.1.toArray⟩, .int .i64 (t.2.2.2 : Int)]
theorem setCell_block {w : World} {b : Nat} {cs : Array Value} {t : TypeId} {fr : Nat × Nat} (h : w.heap[b]? = some (.cells cs t fr)) (j : Nat) (u : Value) : (w.setCell ⟨b, j, none⟩ u).heap[b]? = some (.cells (cs.setIfInBounds j u) t fr) := by
 simp [World.setCell, Array.getElem?_modify, h]
structure Kp (b : Nat) (w w' : World) : Prop where
 bel : Below b w w'
 up : ∀ q, b < q → q < w.heap.size → w'.heap[q]? = w.heap[q]?
theorem Kp.size {b : Nat} {w w' : World} (h : Kp b w w') : w.heap.size ≤ w'.heap.size := h.bel.size
theorem Kp.heap {b : Nat} {w w' : World} (h : Kp b w w') {q : Nat} (hq : q ≠ b) (hs : q < w.heap.size) : w'.heap[q]? = w.heap[q]? := by
 rcases Nat.lt_or_ge q b with h1 | h1
 ·exact h.bel.block q h1
 ·exact h.up q (by omega) hs
theorem Kp.refl (b : Nat) (w : World) : Kp b w w := ⟨Below.refl _ _, fun _ _ _ => rfl⟩
theorem Kp.trans {b : Nat} {w w' w'' : World} (h : Kp b w w') (g : Kp b w' w'') : Kp b w w'' :=
 ⟨h.bel.trans g.bel, fun q hq hs => (g.up q hq (Nat.lt_of_lt_of_le hs h.size)).trans (h.up q hq hs)⟩
theorem Kp.next {b : Nat} {w w' w'' : World} (h : Kp b w w') (g : Below w'.heap.size w' w'') (hb : b < w'.heap.size) : Kp b w w'' :=
 h.trans ⟨g.mono (by omega), fun q _ hs => g.block q hs⟩
theorem Kp.of {b : Nat} {w w' : World} (g : Below w.heap.size w w') (hb : b < w.heap.size) : Kp b w w' := (Kp.refl b w).next g hb
theorem Kp.here {b : Nat} (w : World) (j : Nat) (u : Value) : Kp b w (w.setCell ⟨b, j, none⟩ u) :=
 ⟨(Below.refl b w).setCell (p := ⟨b, j, none⟩) (Nat.le_refl _) _, fun q hq _ => Below.heap_setCell _ _ _ _ (by show q ≠ b; omega)⟩
theorem Kp.there {b : Nat} {w w' : World} (h : Kp b w w') (g j : Nat) (u : Value) (hg : w.heap.size ≤ g) (hb : b < w.heap.size) : Kp b w (w'.setCell ⟨g, j, none⟩ u) :=
 ⟨h.bel.setCell (p := ⟨g, j, none⟩) (by show b ≤ g; omega) _, fun q hq hs => (Below.heap_setCell _ _ _ _ (by show q ≠ g; omega)).trans (h.up q hq hs)⟩
theorem Kp.drew {b : Nat} {w w' : World} (h : Kp b w w') : Kp b w w'.drew := ⟨h.bel.drew, h.up⟩
theorem Kp.blk {b q : Nat} {w w' : World} {o : Obj} (h : Kp b w w') (hq : w.heap[q]? = some o) (hn : q ≠ b) : w'.heap[q]? = some o :=
 (h.heap hn (Array.getElem?_eq_some_iff.1 hq).1).trans hq
theorem fz_of_row {w : World} {q : Nat} {cs : Array Value} {t : TypeId} (h : w.heap[q]? = some (.cells cs t (0, 0))) (o : Nat) : w.frozen? ⟨q, o, none⟩ = false := by
 simp [World.frozen?, h]
theorem row4 {w : World} {q : Nat} {v0 v1 v2 v3 : Value} {t : TypeId} (h : w.heap[q]? = some (.cells #[v0, v1, v2, v3] t (0, 0))) :
  (w.cell? ⟨q, 0, none⟩ = some v0 ∧ w.cell? ⟨q, 1, none⟩ = some v1 ∧ w.cell? ⟨q, 2, none⟩ = some v2 ∧ w.cell? ⟨q, 3, none⟩ = some v3) ∧ (w.frozen? ⟨q, 0, none⟩ = false ∧ w.frozen? ⟨q, 1, none⟩ = false ∧ w.frozen? ⟨q, 2, none⟩ = false ∧ w.frozen? ⟨q, 3, none⟩ = false) ∧ q < w.heap.size :=
 ⟨⟨(cell_of_row w q 0 _ _ _ h).trans rfl, (cell_of_row w q 1 _ _ _ h).trans rfl, (cell_of_row w q 2 _ _ _ h).trans rfl, (cell_of_row w q 3 _ _ _ h).trans rfl⟩, ⟨fz_of_row h 0, fz_of_row h 1, fz_of_row h 2, fz_of_row h 3⟩, (Array.getElem?_eq_some_iff.1 h).1⟩
theorem row1 {w : World} {q : Nat} {v0 : Value} {t : TypeId} (h : w.heap[q]? = some (.cells #[v0] t (0, 0))) :
  w.cell? ⟨q, 0, none⟩ = some v0 ∧ w.frozen? ⟨q, 0, none⟩ = false ∧ q < w.heap.size :=
 ⟨(cell_of_row w q 0 _ _ _ h).trans rfl, fz_of_row h 0, (Array.getElem?_eq_some_iff.1 h).1⟩
structure Rdr (w : World) (b bl cp : Nat) (pt : List PT) (i : Nat) (d e : Int) : Prop where
 own : w.heap[b]? = some (.cells #[.slice (some ⟨bl, i * 4, none⟩) (pt.length - i) (cp - i), .int .i64 d, .int .i64 e] 141 (0, 0))
 blk : bl < b
 lt : i < pt.length
 cap : pt.length ≤ cp
 many : pt.length ≤ 200
 kip : ∀ t, t ∈ pt → 0 ≤ t.1 ∧ t.1 < 20
 left : ∀ j (h : j < pt.length), w.cell? ⟨bl, j * 4, none⟩ = some (.int .i64 pt[j].1) ∧ w.cell? ⟨bl, j * 4 + 1, none⟩ = some (.int .i64 (pt[j].2.1 : Int)) ∧ w.cell? ⟨bl, j * 4 + 2, none⟩ = some (.string ⟨pt[j].2.2.1.toArray⟩) ∧ w.cell? ⟨bl, j * 4 + 3, none⟩ = some (.int .i64 (pt[j].2.2.2 : Int))
section
variable {w : World} {b bl cp : Nat} {pt : List PT} {i : Nat} {d e : Int}
theorem Rdr.size (h : Rdr w b bl cp pt i d e) : b < w.heap.size := (Array.getElem?_eq_some_iff.1 h.own).1
theorem Rdr.cell (h : Rdr w b bl cp pt i d e) : w.cell? ⟨b, 0, none⟩ = some (.slice (some ⟨bl, i * 4, none⟩) (pt.length - i) (cp - i)) ∧ w.cell? ⟨b, 1, none⟩ = some (.int .i64 d) ∧ w.cell? ⟨b, 2, none⟩ = some (.int .i64 e) ∧ ∀ j, w.frozen? ⟨b, j, none⟩ = false := by
 have hb := h.own
 refine ⟨?_, ?_, ?_, fun j => ?_⟩
 ·rw [cell_of_row w b 0 _ _ _ hb]; rfl
 ·rw [cell_of_row w b 1 _ _ _ hb]; rfl
 ·rw [cell_of_row w b 2 _ _ _ hb]; rfl
 ·simp [World.frozen?, hb]
theorem Rdr.next (h : Rdr w b bl cp pt i d e) {w' : World} (hb : Below w.heap.size w w') : Rdr w' b bl cp pt i d e := by
 have hs := h.size
 refine ⟨(hb.block b hs).trans h.own, h.blk, h.lt, h.cap, h.many, h.kip, fun j hj => ?_⟩
 have hl : bl < w.heap.size := Nat.lt_trans h.blk hs
 rw [hb.cell hl, hb.cell hl, hb.cell hl, hb.cell hl]; exact h.left j hj
theorem Rdr.apart (h : Rdr w b bl cp pt i d e) {w' : World} (hb : w'.heap[b]? = w.heap[b]?) (hl : w'.heap[bl]? = w.heap[bl]?) : Rdr w' b bl cp pt i d e := by
 refine ⟨hb.trans h.own, h.blk, h.lt, h.cap, h.many, h.kip, fun j hj => ?_⟩
 have key : ∀ o, w'.cell? ⟨bl, o, none⟩ = w.cell? ⟨bl, o, none⟩ := fun o => by simp only [World.cell?, hl]
 rw [key, key, key, key]; exact h.left j hj
theorem Rdr.store (h : Rdr w b bl cp pt i d e) {g j : Nat} {u : Value} (hg : g ≠ b) (hl : g ≠ bl) : Rdr (w.setCell ⟨g, j, none⟩ u) b bl cp pt i d e :=
 h.apart (Below.heap_setCell _ _ _ _ (by show b ≠ g; omega)) (Below.heap_setCell _ _ _ _ (by show bl ≠ g; omega))
theorem Rdr.drew (h : Rdr w b bl cp pt i d e) : Rdr w.drew b bl cp pt i d e := ⟨h.own, h.blk, h.lt, h.cap, h.many, h.kip, h.left⟩
theorem Rdr.setD (h : Rdr w b bl cp pt i d e) (d' : Int) : Rdr (w.setCell ⟨b, 1, none⟩ (.int .i64 d')) b bl cp pt i d' e ∧ Kp b w (w.setCell ⟨b, 1, none⟩ (.int .i64 d')) := by
 have hk := Kp.here (b := b) w 1 (.int .i64 d')
 refine ⟨⟨?_, h.blk, h.lt, h.cap, h.many, h.kip, fun j hj => ?_⟩, hk⟩
 ·rw [setCell_block h.own]; rfl
 ·rw [hk.bel.cell h.blk, hk.bel.cell h.blk, hk.bel.cell h.blk, hk.bel.cell h.blk]; exact h.left j hj
theorem Rdr.setE (h : Rdr w b bl cp pt i d e) (e' : Int) : Rdr (w.setCell ⟨b, 2, none⟩ (.int .i64 e')) b bl cp pt i d e' ∧ Kp b w (w.setCell ⟨b, 2, none⟩ (.int .i64 e')) := by
 have hk := Kp.here (b := b) w 2 (.int .i64 e')
 refine ⟨⟨?_, h.blk, h.lt, h.cap, h.many, h.kip, fun j hj => ?_⟩, hk⟩
 ·rw [setCell_block h.own]; rfl
 ·rw [hk.bel.cell h.blk, hk.bel.cell h.blk, hk.bel.cell h.blk, hk.bel.cell h.blk]; exact h.left j hj
theorem Rdr.step (h : Rdr w b bl cp pt i d e) (hi : i + 1 < pt.length) : Rdr (w.setCell ⟨b, 0, none⟩ (.slice (some ⟨bl, i * 4 + 4, none⟩) (pt.length - i - 1) (cp - i - 1))) b bl cp pt (i + 1) d e ∧ Kp b w (w.setCell ⟨b, 0, none⟩ (.slice (some ⟨bl, i * 4 + 4, none⟩) (pt.length - i - 1) (cp - i - 1))) := by
 have hk := Kp.here (b := b) w 0 (.slice (some ⟨bl, i * 4 + 4, none⟩) (pt.length - i - 1) (cp - i - 1))
 refine ⟨⟨?_, h.blk, hi, h.cap, h.many, h.kip, fun j hj => ?_⟩, hk⟩
 ·rw [setCell_block h.own, show (i + 1) * 4 = i * 4 + 4 by omega, show pt.length - (i + 1) = pt.length - i - 1 by omega, show cp - (i + 1) = cp - i - 1 by omega]; rfl
 ·rw [hk.bel.cell h.blk, hk.bel.cell h.blk, hk.bel.cell h.blk, hk.bel.cell h.blk]; exact h.left j hj
end
theorem heap4 (w : World) (g : Nat) (v0 v1 v2 v3 : Value) {q : Nat} (h : q ≠ g) : ((((w.setCell ⟨g, 0, none⟩ v0).setCell ⟨g, 1, none⟩ v1).setCell ⟨g, 2, none⟩ v2).setCell ⟨g, 3, none⟩ v3).heap[q]? = w.heap[q]? := by
 rw [Below.heap_setCell _ _ _ _ h, Below.heap_setCell _ _ _ _ h, Below.heap_setCell _ _ _ _ h, Below.heap_setCell _ _ _ _ h]
theorem Rdr.store4 {w : World} {b bl cp : Nat} {pt : List PT} {i : Nat} {d e : Int} (h : Rdr w b bl cp pt i d e) (g : Nat) (v0 v1 v2 v3 : Value) (hg : b < g) : Rdr ((((w.setCell ⟨g, 0, none⟩ v0).setCell ⟨g, 1, none⟩ v1).setCell ⟨g, 2, none⟩ v2).setCell ⟨g, 3, none⟩ v3) b bl cp pt i d e :=
 h.apart (heap4 w g v0 v1 v2 v3 (by omega)) (heap4 w g v0 v1 v2 v3 (by have := h.blk; omega))
theorem Kp.there4 {b : Nat} {w w' : World} (h : Kp b w w') (g : Nat) (v0 v1 v2 v3 : Value) (hg : w.heap.size ≤ g) (hb : b < w.heap.size) : Kp b w ((((w'.setCell ⟨g, 0, none⟩ v0).setCell ⟨g, 1, none⟩ v1).setCell ⟨g, 2, none⟩ v2).setCell ⟨g, 3, none⟩ v3) :=
 (((h.there g 0 v0 hg hb).there g 1 v1 hg hb).there g 2 v2 hg hb).there g 3 v3 hg hb
theorem heap2 (w : World) (o1 o2 : Obj) {q : Nat} (h : q < w.heap.size) : ((w.alloc o1).alloc o2).heap[q]? = w.heap[q]? := by
 rw [Below.heap_alloc _ _ _ (by simp; omega), Below.heap_alloc _ _ _ h]
theorem below2 (w : World) (o1 o2 : Obj) : Below w.heap.size w ((w.alloc o1).alloc o2) := (bZ _).alloc (by simp) _
theorem size4 (w : World) (g : Nat) (v0 v1 v2 v3 : Value) : ((((w.setCell ⟨g, 0, none⟩ v0).setCell ⟨g, 1, none⟩ v1).setCell ⟨g, 2, none⟩ v2).setCell ⟨g, 3, none⟩ v3).heap.size = w.heap.size := by simp
theorem kind42 (w : World) (b bl cp : Nat) (pt : List PT) (i : Nat) (d e : Int) (h : Rdr w b bl cp pt i d e) :
  Calls Tryz.prog 119 #[.pointer (some ⟨b, 0, none⟩)] w fun r w' => r = .returned (.int .i64 (pt[i]'h.lt).1) ∧ w = w' := by
 have c0 := h.cell.1
 have l0 := (h.left i h.lt).1
 have hlt := h.lt
 have hn : (0 : Int) < ((pt.length - i : Nat) : Int) := by omega
 generalize (pt[i]'h.lt).1 = k at *
 generalize pt.length - i = n at *
 clear h hlt
 go_enter Tryz.func119, Tryz.ntmps119
 go_wp2
 go_ret
 exact ⟨rfl, rfl⟩
theorem is_yes (w : World) (b bl cp : Nat) (pt : List PT) (i : Nat) (d e k : Int) (h : Rdr w b bl cp pt i d e) (hk : (pt[i]'h.lt).1 = k) :
  Calls Tryz.prog 92 #[.pointer (some ⟨b, 0, none⟩), .int .i64 k] w fun r w' => r = .returned (.bool true) ∧ w = w' := by
 have H := tZ (kind42 w b bl cp pt i d e h)
 have HK := tZ hk
 have hkb : (k != k) = false := by simp
 clear hk
 go_enter Tryz.func92, Tryz.ntmps92
 go_wp2_with (first | (go_at_call 119; refine H.out.mono ?_; rw [HK.out]; rintro e w' ⟨rfl, rfl⟩))
 go_ret
 exact ⟨rfl, rfl⟩
theorem is_no (w : World) (b bl cp : Nat) (pt : List PT) (i : Nat) (d e k : Int) (h : Rdr w b bl cp pt i d e) (hk : (pt[i]'h.lt).1 ≠ k) :
  Calls Tryz.prog 92 #[.pointer (some ⟨b, 0, none⟩), .int .i64 k] w fun r w' => r = .returned (.bool false) ∧ Rdr w' b bl cp pt i d 3 ∧ Kp b w w' := by
 have H := tZ (kind42 w b bl cp pt i d e h)
 have HF := tZ (h.setE 3)
 obtain ⟨_, _, c2, fz⟩ := h.cell
 have fz2 := fz 2
 clear fz
 generalize (pt[i]'h.lt).1 = z at *
 have hkb : (z == k) = false := beq_eq_false_iff_ne.2 hk
 have hkb2 : (z != k) = true := by simp [bne, hkb]
 clear hk h
 go_enter Tryz.func92, Tryz.ntmps92
 go_wp2_with (first | (go_at_call 119; refine H.out.mono ?_; rintro e w' ⟨rfl, rfl⟩))
 go_ret
 exact ⟨rfl, HF.out⟩
theorem take45 (w : World) (b bl cp : Nat) (pt : List PT) (i : Nat) (d e : Int) (h : Rdr w b bl cp pt i d e) (hi : i + 1 < pt.length) :
  Calls Tryz.prog 122 #[.pointer (some ⟨b, 0, none⟩)] w fun r w' => r = .returned (.agg #[.int .i64 (pt[i]'h.lt).1, .int .i64 ((pt[i]'h.lt).2.1 : Int), .string ⟨(pt[i]'h.lt).2.2.1.toArray⟩, .int .i64 ((pt[i]'h.lt).2.2.2 : Int)]) ∧ Rdr w' b bl cp pt (i + 1) d e ∧ Kp b w w' := by
 obtain ⟨c0, _, _, fz⟩ := h.cell
 have fz0 := fz 0
 obtain ⟨l0, l1, l2, l3⟩ := h.left i h.lt
 have hcap := h.cap
 have hs := h.size
 have hbs : bl < w.heap.size := Nat.lt_trans h.blk hs
 have HF := tZ (fun w' (g : Rdr w' b bl cp pt i d e) => g.step hi)
 have HR := tZ h
 obtain ⟨n, hn⟩ : ∃ n, pt.length - i = n + 2 := ⟨pt.length - i - 2, by omega⟩
 obtain ⟨m, hm⟩ : ∃ m, cp - i = m + 2 := ⟨cp - i - 2, by omega⟩
 have hnm : n ≤ m := by omega
 rw [hn, hm] at c0 HF
 have hmany := h.many
 have hn1 : (0 : Int) < (n : Int) + 2 := by omega
 have hn2 : (0 : Int) ≤ (n : Int) := by omega
 have hn3 : (n : Int) ≤ (m : Int) := by omega
 generalize (pt[i]'h.lt).1 = k at *
 generalize (pt[i]'h.lt).2.1 = p at *
 generalize (pt[i]'h.lt).2.2.1 = x at *
 generalize (pt[i]'h.lt).2.2.2 = nn at *
 clear fz h hcap hn hm
 go_enter Tryz.func122, Tryz.ntmps122
 go_wp2
 refine bodyPost_ret (v := .agg #[.int .i64 k, .int .i64 (p : Int), .string ⟨x.toArray⟩, .int .i64 (nn : Int)]) (by simp [results, Tryz.results122, go_sem]) rfl ?_
 have hb2 := ((Below.refl _ (w.setCell ⟨b, 0, none⟩ (.slice (some ⟨bl, i * 4 + 4, none⟩) (n + 1) (m + 1)))).alloc (Nat.le_refl _) (.cells #[.int .i64 k, .int .i64 (p : Int), .string ⟨x.toArray⟩, .int .i64 (nn : Int)] 78)).alloc (by simp) (.cells #[.int .i64 k, .int .i64 (p : Int), .string ⟨x.toArray⟩, .int .i64 (nn : Int)] 78)
 exact ⟨rfl, (HF.out w HR.out).1.next hb2, (HF.out w HR.out).2.next hb2 (by simp; omega)⟩
theorem pass_yes (w : World) (b bl cp : Nat) (pt : List PT) (i : Nat) (d e k : Int) (h : Rdr w b bl cp pt i d e) (hk : (pt[i]'h.lt).1 = k) (hi : i + 1 < pt.length) :
  Calls Tryz.prog 174 #[.pointer (some ⟨b, 0, none⟩), .int .i64 k] w fun r w' => r = .returned (.bool true) ∧ Rdr w' b bl cp pt (i + 1) d e ∧ Kp b w w' := by
 have H := tZ (is_yes w b bl cp pt i d e k h hk)
 have HT := tZ (take45 w b bl cp pt i d e h hi)
 clear hk
 go_enter Tryz.func174, Tryz.ntmps174
 go_wp2_with (first | (go_at_call 92; refine H.out.mono ?_; rintro e w' ⟨rfl, rfl⟩) | (go_at_call 122; refine HT.out.mono ?_; rintro e w' ⟨rfl, hr, hbb⟩))
 go_ret
 exact ⟨rfl, hr, hbb⟩
theorem pass_no (w : World) (b bl cp : Nat) (pt : List PT) (i : Nat) (d e k : Int) (h : Rdr w b bl cp pt i d e) (hk : (pt[i]'h.lt).1 ≠ k) :
  Calls Tryz.prog 174 #[.pointer (some ⟨b, 0, none⟩), .int .i64 k] w fun r w' => r = .returned (.bool false) ∧ Rdr w' b bl cp pt i d 3 ∧ Kp b w w' := by
 have H := tZ (is_no w b bl cp pt i d e k h hk)
 clear hk
 go_enter Tryz.func174, Tryz.ntmps174
 go_wp2_with (first | (go_at_call 92; refine H.out.mono ?_; rintro e w' ⟨rfl, hr, hbb⟩))
 go_ret
 exact ⟨rfl, hr, hbb⟩
theorem enter_no (w : World) (b bl cp : Nat) (pt : List PT) (i : Nat) (e : Int) (h : Rdr w b bl cp pt i 6 e) :
  Calls Tryz.prog 149 #[.pointer (some ⟨b, 0, none⟩)] w fun r w' => r = .returned (.tuple #[.agg #[.int .i64 0, .int .i64 0, .string ⟨#[]⟩, .int .i64 0], .bool false]) ∧ Rdr w' b bl cp pt i 6 4 ∧ Kp b w w' := by
 have hs := h.size
 have HF := tZ (h.setE 4)
 obtain ⟨_, c2, c3, fz⟩ := h.cell
 have fz3 := fz 2
 clear fz h
 go_enter Tryz.func149, Tryz.ntmps149
 go_wp2
 refine bodyPost_ret (v := .tuple #[.agg #[.int .i64 0, .int .i64 0, .string ⟨#[]⟩, .int .i64 0], .bool false]) (by simp [results, Tryz.results149, go_sem]) rfl ?_
 have hb2 := (Below.refl _ (w.setCell ⟨b, 2, none⟩ (.int .i64 4))).alloc (Nat.le_refl _) (.cells #[.int .i64 0, .int .i64 0, .string ⟨#[]⟩, .int .i64 0] 78)
 exact ⟨rfl, HF.out.1.next hb2, HF.out.2.next hb2 (by simp; omega)⟩
theorem enter_yes (w : World) (b bl cp : Nat) (pt : List PT) (i : Nat) (d : Nat) (e : Int) (h : Rdr w b bl cp pt i d e) (hd : d < 6) (hi : i + 1 < pt.length) :
  Calls Tryz.prog 149 #[.pointer (some ⟨b, 0, none⟩)] w fun r w' => r = .returned (.tuple #[.agg #[.int .i64 (pt[i]'h.lt).1, .int .i64 ((pt[i]'h.lt).2.1 : Int), .string ⟨(pt[i]'h.lt).2.2.1.toArray⟩, .int .i64 ((pt[i]'h.lt).2.2.2 : Int)], .bool true]) ∧ Rdr w' b bl cp pt (i + 1) ((d : Int) + 1) e ∧ Kp b w w' := by
 have HF := tZ (h.setD ((d : Int) + 1))
 obtain ⟨_, c2, c3, fz⟩ := h.cell
 have fz2 := fz 1
 have hs := h.size
 have hblk := h.blk
 have HT := tZ (fun w1 (g : Rdr w1 b bl cp pt i ((d : Int) + 1) e) => take45 w1 b bl cp pt i _ e g hi)
 have hdb : ((d : Int) == 6) = false := beq_eq_false_iff_ne.2 (by omega)
 have hlt := h.lt
 clear fz
 go_enter Tryz.func149, Tryz.ntmps149
 go_wp2_with (first | (go_at_call 122; refine (HT.out _ (HF.out.1.next (bZ _))).mono ?_; rintro e w' ⟨rfl, hr, hbb⟩; refine Hid.out ?_))
 have hblk1 := hbb.blk (q := w.heap.size) (by have := heap_alloc_new (w.setCell ⟨b, 1, none⟩ (.int .i64 ((d : Int) + 1))) (.cells #[.int .i64 0, .int .i64 0, .string ⟨#[]⟩, .int .i64 0] 78); simpa using this) (by omega)
 obtain ⟨⟨k0, k1, k2, k3⟩, ⟨f0, f1, f2, f3⟩, hsz⟩ := row4 hblk1
 clear hblk1
 have HB := tZ hbb
 have HR := tZ hr
 clear hr hbb
 refine tZ ?_
 go_wp2
 refine bodyPost_ret (v := .tuple #[.agg #[.int .i64 (pt[i]'hlt).1, .int .i64 ((pt[i]'hlt).2.1 : Int), .string ⟨(pt[i]'hlt).2.2.1.toArray⟩, .int .i64 ((pt[i]'hlt).2.2.2 : Int)], .bool true]) (by simp [results, Tryz.results149, go_sem, k0, k1, k2, k3]) rfl ?_
 have hk0 : Kp b w w' := (HF.out.2.next (bZ _) (by simp; omega)).trans HB.out
 exact ⟨rfl, (((HR.out.store (by omega) (by omega)).store (by omega) (by omega)).store (by omega) (by omega)).store (by omega) (by omega), (((hk0.there _ _ _ (Nat.le_refl _) hs).there _ _ _ (Nat.le_refl _) hs).there _ _ _ (Nat.le_refl _) hs).there _ _ _ (Nat.le_refl _) hs⟩
end
end Go.Proofs.YtihgojcfpnhelabGreatDoor
