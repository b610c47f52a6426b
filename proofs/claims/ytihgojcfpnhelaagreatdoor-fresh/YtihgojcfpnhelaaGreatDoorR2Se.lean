import Derived.Test.YtihgojcfpnhelaaGreatDoorR2Sc
import Derived.LaidEqlPtr
import Derived.Lib.AppendZeros
set_option maxRecDepth 100000
set_option maxHeartbeats 4000000
set_option linter.unusedVariables false
set_option linter.unusedSimpArgs false
namespace Go.Proofs.YtihgojcfpnhelaaGreatDoor
open Go.RowKit
section
theorem putOrder (q o : Nat) (a : Option Addr) (l c : Nat) (a' : Option Addr) (l' c' : Nat) (w : World) (hc : w.cell? ⟨q, o, none⟩ = some (.slice a l c)) (hf : w.frozen? ⟨q, o, none⟩ = false) (hq : q < w.heap.size) :
  Calls Tryz.prog 163 #[.pointer (some ⟨q, o, none⟩), .slice a' l' c'] w fun e w' => e = .returned (.func (.func 192) #[] #[.pointer (some ⟨w.heap.size, 0, none⟩), .pointer (some ⟨w.heap.size + 1, 0, none⟩)]) ∧ w' = ((w.setCell ⟨q, o, none⟩ (.slice a' l' c')).alloc (.cells #[.pointer (some ⟨q, o, none⟩)] 253)).alloc (.cells #[.slice a l c] 101) := by
 go_enter Tryz.func163, Tryz.ntmps163
 go_wp2
 go_ret
 exact ⟨rfl, rfl⟩
theorem putValue (q : Nat) (k n k' n' : Int) (w : World) (hc : w.cell? ⟨q, 5, none⟩ = some (.int .i64 k)) (hc1 : w.cell? ⟨q, 6, none⟩ = some (.int .i64 n)) (hf : w.frozen? ⟨q, 5, none⟩ = false) (hf1 : w.frozen? ⟨q, 6, none⟩ = false) (hq : q < w.heap.size) :
  Calls Tryz.prog 196 #[.pointer (some ⟨q, 5, none⟩), .agg #[.int .i64 k', .int .i64 n']] w fun e w' => e = .returned (.func (.func 219) #[] #[.pointer (some ⟨w.heap.size, 0, none⟩), .pointer (some ⟨w.heap.size + 1 + 1, 0, none⟩)]) ∧ w' = ((((w.setCell ⟨q, 5, none⟩ (.int .i64 k')).setCell ⟨q, 6, none⟩ (.int .i64 n')).alloc (.cells #[.pointer (some ⟨q, 5, none⟩)] 287)).alloc (.cells #[.int .i64 k', .int .i64 n'] 177)).alloc (.cells #[.int .i64 k, .int .i64 n] 177) := by
 have hq1 : q < w.heap.size + 1 := by omega
 have hq2 : q < w.heap.size + 1 + 1 := by omega
 go_enter Tryz.func196, Tryz.ntmps196
 go_wp2
 go_ret
 exact ⟨rfl, rfl⟩
theorem all138 (a : Option Addr) (l c : Nat) (w : World) :
  Calls Tryz.prog 72 #[.slice a l c] w fun e w' => e = .returned (.func (.func 106) #[] #[.pointer (some ⟨w.heap.size, 0, none⟩)]) ∧ w' = w.alloc (.cells #[.slice a l c] 104) := by
 go_enter Tryz.func72, Tryz.ntmps72
 go_wp2
 go_ret
 exact ⟨rfl, rfl⟩
end
section
theorem infoFd : (Tryz.prog.info? 223).map (fun i => i.size) = some 7 := by kernel_rfl
theorem ptr_same (b : Nat) (w : World) : (binOp .eql 220 (.pointer (some ⟨b, 0, none⟩)) (.pointer (some ⟨b, 0, none⟩))).run Tryz.prog w = .ok (.bool true) w := by
 obtain ⟨i, hi, _⟩ := Option.map_eq_some_iff.1 infoFd
 exact run_eql_ptr_same w _ Tryz.underlying220 hi
theorem ptr_other {S : Nat → Prop} {b b' : Nat} {f f' : Fd} (w : World) (h : FdAt w S b f) (h' : FdAt w S b' f') (hne : b ≠ b') : (binOp .eql 220 (.pointer (some ⟨b, 0, none⟩)) (.pointer (some ⟨b', 0, none⟩))).run Tryz.prog w = .ok (.bool false) w := by
 obtain ⟨i, hi, hs⟩ := Option.map_eq_some_iff.1 infoFd
 obtain ⟨_, _, _, _, a, l, c, hb, _⟩ := h
 obtain ⟨_, _, _, _, a', l', c', hb', _⟩ := h'
 exact run_eql_ptr_other w Tryz.underlying220 hi (by omega) (fun e => hne (congrArg Addr.block e)) hb hb'
theorem index136 {S : Nat → Prop} (a : Option Addr) (c b j0 : Nat) (fs : List (Nat × Fd)) (w : World) (hs : Sh w S a fs) (hl : fs.length ≤ 1000) (hj0 : j0 < fs.length) (hb : (fs[j0]).1 = b) (hn : ∀ i (h : i < fs.length), i < j0 → (fs[i]).1 ≠ b) :
  Calls Tryz.prog 165 #[.slice a fs.length c, .pointer (some ⟨b, 0, none⟩)] w fun e w' => e = .returned (.int .i64 (j0 : Int)) ∧ w = w' := by
 have HS := tZ hs
 have HN := tZ hn
 have HB := tZ hb
 clear hs hn hb
 go_enter Tryz.func165, Tryz.ntmps165
 go_wp2_with fail
 go_loopg [5, 8] fs.length (fun gk _ s8 wr => wr = w ∧ ∃ j : Nat, j ≤ j0 ∧ fs.length ≤ j + gk ∧ s8 = .int .i64 (j : Int))
 case atStart => exact ⟨rfl, 0, Nat.zero_le _, by omega, rfl⟩
 case round =>
  obtain ⟨rfl, j, hj, hgk, rfl⟩ := hrel
  obtain ⟨g, o, rfl, hg, hp⟩ := HS.out.ptr j (by omega)
  have hltz : (j : Int) < (fs.length : Int) := by omega
  by_cases he : j = j0
  ·subst he
   rw [HB.out] at hp
   have hsame := ptr_same b wr
   go_wp2
   go_ret
   exact ⟨rfl, rfl⟩
  ·have hne := HN.out j (by omega) (by omega)
   have hother := ptr_other wr (HB.out ▸ HS.out.fld fs[j0] (List.getElem_mem hj0)) (HS.out.fld fs[j] (List.getElem_mem (by omega))) (fun h => hne h.symm)
   go_wp2
   go_roundg (fs.length - (j + 1))
   case measure => omega
   case rel => exact ⟨rfl, j + 1, by omega, by omega, by go_num⟩
theorem grow165 (n : Nat) (w : World) (hn : n ≤ 1000) :
  Calls Tryz.prog 193 #[.slice none 0 0, .int .i64 (n : Int)] w fun e w' => ∃ v, e = .returned v ∧ w'.ownsRow w.heap.size 220 1 v 0 [] ∧ Below w.heap.size w w' := by
 have hn0 : ¬ (n : Int) < 0 := by omega
 obtain ⟨i1, gi, gz0, gz1, gz2⟩ := info_parts infoPtr
 by_cases h0 : n = 0
 ·subst h0
  go_enter Tryz.func193, Tryz.ntmps193
  go_wp2
  go_ret
  exact ⟨_, rfl, World.ownsRow_nil _ _ _ _, Below.refl _ _⟩
 ·have hn1 : (0 : Int) < (n : Int) := by omega
  go_enter Tryz.func193, Tryz.ntmps193
  have hrun := Lib.run_append_nil_zeros (P := Tryz.prog) w 101 3 101 220 i1 (.pointer none) .i64 .i64 Tryz.underlying101 Tryz.underlying3 gi gz0 n (by omega) (by omega) (by omega) (by rw [gz2]; omega)
  have HR := tZ hrun
  have hcap := grownCap_ge w n 0 220
  have hcl := grownCap_le_maxLen w n 0 220 (by unfold maxLen; omega)
  generalize grownCap w n 0 220 = cap at *
  clear hrun
  go_wp2_with (first | (at_builtin; refine Lib.wpList_append_run _ rfl _ _ _ _ rfl _ _ rfl rfl _ _ HR.out ?_))
  go_ret
  exact ⟨_, rfl, ⟨by simp, Or.inr ⟨w.heap.size, cap, _, rfl, Nat.le_refl _, heap_alloc_new w _, Nat.zero_le _, hcl, by simp [size_zeroCells]; omega, by simp⟩⟩, (bZ _).drew⟩
theorem addr_add (g o j : Nat) : (⟨g, o, none⟩ : Addr).add j = ⟨g, o + j, none⟩ := by
 unfold Addr.add
 split <;> simp_all
def PtAt (w : World) (v : Value) (fs : List (Nat × Fd)) : Prop := ∃ (a : Option Addr) (c : Nat), v = .slice a fs.length c ∧ (a = none → c = 0) ∧ ∀ j (h : j < fs.length), ∃ g o, a = some ⟨g, o, none⟩ ∧ g < w.heap.size ∧ w.cell? ⟨g, o + j, none⟩ = some (.pointer (some ⟨(fs[j]).1, 0, none⟩))
theorem PtAt.next {w w' : World} {v : Value} {fs : List (Nat × Fd)} (h : PtAt w v fs) (hb : Below w.heap.size w w') : PtAt w' v fs := by
 obtain ⟨a, c, hv, hn, h⟩ := h
 refine ⟨a, c, hv, hn, fun j hj => ?_⟩
 obtain ⟨g, o, h1, h2, h3⟩ := h j hj
 exact ⟨g, o, h1, Nat.lt_of_lt_of_le h2 hb.size, (hb.cell (p := ⟨g, o + j, none⟩) h2).trans h3⟩
def catP : List (List (Nat × Fd)) → List (Nat × Fd)
 | [] => []
 | x :: r => x ++ catP r
theorem catP_append (a b : List (List (Nat × Fd))) : catP (a ++ b) = catP a ++ catP b := by
 induction a with
 | nil => rfl
 | cons x a ih => simp [catP, ih]
theorem flat_take (ps : List (List (Nat × Fd))) (i : Nat) (h : i < ps.length) : catP (ps.take (i + 1)) = catP (ps.take i) ++ ps[i] := by
 rw [show ps.take (i + 1) = ps.take i ++ [ps[i]] by rw [List.take_add_one, List.getElem?_eq_getElem h]; rfl, catP_append]
 simp [catP]
theorem flat_le (ps : List (List (Nat × Fd))) (i : Nat) : (catP (ps.take i)).length ≤ (catP ps).length := by
 have := congrArg (fun x => (catP x).length) (List.take_append_drop i ps)
 simp only [catP_append, List.length_append] at this
 omega
theorem concat135 (ps : List (List (Nat × Fd))) (vs : List Value) (sb cc : Nat) (w : World) (hvl : vs.length = ps.length) (hsb : sb < w.heap.size) (hc : ∀ i (h : i < ps.length), w.cell? ⟨sb, i, none⟩ = some (vs[i]'(by omega)) ∧ PtAt w (vs[i]'(by omega)) ps[i]) (hl : (catP ps).length ≤ 500) (hpl : ps.length ≤ 10) :
  Calls Tryz.prog 164 #[.slice (some ⟨sb, 0, none⟩) ps.length cc] w fun e w' => ∃ v, e = .returned v ∧ w'.ownsRow w.heap.size 220 1 v (catP ps).length (ptrs (catP ps)) ∧ Below w.heap.size w w' := by
 obtain ⟨i1, gi, gz0, gz1, gz2⟩ := info_parts infoPtr
 have HC := tZ hc
 clear hc
 go_enter Tryz.func164, Tryz.ntmps164
 go_wp2_with fail
 go_loopg [3, 5, 11] ps.length (fun gk s3 _ s11 wr => wr = w ∧ ∃ i : Nat, i ≤ ps.length ∧ ps.length ≤ i + gk ∧ s11 = .int .i64 (i : Int) ∧ s3 = .int .i64 ((catP (ps.take i)).length : Int))
 case atStart => exact ⟨rfl, 0, Nat.zero_le _, by omega, rfl, rfl⟩
 case round =>
  obtain ⟨hw, i, hi, hgk, rfl, rfl⟩ := hrel
  obtain rfl := hw.symm
  by_cases hlt : i < ps.length
  ·obtain ⟨av, cv, c0⟩ : ∃ av cv, w.cell? ⟨sb, i, none⟩ = some (.slice av (ps[i]).length cv) := by
    obtain ⟨c0, av, cv, hv, _⟩ := HC.out i hlt
    exact ⟨av, cv, by rw [c0, hv]⟩
   have hltz : (i : Int) < (ps.length : Int) := by omega
   have h1 := flat_le ps i
   have h2 := flat_le ps (i + 1)
   have e1 : (catP (ps.take (i + 1))).length = (catP (ps.take i)).length + (ps[i]).length := by rw [flat_take ps i hlt, List.length_append]
   generalize (ps[i]).length = n at *
   generalize (catP (ps.take i)).length = m at *
   go_wp2
   go_roundg (ps.length - (i + 1))
   case measure => omega
   case rel => exact ⟨rfl, i + 1, by omega, by omega, by go_num, by rw [e1]; go_num⟩
  ·have hltz : ¬ (i : Int) < (ps.length : Int) := by omega
   obtain rfl : i = ps.length := by omega
   rw [List.take_length]
   have HG := tZ (grow165 (catP ps).length w (by omega))
   have HNT := tZ (show ∀ i, (catP (ps.take i)).length ≤ 500 from fun i => Nat.le_trans (flat_le ps i) hl)
   generalize hnn : (catP ps).length = nn at HG
   have HNN := tZ hnn
   clear hnn
   go_wp2_with (first | (go_at_call 193; refine HG.out.mono ?_; rintro e w1 ⟨v, rfl, hown, hb1⟩; refine Hid.out ?_))
   have HO := tZ hown
   have HB := tZ hb1
   clear hown hb1 HG
   refine tZ ?_
   go_wp2_with fail
   go_loopg [6, 8, 27] ps.length (fun gk s6 _ s27 wr => ∃ i : Nat, i ≤ ps.length ∧ ps.length ≤ i + gk ∧ s27 = .int .i64 (i : Int) ∧ Hid (wr.ownsRow w.heap.size 220 1 s6 (catP (ps.take i)).length (ptrs (catP (ps.take i)))) ∧ Hid (Below w.heap.size w wr))
   case atStart => exact ⟨0, Nat.zero_le _, by omega, rfl, HO, HB⟩
   case round =>
    obtain ⟨i, hi, hgk, rfl, HO2, HB2⟩ := hrel
    have hs2 := HB2.out.size
    by_cases hlt : i < ps.length
    ·have hltz' : (i : Int) < (ps.length : Int) := by omega
     obtain ⟨av, cv, c0, hnone, HP⟩ : ∃ av cv, w.cell? ⟨sb, i, none⟩ = some (.slice av (ps[i]).length cv) ∧ (av = none → cv = 0) ∧ Hid (∀ j (h : j < (ps[i]).length), ∃ g o, av = some ⟨g, o, none⟩ ∧ g < w.heap.size ∧ w.cell? ⟨g, o + j, none⟩ = some (.pointer (some ⟨((ps[i])[j]).1, 0, none⟩))) := by
      obtain ⟨c0, av, cv, hv, hn, hp⟩ := HC.out i hlt
      exact ⟨av, cv, by rw [c0, hv], hn, hp⟩
     have d0 := (HB2.out.cell (p := ⟨sb, i, none⟩) hsb).trans c0
     have HF := tZ (flat_take ps i hlt)
     have hm1 := HNT.out i
     have hm2 := HNT.out (i + 1)
     have e1 : (catP (ps.take (i + 1))).length = (catP (ps.take i)).length + (ps[i]).length := by rw [HF.out, List.length_append]
     generalize ps[i] = pt at *
     clear c0
     cases av with
     | none =>
      have h0 : pt = [] := by
       rcases pt with _ | ⟨x, r⟩
       ·rfl
       ·obtain ⟨g, o, h1, _⟩ := HP.out 0 (by simp)
        cases h1
      subst h0
      obtain rfl := hnone rfl
      have HO3 := tZ (show wr.ownsRow w.heap.size 220 1 u6 (catP (ps.take (i + 1))).length (ptrs (catP (ps.take (i + 1)))) by rw [HF.out, List.append_nil]; exact HO2.out)
      go_wp2_with (first | (at_builtin; refine wpList_append_own_none rfl (.tmp 31) (.tmp 32) 101 rfl w.heap.size 220 i1 1 Tryz.underlying101 gi u6 (catP (ps.take i)).length (ptrs (catP (ps.take i))) rfl HO2.out rfl ?_))
      go_roundg (ps.length - (i + 1))
      case measure => omega
      case rel => exact ⟨i + 1, by omega, by omega, by go_num, HO3, HB2⟩
     | some ad =>
      have HN := tZ (show ∀ j u, (ptrs pt)[j]? = some u → wr.cell? (ad.add j) = some u from fun j u hj => by
       have hjl : j < pt.length := by
        have := (List.getElem?_eq_some_iff.1 hj).1
        simpa [ptrs] using this
       obtain ⟨g, o, h1, h2, h3⟩ := HP.out j hjl
       obtain rfl : ad = ⟨g, o, none⟩ := by simpa using h1
       rw [addr_add, HB2.out.cell (p := ⟨g, o + j, none⟩) h2, h3]
       simp [ptrs, hjl] at hj
       rw [← hj])
      go_wp2_with (first | (at_builtin; refine wpList_append_own _ rfl (.tmp 31) (.tmp 32) 101 rfl w.heap.size 220 i1 (.pointer none) 1 8 Tryz.underlying101 gi gz0 gz1 gz2 rfl (by decide) u6 (catP (ps.take i)).length (ptrs (catP (ps.take i))) rfl HO2.out ad pt.length cv (ptrs pt) rfl (by simp [ptrs]) HN.out (fun u hu => by simp [ptrs] at hu; obtain ⟨a, b, _, rfl⟩ := hu; rfl) (by unfold maxLen; omega) (by omega) hs2 ?_; intro v' w2 hown' hgrow _; refine Hid.out ?_))
      have HO3 := tZ (show w2.ownsRow w.heap.size 220 1 v' (catP (ps.take (i + 1))).length (ptrs (catP (ps.take (i + 1)))) by
       rw [HF.out, List.length_append, show ptrs (catP (ps.take i) ++ pt) = ptrs (catP (ps.take i)) ++ ptrs pt by simp [ptrs]]
       exact hown')
      have HB3 := tZ (HB2.out.grown hgrow hs2 (fun q hq => (HO2.out.lt q hq).1))
      clear hgrow hown'
      refine tZ ?_
      go_wp2
      go_roundg (ps.length - (i + 1))
      case measure => omega
      case rel => exact ⟨i + 1, by omega, by omega, by go_num, HO3, HB3⟩
    ·have hltz' : ¬ (i : Int) < (ps.length : Int) := by omega
     obtain rfl : i = ps.length := by omega
     go_wp2
     go_ret
     have := HO2.out
     rw [List.take_length] at this
     exact ⟨_, rfl, this, HB2.out⟩
end
end Go.Proofs.YtihgojcfpnhelaaGreatDoor
