import Derived.Test.YtihgojcfpnhelaaGreatDoorSa
import Derived.Test.YtihgojcfpnhelaaGreatDoorMr
set_option linter.unusedVariables false
set_option linter.unusedSimpArgs false
namespace Go.Proofs.YtihgojcfpnhelaaGreatDoor
open Go.RowKit

def nmsF (fs : List (Nat × Fd)) : List By := fs.map fun f => f.2.nm

theorem names_set (fs : List (Nat × Fd)) (j : Nat) (h : j < fs.length) : (strs ((nmsF fs).take j ++ List.replicate (fs.length - j) [])).set j (.string ⟨((fs[j]).2.nm).toArray⟩) = strs ((nmsF fs).take (j + 1) ++ List.replicate (fs.length - (j + 1)) []) := by
  have e1 : (nmsF fs).take (j + 1) = (nmsF fs).take j ++ [(fs[j]).2.nm] := by
    rw [List.take_add_one, List.getElem?_eq_getElem (by simpa [nmsF] using h)]
    simp [nmsF]
  have hl : min j (nmsF fs).length = j := by simp [nmsF]; omega
  obtain ⟨m, hm⟩ : ∃ m, fs.length - j = m + 1 := ⟨fs.length - j - 1, by omega⟩
  rw [e1, hm, show fs.length - (j + 1) = m by omega]
  simp only [strs, List.map_append, List.replicate_succ, List.map_cons, List.map_nil, List.append_assoc, List.cons_append, List.nil_append]
  rw [List.set_append_right _ _ (by simp [hl])]
  simp [hl]

set_option maxRecDepth 100000 in
set_option maxHeartbeats 4000000 in
theorem names107 {S : Nat → Prop} (a : Option Addr) (c : Nat) (fs : List (Nat × Fd)) (w : World) (hs : Sh w S a fs) (hl : fs.length ≤ 1000) :
    Calls Tryz.prog 142 #[.slice a fs.length c] w fun e w' => ∃ v, e = .returned v ∧ w'.ownsRow w.heap.size 9 1 v fs.length (strs (nmsF fs)) ∧ Below w.heap.size w w' := by
  have HS := toHid hs
  clear hs
  obtain ⟨i0, hi, hz0, hz1, hz2⟩ := info_parts info9
  go_enter Tryz.func142, Tryz.ntmps142
  obtain ⟨w1, hmake, hown, hgrow⟩ := run_make_full (P := Tryz.prog) w w.heap.size 24 9 i0 (.string ⟨#[]⟩) 1 Tryz.underlying24 hi hz0 hz1 .i64 .i64 fs.length (by rw [hz2]; omega) (by unfold maxLen; omega) (Nat.le_refl _)
  have HB := toHid (show Below w.heap.size w w1 from (Below.refl _ _).grown hgrow (Nat.le_refl _) (fun k hk => by cases hk))
  have HO := toHid (show w1.ownsRow w.heap.size 9 1 (.slice (some ⟨w.heap.size, 0, none⟩) fs.length fs.length) fs.length (strs ((nmsF fs).take 0 ++ List.replicate (fs.length - 0) [])) by
    have e : (madeCells (Value.cells (.string ⟨#[]⟩)) (fs.length * 1)).toList = strs ((nmsF fs).take 0 ++ List.replicate (fs.length - 0) []) := by
      rw [show Value.cells (.string ⟨#[]⟩) = #[.string ⟨#[]⟩] from rfl, toList_madeCells_one]
      simp [strs]
    rw [← e]
    exact hown)
  clear hown hgrow
  go_wp2_with fail
  go_loopg [11] fs.length (fun gk s11 wr => ∃ j : Nat, j ≤ fs.length ∧ fs.length ≤ j + gk ∧ s11 = .int .i64 (j : Int) ∧ Hid (Below w.heap.size w wr) ∧ Hid (wr.ownsRow w.heap.size 9 1 (.slice (some ⟨w.heap.size, 0, none⟩) fs.length fs.length) fs.length (strs ((nmsF fs).take j ++ List.replicate (fs.length - j) []))))
  case atStart => exact ⟨0, Nat.zero_le _, by omega, rfl, HB, HO⟩
  case round =>
    obtain ⟨j, hj, hgk, rfl, HBr, HOr⟩ := hrel
    by_cases hlt : j < fs.length
    · obtain ⟨g, o, rfl, hg, hp⟩ := HS.out.ptr j hlt
      have hp' := (HBr.out.cell (p := ⟨g, o + j, none⟩) (HS.out.still g hg)).trans hp
      have hq := HS.out.fld fs[j] (List.getElem_mem hlt)
      have hql := hq.lt
      obtain ⟨_, _, _, _, a1, l1, c1, hb, _⟩ := hq
      obtain ⟨⟨k0, _⟩, _, hsz⟩ := row7 ((HBr.out.block _ hql).trans hb)
      have hltz : (j : Int) < (fs.length : Int) := by omega
      have hc := HOr.out.cellAt j (by omega)
      obtain ⟨u, hu⟩ : ∃ u, (strs ((nmsF fs).take j ++ List.replicate (fs.length - j) []))[j]? = some u := ⟨_, List.getElem?_eq_getElem (by simp [strs, nmsF]; omega)⟩
      rw [hu] at hc
      have hfz := HOr.out.frozenAt j
      have HO2 := toHid (show (wr.setCell ⟨w.heap.size, j, none⟩ (.string ⟨((fs[j]).2.nm).toArray⟩)).ownsRow w.heap.size 9 1 (.slice (some ⟨w.heap.size, 0, none⟩) fs.length fs.length) fs.length (strs ((nmsF fs).take (j + 1) ++ List.replicate (fs.length - (j + 1)) [])) by
        have h2 := (HOr.out.stored j (.string ⟨((fs[j]).2.nm).toArray⟩)).1
        have e : (strs ((nmsF fs).take j ++ List.replicate (fs.length - j) [])).set j (.string ⟨((fs[j]).2.nm).toArray⟩) = strs ((nmsF fs).take (j + 1) ++ List.replicate (fs.length - (j + 1)) []) := names_set fs j hlt
        rw [e] at h2
        exact h2)
      clear hb hp hu HOr
      generalize (fs[j]).1 = q at *
      generalize (fs[j]).2.nm = y at *
      go_wp2
      go_roundg (fs.length - (j + 1))
      case measure => omega
      case rel => exact ⟨j + 1, by omega, by omega, by go_num, HBr.out.setCell (p := ⟨w.heap.size, j, none⟩) (Nat.le_refl _) _, HO2⟩
    · have hltz : ¬ (j : Int) < (fs.length : Int) := by omega
      obtain rfl : j = fs.length := by omega
      go_wp2
      go_ret
      refine ⟨_, rfl, ?_, HBr.out⟩
      have := HOr.out
      rw [Nat.sub_self, List.take_of_length_le (by simp [nmsF])] at this
      simpa using this
end Go.Proofs.YtihgojcfpnhelaaGreatDoor
namespace Go.Proofs.YtihgojcfpnhelaaGreatDoor
open Go.RowKit

/-- Does a rule mention one of these names? -/
def anyM (on : List By) (p : Pt) : Bool := on.any fun x => mentP x p

/-- A rule as a value. -/
def ruleV (p : Pt) (a : Option Addr) (l c : Nat) : Value := .agg #[.int .i64 (p.k : Int), .string ⟨p.nm.toArray⟩, .int .i64 (p.n : Int), .slice a l c]

theorem entersMent : ∀ args w, (callFunc 195 args).run Tryz.prog w = .ok (.enter 195 args) w := enters_of Tryz.func195 (by kernel_rfl) rfl

set_option maxRecDepth 100000 in
set_option maxHeartbeats 4000000 in
theorem indexOn {S : Nat → Prop} (p : Pt) (a : Option Addr) (l c : Nat) (on : List By) (ao : Option Addr) (co : Nat) (w : World) (hP : PIs w S p a l c) (hS : ∀ q, S q → q < w.heap.size)
    (hon : ∀ j (h : j < on.length), ∃ g, ao = some ⟨g, 0, none⟩ ∧ g < w.heap.size ∧ w.cell? ⟨g, j, none⟩ = some (.string ⟨(on[j]).toArray⟩)) (hl : on.length ≤ 1000) :
    Calls Tryz.prog 217 #[.slice ao on.length co, .func (.func 195) #[ruleV p a l c] #[]] w fun e w' => ∃ z : Int, e = .returned (.int .i64 z) ∧ (0 ≤ z ↔ anyM on p = true) ∧ Below w.heap.size w w' := by
  have HM := toHid (fun x W (hb : Below w.heap.size w W) => ruleMentions x p a l c W (hP.next fun q hq => hb.block q (hS q hq)) (fun q hq => Nat.lt_of_lt_of_le (hS q hq) hb.size))
  have eg := entersMent
  have HON := toHid hon
  clear hP hS hon
  go_enter Tryz.func217, Tryz.ntmps217
  go_wp2_with fail
  go_loopg [5, 8] on.length (fun gk _ s8 wr => ∃ j : Nat, j ≤ on.length ∧ on.length ≤ j + gk ∧ s8 = .int .i64 (j : Int) ∧ Hid (Below w.heap.size w wr) ∧ Hid (∀ i (hi : i < on.length), i < j → mentP on[i] p = false))
  case atStart => exact ⟨0, Nat.zero_le _, by omega, rfl, Below.refl _ _, fun i hi h => by omega⟩
  case round =>
    obtain ⟨j, hj, hgk, rfl, HB, HF⟩ := hrel
    by_cases hlt : j < on.length
    · obtain ⟨g, rfl, hg, c0⟩ := HON.out j hlt
      have d0 := (HB.out.cell (p := ⟨g, j, none⟩) hg).trans c0
      have HC := toHid (HM.out (on[j]) wr HB.out)
      have HSZ := toHid HB.out.size
      have hltz : (j : Int) < (on.length : Int) := by omega
      clear c0
      cases hf : mentP on[j] p with
      | true =>
        rw [hf] at HC
        unfold ruleV
        go_wp2_with (first | (go_at_fn 195; refine HC.out.mono ?_; rintro e w1 ⟨rfl, hb1⟩) | (go_at_call 195; refine HC.out.mono ?_; rintro e w1 ⟨rfl, hb1⟩))
        go_ret
        exact ⟨_, rfl, ⟨fun _ => List.any_eq_true.2 ⟨on[j], List.getElem_mem hlt, hf⟩, fun _ => by omega⟩, HB.out.trans (hb1.mono HSZ.out)⟩
      | false =>
        rw [hf] at HC
        go_wp2_with (first | (go_at_fn 195; refine HC.out.mono ?_; rintro e w1 ⟨rfl, hb1⟩) | (go_at_call 195; refine HC.out.mono ?_; rintro e w1 ⟨rfl, hb1⟩))
        go_roundg (on.length - (j + 1))
        case measure => omega
        case rel =>
          refine ⟨j + 1, by omega, by omega, by go_num, HB.out.trans (hb1.mono HSZ.out), (show Hid _ from fun i hi h => ?_)⟩
          by_cases e : i = j
          · subst e; exact hf
          · exact HF.out i hi (by omega)
    · have hltz : ¬ (j : Int) < (on.length : Int) := by omega
      go_wp2
      go_ret
      refine ⟨_, rfl, ⟨fun h => by omega, fun h => ?_⟩, HB.out⟩
      obtain ⟨x, hx, hm⟩ := List.any_eq_true.1 h
      obtain ⟨i, hi, rfl⟩ := List.getElem_of_mem hx
      rw [HF.out i hi (by omega)] at hm
      cases hm

set_option maxRecDepth 100000 in
set_option maxHeartbeats 4000000 in
theorem containsOn {S : Nat → Prop} (p : Pt) (a : Option Addr) (l c : Nat) (on : List By) (ao : Option Addr) (co : Nat) (w : World) (hP : PIs w S p a l c) (hS : ∀ q, S q → q < w.heap.size)
    (hon : ∀ j (h : j < on.length), ∃ g, ao = some ⟨g, 0, none⟩ ∧ g < w.heap.size ∧ w.cell? ⟨g, j, none⟩ = some (.string ⟨(on[j]).toArray⟩)) (hl : on.length ≤ 1000) :
    Calls Tryz.prog 194 #[.slice ao on.length co, .func (.func 195) #[ruleV p a l c] #[]] w fun e w' => e = .returned (.bool (anyM on p)) ∧ Below w.heap.size w w' := by
  have H := toHid (indexOn p a l c on ao co w hP hS hon hl)
  clear hP hS hon
  go_enter Tryz.func194, Tryz.ntmps194
  go_wp2_with (first | (go_at_call 217; refine H.out.mono ?_; rintro e w1 ⟨z, rfl, hz, hb1⟩))
  cases hb : anyM on p with
  | true =>
    have : 0 ≤ z := hz.2 hb
    have hzb : decide (0 ≤ z) = true := by simp [this]
    go_ret
    exact ⟨by simp [this, hb], hb1⟩
  | false =>
    have : ¬ 0 ≤ z := fun h => by rw [hz.1 h] at hb; cases hb
    go_ret
    exact ⟨by simp [this, hb], hb1⟩

/-- The fields that mention one of these names, and all that mention these, and so on. -/
def hangP (on : List By) : List (Nat × Fd) → List (Nat × Fd)
  | [] => []
  | f :: r => if anyM on f.2.p = true then f :: hangP (on ++ [f.2.nm]) r else hangP on r

/-- Pointers as values. -/
def ptrs (fs : List (Nat × Fd)) : List Value := fs.map fun f => .pointer (some ⟨f.1, 0, none⟩)

theorem infoPtr : (Tryz.prog.info? 220).map (fun i => (i.zero, i.size, i.bytes)) = some (some (.pointer none), 1, 8) := by kernel_rfl

theorem own_ne {w : World} {B B' z z' n n' : Nat} {e e' : TypeId} {v v' : Value} {xs xs' : List Value} (h : w.ownsRow B e z v n xs) (h' : w.ownsRow B' e' z' v' n' xs') (hne : e ≠ e') : v.ownBlock = none ∨ v.ownBlock ≠ v'.ownBlock := by
  rcases h.2 with ⟨rfl, _⟩ | ⟨g, cap, cur, rfl, _, hg, _⟩
  · exact Or.inl rfl
  · right
    rcases h'.2 with ⟨rfl, _⟩ | ⟨g', cap', cur', rfl, _, hg', _⟩
    · simp [Value.ownBlock]
    · simp only [Value.ownBlock, ne_eq, Option.some.injEq]
      rintro rfl
      rw [hg] at hg'
      simp at hg'
      exact hne hg'.2

set_option maxRecDepth 100000 in
set_option maxHeartbeats 4000000 in
theorem hanging137 (x : By) {S : Nat → Prop} (e c : Nat) (a : Option Addr) (fs : List (Nat × Fd)) (w : World) (hs : Sh w S a fs) (hc : w.cell? ⟨e, 0, none⟩ = some (.slice a fs.length c)) (he : e < w.heap.size) (hl : fs.length ≤ 900) :
    Calls Tryz.prog 166 #[.pointer (some ⟨e, 0, none⟩), .string ⟨x.toArray⟩] w fun r w' => ∃ v, r = .returned v ∧ w'.ownsRow w.heap.size 220 1 v (hangP [x] fs).length (ptrs (hangP [x] fs)) ∧ Below w.heap.size w w' := by
  have HS := toHid hs
  clear hs
  obtain ⟨i0, hi, hz0, hz1, hz2⟩ := info_parts info9
  obtain ⟨i1, gi, gz0, gz1, gz2⟩ := info_parts infoPtr
  go_enter Tryz.func166, Tryz.ntmps166
  go_wp2_with fail
  go_loopg [5, 6, 8, 16] fs.length (fun gk s5 s6 _ s16 wr => ∃ (j : Nat) (k : List (Nat × Fd)) (o : List By), j ≤ fs.length ∧ fs.length ≤ j + gk ∧ k.length ≤ j ∧ o.length ≤ j + 1 ∧ s16 = .int .i64 (j : Int) ∧ Hid (hangP [x] fs = k ++ hangP o (fs.drop j)) ∧ Hid (wr.ownsRow w.heap.size 220 1 s5 k.length (ptrs k)) ∧ Hid (wr.ownsRow w.heap.size 9 1 s6 o.length (strs o)) ∧ Hid (Below w.heap.size w wr))
  case atStart => exact ⟨0, [], [x], Nat.zero_le _, by omega, by simp, by simp, rfl, by rw [List.drop_zero]; rfl, World.ownsRow_nil _ _ _ _, own_lit w [x] (by simp), (Below.refl _ _).alloc (Nat.le_refl _) _⟩
  case round =>
    obtain ⟨j, k, o, hj, hgk, hk, ho, rfl, HH, HK, HO, HB⟩ := hrel
    obtain ⟨ak, lk, ck, rfl⟩ := own_slice HK.out
    by_cases hlt : j < fs.length
    · obtain ⟨g, of, rfl, hg, hp⟩ := HS.out.ptr j hlt
      have hp' := (HB.out.cell (p := ⟨g, of + j, none⟩) (HS.out.still g hg)).trans hp
      have hq := HS.out.fld fs[j] (List.getElem_mem hlt)
      have hql := hq.lt
      obtain ⟨_, _, _, _, a1, l1, c1, hb, hP⟩ := hq
      obtain ⟨⟨k0, k1, k2, k3, k4, k5, k6⟩, _, hsz⟩ := row7 ((HB.out.block _ hql).trans hb)
      have hltz : (j : Int) < (fs.length : Int) := by omega
      obtain ⟨ao, lo, co, rfl⟩ := own_slice HO.out
      have hlo : lo = o.length := by
        rcases HO.out.2 with ⟨h1, h2⟩ | ⟨_, _, _, h1, _⟩
        · simp at h1; omega
        · simp at h1; omega
      subst hlo
      have HC := toHid (fun W (hb : Below wr.heap.size wr W) => containsOn (fs[j]).2.p a1 l1 c1 o ao co W ((hP.next fun q hq => HB.out.block q (HS.out.still q hq)).next fun q hq => hb.block q (Nat.lt_of_lt_of_le (HS.out.still q hq) HB.out.size)) (fun q hq => Nat.lt_of_lt_of_le (Nat.lt_of_lt_of_le (HS.out.still q hq) HB.out.size) hb.size) (fun i hi => by
        rcases HO.out.2 with ⟨h1, h2⟩ | ⟨g0, cap0, cur0, h1, h2, h3, _⟩
        · omega
        · have e1 : ao = some ⟨g0, 0, none⟩ := by simp at h1; exact h1.1
          subst e1
          have hg0 := (Array.getElem?_eq_some_iff.1 h3).1
          refine ⟨g0, rfl, Nat.lt_of_lt_of_le hg0 hb.size, ?_⟩
          rw [hb.cell (p := ⟨g0, i, none⟩) hg0, HO.out.cellAt i (by omega)]
          simp [strs, hi]) (by omega))
      have hdrop := List.drop_eq_getElem_cons hlt
      have HP0 := toHid hP
      have HB0 := toHid hb
      clear hP hb hp
      cases hm : anyM o (fs[j]).2.p with
      | false =>
        have HH2 := toHid (show hangP [x] fs = k ++ hangP o (fs.drop (j + 1)) by rw [HH.out, hdrop]; simp [hangP, hm])
        rw [hm] at HC
        clear hm
        generalize fs[j] = ff at *
        go_wp2_with (first | (go_at_call 194; refine (HC.out _ (Below.refl _ _)).mono ?_; rintro e w1 ⟨rfl, hb1⟩))
        go_roundg (fs.length - (j + 1))
        case measure => omega
        case rel => exact ⟨j + 1, k, o, by omega, by omega, by omega, by omega, by go_num, HH2, own_below HK.out hb1, own_below HO.out hb1, HB.out.trans (hb1.mono HB.out.size)⟩
      | true =>
        have HH2 := toHid (show hangP [x] fs = (k ++ [fs[j]]) ++ hangP (o ++ [(fs[j]).2.nm]) (fs.drop (j + 1)) by rw [HH.out, hdrop]; simp [hangP, hm])
        rw [hm] at HC
        clear hm
        generalize fs[j] = ff at *
        go_wp2_with (first | (go_at_call 194; refine (HC.out _ (Below.refl _ _)).mono ?_; rintro e w1 ⟨rfl, hb1⟩; refine Hid.out ?_))
        have HK1 := toHid (own_below HK.out hb1)
        have HO1 := toHid (own_below HO.out hb1)
        have HB1 := toHid (HB.out.trans (hb1.mono HB.out.size))
        have hs1 := HB1.out.size
        obtain ⟨⟨m0, _⟩, _, hsm⟩ := row7 ((HB1.out.block _ hql).trans HB0.out)
        clear hb1
        refine toHid ?_
        go_wp2_with (first | (at_builtin; refine wpList_append_own _ rfl (.tmp 27) (.tmp 29) 101 rfl w.heap.size 220 i1 (.pointer none) 1 8 Tryz.underlying101 gi gz0 gz1 gz2 rfl (by decide) (.slice ak lk ck) k.length (ptrs k) rfl (HK1.out.alloc _) ⟨w1.heap.size, 0, none⟩ 1 1 [.pointer (some ⟨ff.1, 0, none⟩)] rfl rfl (fun q u hq => cells_new w1 [.pointer (some ⟨ff.1, 0, none⟩)] 220 q u hq) (fun u hu => by simp at hu; subst hu; rfl) (by unfold maxLen; omega) (by omega) (by simp; omega) ?_; intro v' w2 hown' hgrow _; refine Hid.out ?_))
        have HB2 := toHid ((HB1.out.alloc hs1 (.cells #[.pointer (some ⟨ff.1, 0, none⟩)] 220)).grown hgrow (by simp; omega) (fun q hq => (HK1.out.lt q hq).1))
        have hs2 := HB2.out.size
        obtain ⟨⟨n0, _⟩, _, hsn⟩ := row7 ((HB2.out.block _ hql).trans HB0.out)
        have HO2 := toHid ((HO1.out.alloc (.cells #[.pointer (some ⟨ff.1, 0, none⟩)] 220)).kept hgrow (own_ne HO1.out HK1.out (by decide)))
        have HK2 := toHid hown'
        clear hgrow hown'
        refine toHid ?_
        go_wp2_with (first | (at_builtin; refine wpList_append_own _ rfl (.tmp 31) (.tmp 36) 24 rfl w.heap.size 9 i0 (.string ⟨#[]⟩) 1 16 Tryz.underlying24 hi hz0 hz1 hz2 rfl (by decide) (.slice ao o.length co) o.length (strs o) rfl (HO2.out.alloc _) ⟨w2.heap.size, 0, none⟩ 1 1 [.string ⟨ff.2.nm.toArray⟩] rfl rfl (fun q u hq => cells_new w2 [.string ⟨ff.2.nm.toArray⟩] 9 q u hq) (fun u hu => by simp at hu; subst hu; rfl) (by unfold maxLen; omega) (by omega) (by simp; omega) ?_; intro v3 w3 hown3 hgrow3 _; refine Hid.out ?_))
        have HB3 := toHid ((HB2.out.alloc hs2 (.cells #[.string ⟨ff.2.nm.toArray⟩] 9)).grown hgrow3 (by simp; omega) (fun q hq => (HO2.out.lt q hq).1))
        have HK3 := toHid ((HK2.out.alloc (.cells #[.string ⟨ff.2.nm.toArray⟩] 9)).kept hgrow3 (own_ne HK2.out HO2.out (by decide)))
        have HO3 := toHid hown3
        clear hgrow3 hown3
        refine toHid ?_
        go_wp2
        go_roundg (fs.length - (j + 1))
        case measure => omega
        case rel => exact ⟨j + 1, k ++ [ff], o ++ [ff.2.nm], by omega, by omega, by simp; omega, by simp; omega, by go_num, HH2, toHid (by rw [List.length_append]; simpa [ptrs] using HK3.out), toHid (by rw [List.length_append]; simpa [strs] using HO3.out), HB3⟩
    · have hltz : ¬ (j : Int) < (fs.length : Int) := by omega
      go_wp2
      go_ret
      have e1 : hangP [x] fs = k := by
        rw [HH.out, List.drop_of_length_le (by omega)]
        simp [hangP]
      rw [e1]
      exact ⟨_, rfl, HK.out, HB.out⟩
end Go.Proofs.YtihgojcfpnhelaaGreatDoor
