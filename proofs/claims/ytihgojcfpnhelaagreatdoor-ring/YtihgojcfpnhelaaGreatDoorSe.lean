import Derived.Test.YtihgojcfpnhelaaGreatDoorSb
import Derived.LaidEqlPtr
import Derived.Lib.AppendZeros
set_option linter.unusedVariables false
set_option linter.unusedSimpArgs false
namespace Go.Proofs.YtihgojcfpnhelaaGreatDoor
open Go.RowKit

/-- Does a rule mention one of these names? -/
def anyM (on : List By) (p : Pt) : Bool := on.any fun x => mentP x p

/-- A rule as a value. -/
def ruleV (p : Pt) (a : Option Addr) (l c : Nat) : Value := .agg #[.int .i64 (p.k : Int), .string ⟨p.nm.toArray⟩, .int .i64 (p.n : Int), .slice a l c]

theorem entersMent : ∀ args w, (callFunc 195 args).run Tryz.prog w = .ok (.enter 195 args) w := enters_of Tryz.func195 (by kernel_rfl) rfl

set_option maxRecDepth 100000 in
set_option maxHeartbeats 4000000 in
theorem indexOn {S : Nat → Prop} (p : Pt) (a : Option Addr) (l c : Nat) (on : List By) (ao : Option Addr) (co : Nat) (w : World) (hP : PIs w S p a l c) (hS : ∀ q, S q → q < w.heap.size)
    (hon : ∀ j (h : j < on.length), ∃ g, ao = some ⟨g, 0, none⟩ ∧ g < w.heap.size ∧ w.cell? ⟨g, j, none⟩ = some (.string ⟨(on[j]).toArray⟩)) (hl : on.length ≤ 1000) :
    Calls Tryz.prog 217 #[.slice ao on.length co, .func (.func 195) #[ruleV p a l c] #[]] w fun e w' => ∃ z : Int, e = .returned (.int .i64 z) ∧ (0 ≤ z ↔ anyM on p = true) ∧ Below w.heap.size w w' := by
  have HM := toHid (fun x W (hb : Below w.heap.size w W) => ruleMentions x p a l c W (hP.next fun q hq => hb.block q (hS q hq)) (fun q hq => Nat.lt_of_lt_of_le (hS q hq) hb.size))
  have eg := entersMent
  have HON := toHid hon
  clear hP hS hon
  go_enter Tryz.func217, Tryz.ntmps217
  go_wp2_with fail
  go_loopg [5, 8] on.length (fun gk _ s8 wr => ∃ j : Nat, j ≤ on.length ∧ on.length ≤ j + gk ∧ s8 = .int .i64 (j : Int) ∧ Hid (Below w.heap.size w wr) ∧ Hid (∀ i (hi : i < on.length), i < j → mentP on[i] p = false))
  case atStart => exact ⟨0, Nat.zero_le _, by omega, rfl, Below.refl _ _, fun i hi h => by omega⟩
  case round =>
    obtain ⟨j, hj, hgk, rfl, HB, HF⟩ := hrel
    by_cases hlt : j < on.length
    · obtain ⟨g, rfl, hg, c0⟩ := HON.out j hlt
      have d0 := (HB.out.cell (p := ⟨g, j, none⟩) hg).trans c0
      have HC := toHid (HM.out (on[j]) wr HB.out)
      have HSZ := toHid HB.out.size
      have hltz : (j : Int) < (on.length : Int) := by omega
      clear c0
      cases hf : mentP on[j] p with
      | true =>
        rw [hf] at HC
        unfold ruleV
        go_wp2_with (first | (go_at_fn 195; refine HC.out.mono ?_; rintro e w1 ⟨rfl, hb1⟩) | (go_at_call 195; refine HC.out.mono ?_; rintro e w1 ⟨rfl, hb1⟩))
        go_ret
        exact ⟨_, rfl, ⟨fun _ => List.any_eq_true.2 ⟨on[j], List.getElem_mem hlt, hf⟩, fun _ => by omega⟩, HB.out.trans (hb1.mono HSZ.out)⟩
      | false =>
        rw [hf] at HC
        go_wp2_with (first | (go_at_fn 195; refine HC.out.mono ?_; rintro e w1 ⟨rfl, hb1⟩) | (go_at_call 195; refine HC.out.mono ?_; rintro e w1 ⟨rfl, hb1⟩))
        go_roundg (on.length - (j + 1))
        case measure => omega
        case rel =>
          refine ⟨j + 1, by omega, by omega, by go_num, HB.out.trans (hb1.mono HSZ.out), (show Hid _ from fun i hi h => ?_)⟩
          by_cases e : i = j
          · subst e; exact hf
          · exact HF.out i hi (by omega)
    · have hltz : ¬ (j : Int) < (on.length : Int) := by omega
      go_wp2
      go_ret
      refine ⟨_, rfl, ⟨fun h => by omega, fun h => ?_⟩, HB.out⟩
      obtain ⟨x, hx, hm⟩ := List.any_eq_true.1 h
      obtain ⟨i, hi, rfl⟩ := List.getElem_of_mem hx
      rw [HF.out i hi (by omega)] at hm
      cases hm

set_option maxRecDepth 100000 in
set_option maxHeartbeats 4000000 in
theorem containsOn {S : Nat → Prop} (p : Pt) (a : Option Addr) (l c : Nat) (on : List By) (ao : Option Addr) (co : Nat) (w : World) (hP : PIs w S p a l c) (hS : ∀ q, S q → q < w.heap.size)
    (hon : ∀ j (h : j < on.length), ∃ g, ao = some ⟨g, 0, none⟩ ∧ g < w.heap.size ∧ w.cell? ⟨g, j, none⟩ = some (.string ⟨(on[j]).toArray⟩)) (hl : on.length ≤ 1000) :
    Calls Tryz.prog 194 #[.slice ao on.length co, .func (.func 195) #[ruleV p a l c] #[]] w fun e w' => e = .returned (.bool (anyM on p)) ∧ Below w.heap.size w w' := by
  have H := toHid (indexOn p a l c on ao co w hP hS hon hl)
  clear hP hS hon
  go_enter Tryz.func194, Tryz.ntmps194
  go_wp2_with (first | (go_at_call 217; refine H.out.mono ?_; rintro e w1 ⟨z, rfl, hz, hb1⟩))
  cases hb : anyM on p with
  | true =>
    have : 0 ≤ z := hz.2 hb
    have hzb : decide (0 ≤ z) = true := by simp [this]
    go_ret
    exact ⟨by simp [this, hb], hb1⟩
  | false =>
    have : ¬ 0 ≤ z := fun h => by rw [hz.1 h] at hb; cases hb
    go_ret
    exact ⟨by simp [this, hb], hb1⟩

/-- The fields that mention one of these names, and all that mention these, and so on. -/
def hangP (on : List By) : List (Nat × Fd) → List (Nat × Fd)
  | [] => []
  | f :: r => if anyM on f.2.p = true then f :: hangP (on ++ [f.2.nm]) r else hangP on r

/-- Pointers as values. -/
def ptrs (fs : List (Nat × Fd)) : List Value := fs.map fun f => .pointer (some ⟨f.1, 0, none⟩)

theorem infoPtr : (Tryz.prog.info? 220).map (fun i => (i.zero, i.size, i.bytes)) = some (some (.pointer none), 1, 8) := by kernel_rfl

theorem own_ne {w : World} {B B' z z' n n' : Nat} {e e' : TypeId} {v v' : Value} {xs xs' : List Value} (h : w.ownsRow B e z v n xs) (h' : w.ownsRow B' e' z' v' n' xs') (hne : e ≠ e') : v.ownBlock = none ∨ v.ownBlock ≠ v'.ownBlock := by
  rcases h.2 with ⟨rfl, _⟩ | ⟨g, cap, cur, rfl, _, hg, _⟩
  · exact Or.inl rfl
  · right
    rcases h'.2 with ⟨rfl, _⟩ | ⟨g', cap', cur', rfl, _, hg', _⟩
    · simp [Value.ownBlock]
    · simp only [Value.ownBlock, ne_eq, Option.some.injEq]
      rintro rfl
      rw [hg] at hg'
      simp at hg'
      exact hne hg'.2

set_option maxRecDepth 100000 in
set_option maxHeartbeats 4000000 in
theorem hanging137 (x : By) {S : Nat → Prop} (e c : Nat) (a : Option Addr) (fs : List (Nat × Fd)) (w : World) (hs : Sh w S a fs) (hc : w.cell? ⟨e, 0, none⟩ = some (.slice a fs.length c)) (he : e < w.heap.size) (hl : fs.length ≤ 900) :
    Calls Tryz.prog 166 #[.pointer (some ⟨e, 0, none⟩), .string ⟨x.toArray⟩] w fun r w' => ∃ v, r = .returned v ∧ w'.ownsRow w.heap.size 220 1 v (hangP [x] fs).length (ptrs (hangP [x] fs)) ∧ Below w.heap.size w w' := by
  have HS := toHid hs
  clear hs
  obtain ⟨i0, hi, hz0, hz1, hz2⟩ := info_parts info9
  obtain ⟨i1, gi, gz0, gz1, gz2⟩ := info_parts infoPtr
  go_enter Tryz.func166, Tryz.ntmps166
  go_wp2_with fail
  go_loopg [5, 6, 8, 16] fs.length (fun gk s5 s6 _ s16 wr => ∃ (j : Nat) (k : List (Nat × Fd)) (o : List By), j ≤ fs.length ∧ fs.length ≤ j + gk ∧ k.length ≤ j ∧ o.length ≤ j + 1 ∧ s16 = .int .i64 (j : Int) ∧ Hid (hangP [x] fs = k ++ hangP o (fs.drop j)) ∧ Hid (wr.ownsRow w.heap.size 220 1 s5 k.length (ptrs k)) ∧ Hid (wr.ownsRow w.heap.size 9 1 s6 o.length (strs o)) ∧ Hid (Below w.heap.size w wr))
  case atStart => exact ⟨0, [], [x], Nat.zero_le _, by omega, by simp, by simp, rfl, by rw [List.drop_zero]; rfl, World.ownsRow_nil _ _ _ _, own_lit w [x] (by simp), (Below.refl _ _).alloc (Nat.le_refl _) _⟩
  case round =>
    obtain ⟨j, k, o, hj, hgk, hk, ho, rfl, HH, HK, HO, HB⟩ := hrel
    obtain ⟨ak, lk, ck, rfl⟩ := own_slice HK.out
    by_cases hlt : j < fs.length
    · obtain ⟨g, of, rfl, hg, hp⟩ := HS.out.ptr j hlt
      have hp' := (HB.out.cell (p := ⟨g, of + j, none⟩) (HS.out.still g hg)).trans hp
      have hq := HS.out.fld fs[j] (List.getElem_mem hlt)
      have hql := hq.lt
      obtain ⟨_, _, _, _, a1, l1, c1, hb, hP⟩ := hq
      obtain ⟨⟨k0, k1, k2, k3, k4, k5, k6⟩, _, hsz⟩ := row7 ((HB.out.block _ hql).trans hb)
      have hltz : (j : Int) < (fs.length : Int) := by omega
      obtain ⟨ao, lo, co, rfl⟩ := own_slice HO.out
      have hlo : lo = o.length := by
        rcases HO.out.2 with ⟨h1, h2⟩ | ⟨_, _, _, h1, _⟩
        · simp at h1; omega
        · simp at h1; omega
      subst hlo
      have HC := toHid (fun W (hb : Below wr.heap.size wr W) => containsOn (fs[j]).2.p a1 l1 c1 o ao co W ((hP.next fun q hq => HB.out.block q (HS.out.still q hq)).next fun q hq => hb.block q (Nat.lt_of_lt_of_le (HS.out.still q hq) HB.out.size)) (fun q hq => Nat.lt_of_lt_of_le (Nat.lt_of_lt_of_le (HS.out.still q hq) HB.out.size) hb.size) (fun i hi => by
        rcases HO.out.2 with ⟨h1, h2⟩ | ⟨g0, cap0, cur0, h1, h2, h3, _⟩
        · omega
        · have e1 : ao = some ⟨g0, 0, none⟩ := by simp at h1; exact h1.1
          subst e1
          have hg0 := (Array.getElem?_eq_some_iff.1 h3).1
          refine ⟨g0, rfl, Nat.lt_of_lt_of_le hg0 hb.size, ?_⟩
          rw [hb.cell (p := ⟨g0, i, none⟩) hg0, HO.out.cellAt i (by omega)]
          simp [strs, hi]) (by omega))
      have hdrop := List.drop_eq_getElem_cons hlt
      have HP0 := toHid hP
      have HB0 := toHid hb
      clear hP hb hp
      cases hm : anyM o (fs[j]).2.p with
      | false =>
        have HH2 := toHid (show hangP [x] fs = k ++ hangP o (fs.drop (j + 1)) by rw [HH.out, hdrop]; simp [hangP, hm])
        rw [hm] at HC
        clear hm
        generalize fs[j] = ff at *
        go_wp2_with (first | (go_at_call 194; refine (HC.out _ (Below.refl _ _)).mono ?_; rintro e w1 ⟨rfl, hb1⟩))
        go_roundg (fs.length - (j + 1))
        case measure => omega
        case rel => exact ⟨j + 1, k, o, by omega, by omega, by omega, by omega, by go_num, HH2, own_below HK.out hb1, own_below HO.out hb1, HB.out.trans (hb1.mono HB.out.size)⟩
      | true =>
        have HH2 := toHid (show hangP [x] fs = (k ++ [fs[j]]) ++ hangP (o ++ [(fs[j]).2.nm]) (fs.drop (j + 1)) by rw [HH.out, hdrop]; simp [hangP, hm])
        rw [hm] at HC
        clear hm
        generalize fs[j] = ff at *
        go_wp2_with (first | (go_at_call 194; refine (HC.out _ (Below.refl _ _)).mono ?_; rintro e w1 ⟨rfl, hb1⟩; refine Hid.out ?_))
        have HK1 := toHid (own_below HK.out hb1)
        have HO1 := toHid (own_below HO.out hb1)
        have HB1 := toHid (HB.out.trans (hb1.mono HB.out.size))
        have hs1 := HB1.out.size
        obtain ⟨⟨m0, _⟩, _, hsm⟩ := row7 ((HB1.out.block _ hql).trans HB0.out)
        clear hb1
        refine toHid ?_
        go_wp2_with (first | (at_builtin; refine wpList_append_own _ rfl (.tmp 27) (.tmp 29) 101 rfl w.heap.size 220 i1 (.pointer none) 1 8 Tryz.underlying101 gi gz0 gz1 gz2 rfl (by decide) (.slice ak lk ck) k.length (ptrs k) rfl (HK1.out.alloc _) ⟨w1.heap.size, 0, none⟩ 1 1 [.pointer (some ⟨ff.1, 0, none⟩)] rfl rfl (fun q u hq => cells_new w1 [.pointer (some ⟨ff.1, 0, none⟩)] 220 q u hq) (fun u hu => by simp at hu; subst hu; rfl) (by unfold maxLen; omega) (by omega) (by simp; omega) ?_; intro v' w2 hown' hgrow _; refine Hid.out ?_))
        have HB2 := toHid ((HB1.out.alloc hs1 (.cells #[.pointer (some ⟨ff.1, 0, none⟩)] 220)).grown hgrow (by simp; omega) (fun q hq => (HK1.out.lt q hq).1))
        have hs2 := HB2.out.size
        obtain ⟨⟨n0, _⟩, _, hsn⟩ := row7 ((HB2.out.block _ hql).trans HB0.out)
        have HO2 := toHid ((HO1.out.alloc (.cells #[.pointer (some ⟨ff.1, 0, none⟩)] 220)).kept hgrow (own_ne HO1.out HK1.out (by decide)))
        have HK2 := toHid hown'
        clear hgrow hown'
        refine toHid ?_
        go_wp2_with (first | (at_builtin; refine wpList_append_own _ rfl (.tmp 31) (.tmp 36) 24 rfl w.heap.size 9 i0 (.string ⟨#[]⟩) 1 16 Tryz.underlying24 hi hz0 hz1 hz2 rfl (by decide) (.slice ao o.length co) o.length (strs o) rfl (HO2.out.alloc _) ⟨w2.heap.size, 0, none⟩ 1 1 [.string ⟨ff.2.nm.toArray⟩] rfl rfl (fun q u hq => cells_new w2 [.string ⟨ff.2.nm.toArray⟩] 9 q u hq) (fun u hu => by simp at hu; subst hu; rfl) (by unfold maxLen; omega) (by omega) (by simp; omega) ?_; intro v3 w3 hown3 hgrow3 _; refine Hid.out ?_))
        have HB3 := toHid ((HB2.out.alloc hs2 (.cells #[.string ⟨ff.2.nm.toArray⟩] 9)).grown hgrow3 (by simp; omega) (fun q hq => (HO2.out.lt q hq).1))
        have HK3 := toHid ((HK2.out.alloc (.cells #[.string ⟨ff.2.nm.toArray⟩] 9)).kept hgrow3 (own_ne HK2.out HO2.out (by decide)))
        have HO3 := toHid hown3
        clear hgrow3 hown3
        refine toHid ?_
        go_wp2
        go_roundg (fs.length - (j + 1))
        case measure => omega
        case rel => exact ⟨j + 1, k ++ [ff], o ++ [ff.2.nm], by omega, by omega, by simp; omega, by simp; omega, by go_num, HH2, toHid (by rw [List.length_append]; simpa [ptrs] using HK3.out), toHid (by rw [List.length_append]; simpa [strs] using HO3.out), HB3⟩
    · have hltz : ¬ (j : Int) < (fs.length : Int) := by omega
      go_wp2
      go_ret
      have e1 : hangP [x] fs = k := by
        rw [HH.out, List.drop_of_length_le (by omega)]
        simp [hangP]
      rw [e1]
      exact ⟨_, rfl, HK.out, HB.out⟩
end Go.Proofs.YtihgojcfpnhelaaGreatDoor
namespace Go.Proofs.YtihgojcfpnhelaaGreatDoor
open Go.RowKit

set_option maxRecDepth 100000 in
set_option maxHeartbeats 4000000 in
theorem putOrder (q o : Nat) (a : Option Addr) (l c : Nat) (a' : Option Addr) (l' c' : Nat) (w : World) (hc : w.cell? ⟨q, o, none⟩ = some (.slice a l c)) (hf : w.frozen? ⟨q, o, none⟩ = false) (hq : q < w.heap.size) :
    Calls Tryz.prog 163 #[.pointer (some ⟨q, o, none⟩), .slice a' l' c'] w fun e w' => e = .returned (.func (.func 192) #[] #[.pointer (some ⟨w.heap.size, 0, none⟩), .pointer (some ⟨w.heap.size + 1, 0, none⟩)]) ∧ w' = ((w.setCell ⟨q, o, none⟩ (.slice a' l' c')).alloc (.cells #[.pointer (some ⟨q, o, none⟩)] 253)).alloc (.cells #[.slice a l c] 101) := by
  go_enter Tryz.func163, Tryz.ntmps163
  go_wp2
  go_ret
  exact ⟨rfl, rfl⟩

set_option maxRecDepth 100000 in
set_option maxHeartbeats 4000000 in
theorem putValue (q : Nat) (k n k' n' : Int) (w : World) (hc : w.cell? ⟨q, 5, none⟩ = some (.int .i64 k)) (hc1 : w.cell? ⟨q, 6, none⟩ = some (.int .i64 n)) (hf : w.frozen? ⟨q, 5, none⟩ = false) (hf1 : w.frozen? ⟨q, 6, none⟩ = false) (hq : q < w.heap.size) :
    Calls Tryz.prog 196 #[.pointer (some ⟨q, 5, none⟩), .agg #[.int .i64 k', .int .i64 n']] w fun e w' => e = .returned (.func (.func 219) #[] #[.pointer (some ⟨w.heap.size, 0, none⟩), .pointer (some ⟨w.heap.size + 1 + 1, 0, none⟩)]) ∧ w' = ((((w.setCell ⟨q, 5, none⟩ (.int .i64 k')).setCell ⟨q, 6, none⟩ (.int .i64 n')).alloc (.cells #[.pointer (some ⟨q, 5, none⟩)] 287)).alloc (.cells #[.int .i64 k', .int .i64 n'] 177)).alloc (.cells #[.int .i64 k, .int .i64 n] 177) := by
  have hq1 : q < w.heap.size + 1 := by omega
  have hq2 : q < w.heap.size + 1 + 1 := by omega
  go_enter Tryz.func196, Tryz.ntmps196
  go_wp2
  go_ret
  exact ⟨rfl, rfl⟩

set_option maxRecDepth 100000 in
set_option maxHeartbeats 4000000 in
theorem all138 (a : Option Addr) (l c : Nat) (w : World) :
    Calls Tryz.prog 72 #[.slice a l c] w fun e w' => e = .returned (.func (.func 106) #[] #[.pointer (some ⟨w.heap.size, 0, none⟩)]) ∧ w' = w.alloc (.cells #[.slice a l c] 104) := by
  go_enter Tryz.func72, Tryz.ntmps72
  go_wp2
  go_ret
  exact ⟨rfl, rfl⟩
end Go.Proofs.YtihgojcfpnhelaaGreatDoor
namespace Go.Proofs.YtihgojcfpnhelaaGreatDoor
open Go.RowKit

theorem infoFd : (Tryz.prog.info? 223).map (fun i => i.size) = some 7 := by kernel_rfl

theorem ptr_same (b : Nat) (w : World) : (binOp .eql 220 (.pointer (some ⟨b, 0, none⟩)) (.pointer (some ⟨b, 0, none⟩))).run Tryz.prog w = .ok (.bool true) w := by
  obtain ⟨i, hi, _⟩ := Option.map_eq_some_iff.1 infoFd
  exact run_eql_ptr_same w _ Tryz.underlying220 hi

theorem ptr_other {S : Nat → Prop} {b b' : Nat} {f f' : Fd} (w : World) (h : FdAt w S b f) (h' : FdAt w S b' f') (hne : b ≠ b') : (binOp .eql 220 (.pointer (some ⟨b, 0, none⟩)) (.pointer (some ⟨b', 0, none⟩))).run Tryz.prog w = .ok (.bool false) w := by
  obtain ⟨i, hi, hs⟩ := Option.map_eq_some_iff.1 infoFd
  obtain ⟨_, _, _, _, a, l, c, hb, _⟩ := h
  obtain ⟨_, _, _, _, a', l', c', hb', _⟩ := h'
  exact run_eql_ptr_other w Tryz.underlying220 hi (by omega) (fun e => hne (congrArg Addr.block e)) hb hb'

set_option maxRecDepth 100000 in
set_option maxHeartbeats 4000000 in
theorem index136 {S : Nat → Prop} (a : Option Addr) (c b j0 : Nat) (fs : List (Nat × Fd)) (w : World) (hs : Sh w S a fs) (hl : fs.length ≤ 1000) (hj0 : j0 < fs.length) (hb : (fs[j0]).1 = b) (hn : ∀ i (h : i < fs.length), i < j0 → (fs[i]).1 ≠ b) :
    Calls Tryz.prog 165 #[.slice a fs.length c, .pointer (some ⟨b, 0, none⟩)] w fun e w' => e = .returned (.int .i64 (j0 : Int)) ∧ w = w' := by
  have HS := toHid hs
  have HN := toHid hn
  have HB := toHid hb
  clear hs hn hb
  go_enter Tryz.func165, Tryz.ntmps165
  go_wp2_with fail
  go_loopg [5, 8] fs.length (fun gk _ s8 wr => wr = w ∧ ∃ j : Nat, j ≤ j0 ∧ fs.length ≤ j + gk ∧ s8 = .int .i64 (j : Int))
  case atStart => exact ⟨rfl, 0, Nat.zero_le _, by omega, rfl⟩
  case round =>
    obtain ⟨rfl, j, hj, hgk, rfl⟩ := hrel
    obtain ⟨g, o, rfl, hg, hp⟩ := HS.out.ptr j (by omega)
    have hltz : (j : Int) < (fs.length : Int) := by omega
    by_cases he : j = j0
    · subst he
      rw [HB.out] at hp
      have hsame := ptr_same b wr
      go_wp2
      go_ret
      exact ⟨rfl, rfl⟩
    · have hne := HN.out j (by omega) (by omega)
      have hother := ptr_other wr (HB.out ▸ HS.out.fld fs[j0] (List.getElem_mem hj0)) (HS.out.fld fs[j] (List.getElem_mem (by omega))) (fun h => hne h.symm)
      go_wp2
      go_roundg (fs.length - (j + 1))
      case measure => omega
      case rel => exact ⟨rfl, j + 1, by omega, by omega, by go_num⟩

set_option maxRecDepth 100000 in
set_option maxHeartbeats 4000000 in
theorem grow165 (n : Nat) (w : World) (hn : n ≤ 1000) :
    Calls Tryz.prog 193 #[.slice none 0 0, .int .i64 (n : Int)] w fun e w' => ∃ v, e = .returned v ∧ w'.ownsRow w.heap.size 220 1 v 0 [] ∧ Below w.heap.size w w' := by
  have hn0 : ¬ (n : Int) < 0 := by omega
  obtain ⟨i1, gi, gz0, gz1, gz2⟩ := info_parts infoPtr
  by_cases h0 : n = 0
  · subst h0
    go_enter Tryz.func193, Tryz.ntmps193
    go_wp2
    go_ret
    exact ⟨_, rfl, World.ownsRow_nil _ _ _ _, Below.refl _ _⟩
  · have hn1 : (0 : Int) < (n : Int) := by omega
    go_enter Tryz.func193, Tryz.ntmps193
    have hrun := Lib.run_append_nil_zeros (P := Tryz.prog) w 101 3 101 220 i1 (.pointer none) .i64 .i64 Tryz.underlying101 Tryz.underlying3 gi gz0 n (by omega) (by omega) (by omega) (by rw [gz2]; omega)
    have HR := toHid hrun
    have hcap := grownCap_ge w n 0 220
    have hcl := grownCap_le_maxLen w n 0 220 (by unfold maxLen; omega)
    generalize grownCap w n 0 220 = cap at *
    clear hrun
    go_wp2_with (first | (at_builtin; refine Lib.wpList_append_run _ rfl _ _ _ _ rfl _ _ rfl rfl _ _ HR.out ?_))
    go_ret
    exact ⟨_, rfl, ⟨by simp, Or.inr ⟨w.heap.size, cap, _, rfl, Nat.le_refl _, heap_alloc_new w _, Nat.zero_le _, hcl, by simp [size_zeroCells]; omega, by simp⟩⟩, ((Below.refl _ _).alloc (Nat.le_refl _) _).drew⟩

theorem addr_add (g o j : Nat) : (⟨g, o, none⟩ : Addr).add j = ⟨g, o + j, none⟩ := by
  unfold Addr.add
  split <;> simp_all

/-- A list of fields as a slice. -/
def PtAt (w : World) (v : Value) (fs : List (Nat × Fd)) : Prop := ∃ (a : Option Addr) (c : Nat), v = .slice a fs.length c ∧ (a = none → c = 0) ∧ ∀ j (h : j < fs.length), ∃ g o, a = some ⟨g, o, none⟩ ∧ g < w.heap.size ∧ w.cell? ⟨g, o + j, none⟩ = some (.pointer (some ⟨(fs[j]).1, 0, none⟩))

theorem PtAt.next {w w' : World} {v : Value} {fs : List (Nat × Fd)} (h : PtAt w v fs) (hb : Below w.heap.size w w') : PtAt w' v fs := by
  obtain ⟨a, c, hv, hn, h⟩ := h
  refine ⟨a, c, hv, hn, fun j hj => ?_⟩
  obtain ⟨g, o, h1, h2, h3⟩ := h j hj
  exact ⟨g, o, h1, Nat.lt_of_lt_of_le h2 hb.size, (hb.cell (p := ⟨g, o + j, none⟩) h2).trans h3⟩

/-- Lists put together. -/
def catP : List (List (Nat × Fd)) → List (Nat × Fd)
  | [] => []
  | x :: r => x ++ catP r

theorem catP_append (a b : List (List (Nat × Fd))) : catP (a ++ b) = catP a ++ catP b := by
  induction a with
  | nil => rfl
  | cons x a ih => simp [catP, ih]

theorem flat_take (ps : List (List (Nat × Fd))) (i : Nat) (h : i < ps.length) : catP (ps.take (i + 1)) = catP (ps.take i) ++ ps[i] := by
  rw [show ps.take (i + 1) = ps.take i ++ [ps[i]] by rw [List.take_add_one, List.getElem?_eq_getElem h]; rfl, catP_append]
  simp [catP]

theorem flat_le (ps : List (List (Nat × Fd))) (i : Nat) : (catP (ps.take i)).length ≤ (catP ps).length := by
  have := congrArg (fun x => (catP x).length) (List.take_append_drop i ps)
  simp only [catP_append, List.length_append] at this
  omega

set_option maxRecDepth 100000 in
set_option maxHeartbeats 4000000 in
theorem concat135 (ps : List (List (Nat × Fd))) (vs : List Value) (sb cc : Nat) (w : World) (hvl : vs.length = ps.length) (hsb : sb < w.heap.size) (hc : ∀ i (h : i < ps.length), w.cell? ⟨sb, i, none⟩ = some (vs[i]'(by omega)) ∧ PtAt w (vs[i]'(by omega)) ps[i]) (hl : (catP ps).length ≤ 500) (hpl : ps.length ≤ 10) :
    Calls Tryz.prog 164 #[.slice (some ⟨sb, 0, none⟩) ps.length cc] w fun e w' => ∃ v, e = .returned v ∧ w'.ownsRow w.heap.size 220 1 v (catP ps).length (ptrs (catP ps)) ∧ Below w.heap.size w w' := by
  obtain ⟨i1, gi, gz0, gz1, gz2⟩ := info_parts infoPtr
  have HC := toHid hc
  clear hc
  go_enter Tryz.func164, Tryz.ntmps164
  go_wp2_with fail
  go_loopg [3, 5, 11] ps.length (fun gk s3 _ s11 wr => wr = w ∧ ∃ i : Nat, i ≤ ps.length ∧ ps.length ≤ i + gk ∧ s11 = .int .i64 (i : Int) ∧ s3 = .int .i64 ((catP (ps.take i)).length : Int))
  case atStart => exact ⟨rfl, 0, Nat.zero_le _, by omega, rfl, rfl⟩
  case round =>
    obtain ⟨hw, i, hi, hgk, rfl, rfl⟩ := hrel
    obtain rfl := hw.symm
    by_cases hlt : i < ps.length
    · obtain ⟨av, cv, c0⟩ : ∃ av cv, w.cell? ⟨sb, i, none⟩ = some (.slice av (ps[i]).length cv) := by
        obtain ⟨c0, av, cv, hv, _⟩ := HC.out i hlt
        exact ⟨av, cv, by rw [c0, hv]⟩
      have hltz : (i : Int) < (ps.length : Int) := by omega
      have h1 := flat_le ps i
      have h2 := flat_le ps (i + 1)
      have e1 : (catP (ps.take (i + 1))).length = (catP (ps.take i)).length + (ps[i]).length := by rw [flat_take ps i hlt, List.length_append]
      generalize (ps[i]).length = n at *
      generalize (catP (ps.take i)).length = m at *
      go_wp2
      go_roundg (ps.length - (i + 1))
      case measure => omega
      case rel => exact ⟨rfl, i + 1, by omega, by omega, by go_num, by rw [e1]; go_num⟩
    · have hltz : ¬ (i : Int) < (ps.length : Int) := by omega
      obtain rfl : i = ps.length := by omega
      rw [List.take_length]
      have HG := toHid (grow165 (catP ps).length w (by omega))
      have HNT := toHid (show ∀ i, (catP (ps.take i)).length ≤ 500 from fun i => Nat.le_trans (flat_le ps i) hl)
      generalize hnn : (catP ps).length = nn at HG
      have HNN := toHid hnn
      clear hnn
      go_wp2_with (first | (go_at_call 193; refine HG.out.mono ?_; rintro e w1 ⟨v, rfl, hown, hb1⟩; refine Hid.out ?_))
      have HO := toHid hown
      have HB := toHid hb1
      clear hown hb1 HG
      refine toHid ?_
      go_wp2_with fail
      go_loopg [6, 8, 27] ps.length (fun gk s6 _ s27 wr => ∃ i : Nat, i ≤ ps.length ∧ ps.length ≤ i + gk ∧ s27 = .int .i64 (i : Int) ∧ Hid (wr.ownsRow w.heap.size 220 1 s6 (catP (ps.take i)).length (ptrs (catP (ps.take i)))) ∧ Hid (Below w.heap.size w wr))
      case atStart => exact ⟨0, Nat.zero_le _, by omega, rfl, HO, HB⟩
      case round =>
        obtain ⟨i, hi, hgk, rfl, HO2, HB2⟩ := hrel
        have hs2 := HB2.out.size
        by_cases hlt : i < ps.length
        · have hltz' : (i : Int) < (ps.length : Int) := by omega
          obtain ⟨av, cv, c0, hnone, HP⟩ : ∃ av cv, w.cell? ⟨sb, i, none⟩ = some (.slice av (ps[i]).length cv) ∧ (av = none → cv = 0) ∧ Hid (∀ j (h : j < (ps[i]).length), ∃ g o, av = some ⟨g, o, none⟩ ∧ g < w.heap.size ∧ w.cell? ⟨g, o + j, none⟩ = some (.pointer (some ⟨((ps[i])[j]).1, 0, none⟩))) := by
            obtain ⟨c0, av, cv, hv, hn, hp⟩ := HC.out i hlt
            exact ⟨av, cv, by rw [c0, hv], hn, hp⟩
          have d0 := (HB2.out.cell (p := ⟨sb, i, none⟩) hsb).trans c0
          have HF := toHid (flat_take ps i hlt)
          have hm1 := HNT.out i
          have hm2 := HNT.out (i + 1)
          have e1 : (catP (ps.take (i + 1))).length = (catP (ps.take i)).length + (ps[i]).length := by rw [HF.out, List.length_append]
          generalize ps[i] = pt at *
          clear c0
          cases av with
          | none =>
            have h0 : pt = [] := by
              rcases pt with _ | ⟨x, r⟩
              · rfl
              · obtain ⟨g, o, h1, _⟩ := HP.out 0 (by simp)
                cases h1
            subst h0
            obtain rfl := hnone rfl
            have HO3 := toHid (show wr.ownsRow w.heap.size 220 1 u6 (catP (ps.take (i + 1))).length (ptrs (catP (ps.take (i + 1)))) by rw [HF.out, List.append_nil]; exact HO2.out)
            go_wp2_with (first | (at_builtin; refine wpList_append_own_none rfl (.tmp 31) (.tmp 32) 101 rfl w.heap.size 220 i1 1 Tryz.underlying101 gi u6 (catP (ps.take i)).length (ptrs (catP (ps.take i))) rfl HO2.out rfl ?_))
            go_roundg (ps.length - (i + 1))
            case measure => omega
            case rel => exact ⟨i + 1, by omega, by omega, by go_num, HO3, HB2⟩
          | some ad =>
            have HN := toHid (show ∀ j u, (ptrs pt)[j]? = some u → wr.cell? (ad.add j) = some u from fun j u hj => by
              have hjl : j < pt.length := by
                have := (List.getElem?_eq_some_iff.1 hj).1
                simpa [ptrs] using this
              obtain ⟨g, o, h1, h2, h3⟩ := HP.out j hjl
              obtain rfl : ad = ⟨g, o, none⟩ := by simpa using h1
              rw [addr_add, HB2.out.cell (p := ⟨g, o + j, none⟩) h2, h3]
              simp [ptrs, hjl] at hj
              rw [← hj])
            go_wp2_with (first | (at_builtin; refine wpList_append_own _ rfl (.tmp 31) (.tmp 32) 101 rfl w.heap.size 220 i1 (.pointer none) 1 8 Tryz.underlying101 gi gz0 gz1 gz2 rfl (by decide) u6 (catP (ps.take i)).length (ptrs (catP (ps.take i))) rfl HO2.out ad pt.length cv (ptrs pt) rfl (by simp [ptrs]) HN.out (fun u hu => by simp [ptrs] at hu; obtain ⟨a, b, _, rfl⟩ := hu; rfl) (by unfold maxLen; omega) (by omega) hs2 ?_; intro v' w2 hown' hgrow _; refine Hid.out ?_))
            have HO3 := toHid (show w2.ownsRow w.heap.size 220 1 v' (catP (ps.take (i + 1))).length (ptrs (catP (ps.take (i + 1)))) by
              rw [HF.out, List.length_append, show ptrs (catP (ps.take i) ++ pt) = ptrs (catP (ps.take i)) ++ ptrs pt by simp [ptrs]]
              exact hown')
            have HB3 := toHid (HB2.out.grown hgrow hs2 (fun q hq => (HO2.out.lt q hq).1))
            clear hgrow hown'
            refine toHid ?_
            go_wp2
            go_roundg (ps.length - (i + 1))
            case measure => omega
            case rel => exact ⟨i + 1, by omega, by omega, by go_num, HO3, HB3⟩
        · have hltz' : ¬ (i : Int) < (ps.length : Int) := by omega
          obtain rfl : i = ps.length := by omega
          go_wp2
          go_ret
          have := HO2.out
          rw [List.take_length] at this
          exact ⟨_, rfl, this, HB2.out⟩
end Go.Proofs.YtihgojcfpnhelaaGreatDoor
