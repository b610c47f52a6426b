import Derived.Test.YtihgojcfpnhelaaGreatDoorLd
import Derived.Test.YtihgojcfpnhelaaGreatDoorZa
import Derived.Test.YtihgojcfpnhelaaGreatDoorSx
import Derived.Test.YtihgojcfpnhelaaGreatDoorKi
import Derived.Test.YtihgojcfpnhelaaGreatDoorKj
import Derived.Test.YtihgojcfpnhelaaGreatDoorSu
set_option linter.unusedVariables false
set_option linter.unusedSimpArgs false
namespace Go.Proofs.YtihgojcfpnhelaaGreatDoor
open Go.RowKit

/-- What Plain answers of a text that can be read. -/
theorem ans_of (s : By) (ts : List (By × Nat)) (p : Pt) (hl : s.length ≤ 120) (ht : toksOf s = (ts, none)) (hD : Der ts 1 0 ts.length p) (ho : opn p ≤ 6) (a : By) (er : Int) (at_ : Nat) (h : Ans s a er at_) :
    at_ = 0 ∧ ((100 < (txt p).length ∧ a = [] ∧ er = 7) ∨ (¬ 100 < (txt p).length ∧ a = txt p ∧ er = 0)) := by
  have hok : OkT ts := by
    have : (toksOf s).1 = ts := by rw [ht]
    rw [← this]
    exact fun t p hm => ⟨⟨toks_ok _ _ _ t p hm, toks_good _ _ _ t p hm⟩, toks_allD _ _ _ t p hm⟩
  have htold : toldTo ts ts.length = txt p := by
    have := (hD.told hok rfl).2.2
    simpa [toldTo] using this
  rcases h with ⟨h, _⟩ | ⟨_, q, h, _⟩ | ⟨_, ts', e, q, n0, h1, h2, h3, h4⟩
  · omega
  · rw [ht] at h
    cases h
  · rw [ht] at h1
    simp only [Prod.mk.injEq, and_true] at h1
    subst h1
    obtain ⟨rfl, rfl⟩ := hD.run hok ho h3
    rw [htold] at h4
    rcases h4 with ⟨h4, _⟩ | ⟨_, _, h4, rfl, rfl, rfl⟩ | ⟨_, _, h4, rfl, rfl, rfl⟩
    · exact absurd rfl h4
    · exact ⟨rfl, Or.inl ⟨h4, rfl, rfl⟩⟩
    · exact ⟨rfl, Or.inr ⟨h4, rfl, rfl⟩⟩

/-- Plain of a text that can be read. -/
theorem plainOf (s : By) (ts : List (By × Nat)) (p : Pt) (hl : s.length ≤ 120) (ht : toksOf s = (ts, none)) (hD : Der ts 1 0 ts.length p) (ho : opn p ≤ 6) (a : By) (er : Int) (ha : if 100 < (txt p).length then a = [] ∧ er = 7 else a = txt p ∧ er = 0) (w : World) (hE : Env w) :
    Calls Tryz.prog 17 #[.string ⟨s.toArray⟩] w fun e w' => e = .returned (.tuple #[.string ⟨a.toArray⟩, .int .i64 er, .int .i64 0]) ∧ Below w.heap.size w w' := by
  refine (plain5 s w hE).mono ?_
  rintro e w' ⟨a', er', at_, h1, rfl, hb⟩
  obtain ⟨rfl, h | h⟩ := ans_of s ts p hl ht hD ho a' er' at_ h1
  · rw [if_pos h.1] at ha
    rw [ha.1, ha.2, h.2.1, h.2.2]
    exact ⟨rfl, hb⟩
  · rw [if_neg h.1] at ha
    rw [ha.1, ha.2, h.2.1, h.2.2]
    exact ⟨rfl, hb⟩
end Go.Proofs.YtihgojcfpnhelaaGreatDoor
namespace Go.Proofs.YtihgojcfpnhelaaGreatDoor
open Go.RowKit

theorem heads_rule : ∀ k (h : k < 12), (headsW[k]'h).1 = [114, 117, 108, 101] → k = 9 := by decide

/-- A line that asks for the rule of a field of one letter is read so. -/
theorem line_rule (nm : UInt8) (h : isL nm = true) (r : LnR) (hr : LineP [114, 117, 108, 101, 32, nm] r) : r = .ok 10 [[nm]] none := by
  obtain ⟨h1, h2, h3, hkn, hnn⟩ := one_letter nm h [] (Or.inl rfl)
  have htk : toksOf [114, 117, 108, 101, 32, nm] = ([([114, 117, 108, 101], 0), ([nm], 5)], none) := by
    have e0 : toksOf [114, 117, 108, 101, 32, nm] = toks (5 + 1) ([114, 117, 108, 101] ++ (32 :: ([nm] ++ []))) 0 := rfl
    rw [e0, toks_to 5 114 [117, 108, 101] _ 0 (by decide) (by simp [rowLen, show isL 114 = true from by decide, show isLD 117 = true from by decide, show isLD 108 = true from by decide, show isLD 101 = true from by decide, show isLD 32 = false from by decide]) (by decide), toks_sp, toks_to 3 nm [] [] _ h3 h1 h2, toks_nil]
    rfl
  rcases hr with ⟨g1, _⟩ | ⟨_, q, g1, _⟩ | ⟨_, ts, g1, g2⟩
  · simp at g1
  · rw [htk] at g1
    cases g1
  · rw [htk] at g1
    simp only [Prod.mk.injEq, and_true] at g1
    subst g1
    have n0 : nT [([114, 117, 108, 101], 0), ([nm], 5)] 0 = [114, 117, 108, 101] := by
      simp [nT, tAt]
      decide
    have k1 : kN [([114, 117, 108, 101], 0), ([nm], 5)] (1 + 0) = 2 := by simp [kN, tAt, hkn]
    have k2 : kN [([114, 117, 108, 101], 0), ([nm], 5)] (1 + 1) = 0 := by simp [kN]
    have nms : namesT [([114, 117, 108, 101], 0), ([nm], 5)] 1 1 = [[nm]] := by simp [namesT, nT, tAt, hnn]
    rcases g2 with ⟨k, hk, he, hh⟩ | ⟨hno, _⟩
    · rw [n0] at he
      obtain rfl := heads_rule k hk he
      rcases hh with ⟨j, hj, _, hne, _⟩ | ⟨_, hh⟩
      · obtain rfl : j = 0 := by have : j < 1 := hj; omega
        exact absurd k1 hne
      · rcases hh with ⟨_, h4, _⟩ | ⟨_, _, h5⟩ | ⟨h4, _⟩ | ⟨h4, _⟩
        · exact absurd k2 h4
        · rw [h5]
          exact congrArg (fun n => LnR.ok 10 n none) nms
        · cases h4
        · cases h4
    · exact absurd n0.symm (hno 9 (by decide))
/-- A line that asks for a rule is read. -/
theorem readRule (nm : UInt8) (h : isL nm = true) (w : World) (hE : Env w) (hEL : EnvL w) :
    Calls Tryz.prog 46 #[.string ⟨([114, 117, 108, 101, 32, nm] : By).toArray⟩] w fun e w' => ∃ (gn cn : Nat), e = .returned (.tuple #[.agg #[.int .i64 10, .slice (some ⟨gn, 0, none⟩) 1 cn, .int .i64 0, .string ⟨#[]⟩, .int .i64 0, .slice none 0 0], .int .i64 0, .int .i64 0]) ∧ w'.cell? ⟨gn, 0, none⟩ = some (.string ⟨([nm] : By).toArray⟩) ∧ gn < w'.heap.size ∧ Below w.heap.size w w' := by
  refine (linesRead [114, 117, 108, 101, 32, nm] w hE hEL).mono ?_
  rintro e w' ⟨r, hr, hret, hb⟩
  rw [line_rule nm h r hr] at hret
  obtain ⟨an, ln, cn, rfl, hown⟩ := hret
  obtain ⟨g, cap, hv, hg, hgl⟩ := hown.form (by simp)
  simp at hv
  obtain ⟨rfl, rfl, rfl⟩ := hv
  refine ⟨g, cn, rfl, ?_, hgl, hb⟩
  have := hown.cellAt 0 (by simp)
  simpa [strs] using this

set_option maxRecDepth 100000 in
set_option maxHeartbeats 4000000 in
theorem tellRule (e gn cn : Nat) (x tx : By) (w : World) (hc : w.cell? ⟨gn, 0, none⟩ = some (.string ⟨x.toArray⟩)) (hg : gn < w.heap.size)
    (hS : ∀ W, Below w.heap.size w W → Calls Tryz.prog 103 #[.pointer (some ⟨e, 0, none⟩), .string ⟨x.toArray⟩] W fun r w' => r = .returned (.tuple #[.string ⟨tx.toArray⟩, .int .i64 0]) ∧ Below W.heap.size W w') :
    Calls Tryz.prog 70 #[.pointer (some ⟨e, 0, none⟩), .agg #[.int .i64 10, .slice (some ⟨gn, 0, none⟩) 1 cn, .int .i64 0, .string ⟨#[]⟩, .int .i64 0, .slice none 0 0]] w fun r w' => r = .returned (.agg #[.int .i64 0, .int .i64 0, .string ⟨tx.toArray⟩, .slice none 0 0, .int .i64 0, .int .i64 0]) ∧ Below w.heap.size w w' := by
  have HS := toHid hS
  have hg1 : gn < w.heap.size + 1 := by omega
  have hg2 : gn < w.heap.size + 1 + 1 := by omega
  clear hS
  go_enter Tryz.func70, Tryz.ntmps70
  have HS2 := toHid (HS.out ((w.alloc (.cells #[.int .i64 10, .slice (some ⟨gn, 0, none⟩) 1 cn, .int .i64 0, .string ⟨#[]⟩, .int .i64 0, .slice none 0 0] 97)).alloc (.cells #[.int .i64 0, .int .i64 0, .string ⟨#[]⟩, .slice none 0 0, .int .i64 0, .int .i64 0] 39)).drew (below2 _ _ _).drew)
  have HR := toHid (show ∀ w3, Below ((w.alloc (.cells #[.int .i64 10, .slice (some ⟨gn, 0, none⟩) 1 cn, .int .i64 0, .string ⟨#[]⟩, .int .i64 0, .slice none 0 0] 97)).alloc (.cells #[.int .i64 0, .int .i64 0, .string ⟨#[]⟩, .slice none 0 0, .int .i64 0, .int .i64 0] 39)).drew.heap.size ((w.alloc (.cells #[.int .i64 10, .slice (some ⟨gn, 0, none⟩) 1 cn, .int .i64 0, .string ⟨#[]⟩, .int .i64 0, .slice none 0 0] 97)).alloc (.cells #[.int .i64 0, .int .i64 0, .string ⟨#[]⟩, .slice none 0 0, .int .i64 0, .int .i64 0] 39)).drew w3 → w3.heap[w.heap.size + 1]? = some (.cells #[.int .i64 0, .int .i64 0, .string ⟨#[]⟩, .slice none 0 0, .int .i64 0, .int .i64 0] 39 (0, 0)) ∧ Below w.heap.size w w3 from fun w3 hb => ⟨(hb.block _ (by simp)).trans (alloc2_new' w _ _ _), (below2 _ _ _).drew.trans (hb.mono (by simp; omega))⟩)
  clear HS
  go_wp2_with fail
  go_region_with (first | (go_at_call 103; refine HS2.out.mono ?_; rintro r w3 ⟨rfl, hb3⟩; obtain ⟨hr1, hbb⟩ := HR.out _ hb3; obtain ⟨⟨k0, k1, k2, k3, k4, k5⟩, ⟨f0, f1, f2, f3, f4, f5⟩, hsz⟩ := row6 hr1; have C1 := toHid hbb; have C2 := toHid hr1; clear hb3 hr1 hbb))
  have hF := setCell_block (setCell_block (setCell_block (setCell_block (setCell_block (setCell_block (setCell_block (setCell_block C2.out 2 (.string ⟨tx.toArray⟩)) 0 (.int .i64 0)) 0 (.int .i64 0)) 1 (.int .i64 0)) 2 (.string ⟨tx.toArray⟩)) 3 (.slice none 0 0)) 4 (.int .i64 0)) 5 (.int .i64 0)
  obtain ⟨⟨F0, F1, F2, F3, F4, F5⟩, _, Fs⟩ := row6 (show _ = some (Obj.cells #[.int .i64 0, .int .i64 0, .string ⟨tx.toArray⟩, .slice none 0 0, .int .i64 0, .int .i64 0] 39 (0, 0)) from hF)
  have HF := toHid (And.intro F0 (And.intro F1 (And.intro F2 (And.intro F3 (And.intro F4 (And.intro F5 Fs))))))
  have HBF := toHid (show Below w.heap.size w ((((((((w3.setCell ⟨w.heap.size + 1, 2, none⟩ (.string ⟨tx.toArray⟩)).setCell ⟨w.heap.size + 1, 0, none⟩ (.int .i64 0)).setCell ⟨w.heap.size + 1, 0, none⟩ (.int .i64 0)).setCell ⟨w.heap.size + 1, 1, none⟩ (.int .i64 0)).setCell ⟨w.heap.size + 1, 2, none⟩ (.string ⟨tx.toArray⟩)).setCell ⟨w.heap.size + 1, 3, none⟩ (.slice none 0 0)).setCell ⟨w.heap.size + 1, 4, none⟩ (.int .i64 0)).setCell ⟨w.heap.size + 1, 5, none⟩ (.int .i64 0)) from by
    iterate 8 refine Below.setCell ?_ (by show w.heap.size ≤ w.heap.size + 1; omega) _
    exact C1.out)
  clear F0 F1 F2 F3 F4 F5 Fs hF C1 C2
  go_wp2
  generalize ((((((((w3.setCell ⟨w.heap.size + 1, 2, none⟩ (.string ⟨tx.toArray⟩)).setCell ⟨w.heap.size + 1, 0, none⟩ (.int .i64 0)).setCell ⟨w.heap.size + 1, 0, none⟩ (.int .i64 0)).setCell ⟨w.heap.size + 1, 1, none⟩ (.int .i64 0)).setCell ⟨w.heap.size + 1, 2, none⟩ (.string ⟨tx.toArray⟩)).setCell ⟨w.heap.size + 1, 3, none⟩ (.slice none 0 0)).setCell ⟨w.heap.size + 1, 4, none⟩ (.int .i64 0)).setCell ⟨w.heap.size + 1, 5, none⟩ (.int .i64 0)) = WF at *
  obtain ⟨F0, F1, F2, F3, F4, F5, Fs⟩ := HF.out
  refine bodyPost_ret (v := .agg #[.int .i64 0, .int .i64 0, .string ⟨tx.toArray⟩, .slice none 0 0, .int .i64 0, .int .i64 0]) (by simp [results, Tryz.results70, go_sem, F0, F1, F2, F3, F4, F5]) (by simp [go_sem]) ?_
  exact ⟨rfl, HBF.out⟩

theorem doRule (e : Nat) (nm : UInt8) (hnm : isL nm = true) (tx : By) (w : World) (hE : Env w) (hEL : EnvL w)
    (hS : ∀ W, Below w.heap.size w W → Calls Tryz.prog 103 #[.pointer (some ⟨e, 0, none⟩), .string ⟨([nm] : By).toArray⟩] W fun r w' => r = .returned (.tuple #[.string ⟨tx.toArray⟩, .int .i64 0]) ∧ Below W.heap.size W w') :
    Calls Tryz.prog 20 #[.pointer (some ⟨e, 0, none⟩), .string ⟨([114, 117, 108, 101, 32, nm] : By).toArray⟩] w fun r w' => r = .returned (.agg #[.int .i64 0, .int .i64 0, .string ⟨tx.toArray⟩, .slice none 0 0, .int .i64 0, .int .i64 0]) ∧ Below w.heap.size w w' :=
  doTell e _ 10 (Or.inr rfl) [nm] tx 0 0 w hE hEL (fun W h1 h2 => readRule nm hnm W h1 h2) fun gn cn W hW hc hg => tellRule e gn cn [nm] tx W hc hg fun W' hW' => hS W' (hW.trans (hW'.mono hW.size))
end Go.Proofs.YtihgojcfpnhelaaGreatDoor
namespace Go.Proofs.YtihgojcfpnhelaaGreatDoor
open Go.RowKit

theorem edRule {W0 : World} {M n : Nat} (w : World) (e : Nat) (fs : List Fd) (nm : UInt8) (f : Fd) (h : Ed W0 M n w e fs) (hnm : isL nm = true) (hf : fs.find? (fun f => f.nm == [nm]) = some f) :
    Calls Tryz.prog 20 #[.pointer (some ⟨e, 0, none⟩), .string ⟨([114, 117, 108, 101, 32, nm] : By).toArray⟩] w fun r w' => r = .returned (.agg #[.int .i64 0, .int .i64 0, .string ⟨(txt f.p).toArray⟩, .slice none 0 0, .int .i64 0, .int .i64 0]) ∧ Below w.heap.size w w' := by
  obtain ⟨hE, hEL, gs, S, a, c, dv, rfl, hP, hlen⟩ := h
  rw [← findF_snd] at hf
  obtain ⟨g, hg, rfl⟩ := Option.map_eq_some_iff.1 hf
  refine doRule e nm hnm (txt g.2.p) w (hE.below hP.low hE.size) (EnvL.low hEL hE hP.low) fun W hW => ?_
  have h2 := hP.next hW
  have hv := rule69 [nm] e c a gs W h2.sh (hE.below h2.low hE.size) ((World.cell?_of_block (a := ⟨e, 0, none⟩) rfl).trans (row6 h2.row).1.1) h2.lt (by omega)
  refine hv.mono ?_
  rintro r w' ⟨hb, hr⟩
  rw [hg] at hr
  exact ⟨hr, hb⟩

/-- The statement Plain answers true. -/
theorem plainHolds (raw : By) (hraw : raw.length ≤ 9223372036854775807) (W : World) (hE : Env W) (hEL : EnvL W) :
    Calls Tryz.prog 4 #[.string ⟨raw.toArray⟩] W fun e w' => e = .returned (.bool true) ∧ Below W.heap.size W w' := by
  have hd : (nextB raw 4).1 ≤ 3 := by have := nextB_lt raw 4 (by decide); omega
  have k4 := fun (W' : World) (h : FeedAt W' W.heap.size raw) => keep_next W.heap.size raw 4 W' (by decide) (by decide) h
  have kr := fun (W' : World) (h : FeedAt W' W.heap.size (nextB raw 4).2) => keep_rule W.heap.size (nextB raw 4).1 hd (nextB raw 4).2 _ W' h rfl
  generalize (nextB raw 4).2 = r1 at *
  generalize (nextB raw 4).1 = d at *
  have hs := ruleB_len3 d hd r1
  obtain ⟨p, htx, hop, hmf, hrd, hro⟩ := odd_reads (ruleI d r1) (ruleB d r1).2
  unfold RulePost at kr
  generalize (ruleB d r1).2 = r2 at *
  generalize (ruleB d r1).1 = s at *
  have hop6 : opn p ≤ 6 := by omega
  obtain ⟨ts, ht, hD⟩ := hrd s.length 0 (Nat.le_refl _)
  obtain ⟨ts8, ht8, hD8⟩ := hrd (s.length + 2) 8 (by omega)
  obtain ⟨tso, hto, hDo⟩ := hro ((oddB none s r2).1.length + 1) 0 (Nat.le_refl _)
  have hE' : ∀ V, Below W.heap.size W V → Env V := fun V hV => hE.below hV hE.size
  have hEL' : ∀ V, Below W.heap.size W V → EnvL V := fun V hV => EnvL.low hEL hE hV
  have hz : mentP [122] p = false := by
    cases hh : mentP [122] p with
    | false => rfl
    | true =>
      obtain ⟨x, _, hx⟩ := hmf [122] hh
      simp at hx
  refine plainLoop raw s r1 r2 W hs d hd hraw (fun r W' h => keep_next W.heap.size r 2 W' (by decide) (by decide) h) k4 kr (fun e w' => ∃ V, Below W.heap.size W V ∧ Ed V 2 0 w' e []) (fun e w' => ∃ V, Below W.heap.size W V ∧ Ed V 2 1 w' e ([] ++ [⟨[122], p, valP (rhoF []) p⟩])) (fun _ => True) (if 100 < s.length then [] else s) (if 100 < s.length then 7 else 0) ?_ ?_ ?_ ?_ ?_ ?_
  · intro V hV
    refine plainOf s ts p (by omega) ht hD hop6 _ _ ?_ V (hE' V hV)
    rw [htx]
    split <;> exact ⟨rfl, rfl⟩
  · split <;> exact ⟨rfl, rfl⟩
  · intro V hV _
    refine begin_ok 2 V (fun e w' => (∃ V, Below W.heap.size W V ∧ Ed V 2 0 w' e []) ∧ Below W.heap.size W w') ((edNew 2 (by decide) V (hE' V hV) (hEL' V hV)).mono ?_)
    rintro r w' ⟨e, rfl, hed⟩
    refine ⟨e, rfl, ⟨V, hV, hed⟩, ?_⟩
    obtain ⟨_, _, gs, S, a, c, dv, _, hP, _⟩ := hed
    exact hV.trans (hP.low.mono hV.size)
  · rintro V e ⟨V0, hV0, hed⟩ hV h100
    refine does_ok e (setL 122 s) V (fun w' => (∃ V, Below W.heap.size W V ∧ Ed V 2 1 w' e ([] ++ [⟨[122], p, valP (rhoF []) p⟩])) ∧ Below W.heap.size W w') ?_ ?_
    · rintro w1 w2 ⟨⟨V1, hV1, hE1, hEL1, gs, S, a, c, dv, h1, hP, h3⟩, h2⟩ hb
      exact ⟨⟨V1, hV1, hE1, hEL1, gs, S, a, c, dv, h1, hP.next hb, h3⟩, h2.trans (hb.mono h2.size)⟩
    · refine (edSet (M := 2) (n := 0) (by decide) (Or.inr (by decide)) V e [] 122 s ts8 p hed (by decide) (by simp) (by omega) ht8 hD8 hop6 (by rw [htx]; omega) (fun f hf => by simp at hf) (fun f hf => by simp at hf) hz).mono ?_
      rintro r w' ⟨hr, hed'⟩
      refine ⟨hr, ⟨V0, hV0, hed'⟩, ?_⟩
      obtain ⟨_, _, gs, S, a, c, dv, _, hP, _⟩ := hed'
      exact hV0.trans (hP.low.mono hV0.size)
  · rintro V e ⟨V0, hV0, hed⟩ hV
    refine (edRule V e _ 122 ⟨[122], p, valP (rhoF []) p⟩ hed (by decide) (by simp)).mono ?_
    rintro r w' ⟨rfl, hb⟩
    rw [htx]
    exact ⟨⟨none, 0, 0, 0, 0, rfl⟩, hV.trans (hb.mono hV.size)⟩
  · intro V hV h120 h100
    refine plainOf (32 :: (oddB none s r2).1) tso p (by simpa using h120) hto hDo hop6 _ _ ?_ V (hE' V hV)
    rw [htx, if_neg (by omega)]
    exact ⟨rfl, rfl⟩
end Go.Proofs.YtihgojcfpnhelaaGreatDoor
