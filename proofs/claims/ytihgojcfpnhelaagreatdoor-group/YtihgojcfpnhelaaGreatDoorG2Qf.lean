import Derived.Test.YtihgojcfpnhelaaGreatDoorG2Qe
import Derived.Test.YtihgojcfpnhelaaGreatDoorG2Sk
set_option maxRecDepth 100000
set_option maxHeartbeats 4000000
set_option linter.unusedVariables false
set_option linter.unusedSimpArgs false
namespace Go.Proofs.YtihgojcfpnhelaaGreatDoor
open Go.RowKit
section
theorem findB_some {fs : List (Nat × Fd)} {x : By} {f : Nat × Fd} (h : findF fs x = some f) : findB fs x = some ⟨f.1, 0, none⟩ := by simp [findB, h]
theorem setOld {S : Nat → Prop} (e c : Nat) (a : Option Addr) (fs : List (Nat × Fd)) (f : Nat × Fd) (x : By) (p : Pt) (ar : Option Addr) (lr cr : Nat) (w : World) (Q : Option Addr → Nat → Nat → Value → Int → World → Prop) (hs : Sh w S a fs) (hc : w.cell? ⟨e, 0, none⟩ = some (.slice a fs.length c)) (hel : e < w.heap.size) (hl : fs.length ≤ 100) (hfx : findF fs x = some f) (hef : f.1 ≠ e)
  (hSt : ∀ g1 g2 w1, w1.heap[f.1]? = some (.cells #[.string ⟨f.2.nm.toArray⟩, .int .i64 (p.k : Int), .string ⟨p.nm.toArray⟩, .int .i64 (p.n : Int), .slice ar lr cr, .int .i64 f.2.v.1, .int .i64 f.2.v.2] 223 (0, 0)) → Ks (fun q => q = f.1) w w1 →
   (∃ (fa : Option Addr) (fl fc : Nat), w.heap[f.1]? = some (.cells #[.string ⟨f.2.nm.toArray⟩, .int .i64 (f.2.p.k : Int), .string ⟨f.2.p.nm.toArray⟩, .int .i64 (f.2.p.n : Int), .slice fa fl fc, .int .i64 f.2.v.1, .int .i64 f.2.v.2] 223 (0, 0)) ∧ w.heap.size ≤ g1 ∧ w.heap.size ≤ g2 ∧ g1 ≠ g2 ∧ w1.heap[g1]? = some (.cells #[.pointer (some ⟨f.1, 1, none⟩)] 251 (0, 0)) ∧ w1.heap[g2]? = some (.cells #[.int .i64 (f.2.p.k : Int), .string ⟨f.2.p.nm.toArray⟩, .int .i64 (f.2.p.n : Int), .slice fa fl fc] 89 (0, 0))) →
   Calls Tryz.prog 161 #[.pointer (some ⟨e, 0, none⟩), .pointer (some ⟨f.1, 0, none⟩), .func (.func 191) #[] #[.pointer (some ⟨g1, 0, none⟩), .pointer (some ⟨g2, 0, none⟩)]] w1 fun r w' => ∃ (an : Option Addr) (ln cn : Nat) (bk : Value) (er : Int), r = .returned (.tuple #[.slice an ln cn, bk, .int .i64 er]) ∧ Q an ln cn bk er w') :
  Calls Tryz.prog 133 #[.pointer (some ⟨e, 0, none⟩), .string ⟨x.toArray⟩, .agg #[.int .i64 (p.k : Int), .string ⟨p.nm.toArray⟩, .int .i64 (p.n : Int), .slice ar lr cr]] w fun r w' => ∃ (an : Option Addr) (ln cn : Nat) (bk : Value) (er : Int), r = .returned (.tuple #[.slice an ln cn, bk, .int .i64 er]) ∧ Q an ln cn bk er w' := by
 have HF := toHid (fun W (hb : Below w.heap.size w W) => find101 x e c a fs W (hs.next hb) ((hb.cell (p := ⟨e, 0, none⟩) hel).trans hc) (by omega))
 rw [findB_some hfx] at HF
 have hff := hs.fld f (findF_mem hfx).1
 obtain ⟨_, _, _, _, fa, fl, fc, hr, _⟩ := hff
 have hfl := (Array.getElem?_eq_some_iff.1 hr).1
 have HPR := toHid (fun W (hW : Below w.heap.size w W) => (putRule f.1 (.string ⟨f.2.nm.toArray⟩) (.int .i64 f.2.v.1) (.int .i64 f.2.v.2) f.2.p.k f.2.p.nm f.2.p.n fa fl fc p.k p.nm p.n ar lr cr 223 W ((hW.block f.1 hfl).trans hr)).mono (R' := fun e' w1 => ∃ g1 g2, e' = .returned (.func (.func 191) #[] #[.pointer (some ⟨g1, 0, none⟩), .pointer (some ⟨g2, 0, none⟩)]) ∧ Hid (Calls Tryz.prog 161 #[.pointer (some ⟨e, 0, none⟩), .pointer (some ⟨f.1, 0, none⟩), .func (.func 191) #[] #[.pointer (some ⟨g1, 0, none⟩), .pointer (some ⟨g2, 0, none⟩)]] w1 fun r w' => ∃ (an : Option Addr) (ln cn : Nat) (bk : Value) (er : Int), r = .returned (.tuple #[.slice an ln cn, bk, .int .i64 er]) ∧ Q an ln cn bk er w')) (by
  rintro e' w1 ⟨g1, g2, rfl, h1, h2, h3, h4, h5, h6, h7⟩
  exact ⟨g1, g2, rfl, hSt g1 g2 w1 h6 ((Ks.of hW).trans h7) ⟨fa, fl, fc, hr, Nat.le_trans hW.size h1, Nat.le_trans hW.size h2, h3, h4, h5⟩⟩))
 clear hs hr hSt hfx
 go_enter Tryz.func133, Tryz.ntmps133
 go_wp2_with (first | (go_at_call 137; refine (HF.out _ ((Below.refl _ _).alloc (Nat.le_refl _) _)).mono ?_; rintro r w1 ⟨rfl, rfl⟩; refine Hid.out ?_))
 refine toHid ?_
 clear HF
 have HP2 := toHid (HPR.out (w.alloc (.cells #[.int .i64 (p.k : Int), .string ⟨p.nm.toArray⟩, .int .i64 (p.n : Int), .slice ar lr cr] 89)).drew ((Below.refl _ _).alloc (Nat.le_refl _) _).drew)
 clear HPR
 go_wp2_with fail
 go_region_with (first
  | (go_at_call 162; refine HP2.out.mono ?_; rintro e' w2 ⟨g1, g2, rfl, hst⟩)
  | (go_at_call 161; refine hst.out.mono ?_; rintro r w3 ⟨an, ln, cn, bk, er, rfl, hq⟩; have HQ := toHid hq; clear hq))
 all_goals go_wp2
 all_goals refine bodyPost_ret (v := .tuple #[.slice an ln cn, bk, .int .i64 er]) (by simp [results, Tryz.results133, go_sem]) (by simp [go_sem]) ?_
 all_goals exact ⟨an, ln, cn, bk, er, rfl, HQ.out⟩
end
end Go.Proofs.YtihgojcfpnhelaaGreatDoor
