import Derived.Test.YtkhpobgknnjbaaaDoorR
import Derived.Deep.RegionLaw
import Derived.Deep.AppendLies
namespace Go.Proofs.YtkhpobgknnjbaaaDoor
open Go.RowKit

set_option maxRecDepth 100000 in
set_option maxHeartbeats 3200000 in
theorem take_raw (b bl off n c m : Nat) (tv : Value) (k p : Int) (x : By) (xs : List Value) (w : World)
    (h0 : w.cell? ⟨b, 0, none⟩ = some (.slice (some ⟨bl, off, none⟩) (n + 2) c)) (h1 : w.cell? ⟨b, 1, none⟩ = some tv) (f0 : w.frozen? ⟨b, 0, none⟩ = false) (f1 : w.frozen? ⟨b, 1, none⟩ = false)
    (hnc : n + 2 ≤ c) (hk0 : w.cell? ⟨bl, off, none⟩ = some (.int .i64 k)) (hk1 : w.cell? ⟨bl, off + 1, none⟩ = some (.int .i64 p)) (hk2 : w.cell? ⟨bl, off + 2, none⟩ = some (.string ⟨x.toArray⟩))
    (hown : w.ownsRow (b + 1) 46 3 tv m xs) (hbl : bl < b) (hm : m ≤ 1000) :
    Calls Tryd.prog 45 #[.pointer (some ⟨b, 0, none⟩)] w fun e w' => e = .returned (.tuple #[]) ∧ ∃ g cap w1, w1.ownsRow (b + 1) 46 3 (.slice (some ⟨g, 0, none⟩) (m + 1) cap) (m + 1) (xs ++ [.int .i64 k, .int .i64 p, .string ⟨x.toArray⟩]) ∧
      Below (b + 1) w w1 ∧ w' = (w1.setCell ⟨b, 1, none⟩ (.slice (some ⟨g, 0, none⟩) (m + 1) cap)).setCell ⟨b, 0, none⟩ (.slice (some ⟨bl, off + 3, none⟩) (n + 1) (c - 1)) := by
  obtain ⟨i0, hi0, hz0, hz1, hz2⟩ := info_parts info46
  have lg := World.block_lt_of_cell? w _ h0
  have lk := World.block_lt_of_cell? w _ hk0
  have hn1 : (0 : Int) < (n : Int) + 2 := by omega
  have hn2 : (0 : Int) ≤ (n : Int) := by omega
  have ag : tv.ownBlock ≠ some b := fun h => by have := (World.ownsRow.lt hown b h).1; omega
  have ak : tv.ownBlock ≠ some bl := fun h => by have := (World.ownsRow.lt hown bl h).1; omega
  have AG := toHid ag
  have AK := toHid ak
  clear ag ak
  have CA := toHid (show ∀ o, (w.alloc o).drew.cell? ⟨b, 1, none⟩ = some tv from fun o => (World.cell?_alloc_past (w := w) o b 1 lg).trans h1)
  have CB := toHid (show ∀ o, (w.alloc o).drew.cell? ⟨b, 0, none⟩ = _ from fun o => (World.cell?_alloc_past (w := w) o b 0 lg).trans h0)
  have FB := toHid (show ∀ o, (w.alloc o).drew.frozen? ⟨b, 0, none⟩ = false from fun o => (World.frozen?_alloc_past (w := w) o b 0 lg).trans f0)
  have FA := toHid (show ∀ o, (w.alloc o).drew.frozen? ⟨b, 1, none⟩ = false from fun o => (World.frozen?_alloc_past (w := w) o b 1 lg).trans f1)
  go_enter Tryd.func45, Tryd.ntmps45
  go_wp2_with fail
  go_region_law (refine step_append_lies _ (by rfl) _ _ _ (by rfl) (b + 1) 46 i0 _ 3 32 Tryd.underlying30 hi0 hz0 hz1 hz2 rfl (by omega) tv m xs (by rfl) ((hown.alloc _).drew) ⟨w.heap.size, 0, none⟩ 1 1 [.int .i64 k, .int .i64 p, .string ⟨x.toArray⟩] (by rfl) (by rfl) (World.news_of_block (cs := #[.int .i64 k, .int .i64 p, .string ⟨x.toArray⟩]) (t := 46) (fr := (0, 0)) (heap_alloc_new w _)) (by simp [Value.oneCell']) (by omega) (by unfold maxLen; omega) (by omega) (by simp; omega) (w.heap.size + 1) (by simp) ?_; intro gg cap w1 hown1 hgrow hat hlt; have hfz : w1.frozen? ⟨b, 1, none⟩ = false := (hgrow.frozen_far ⟨b, 1, none⟩ (by simp; omega) (Ne.symm AG.out)).trans (FA.out _); have hcz : w1.cell? ⟨b, 1, none⟩ = some tv := (hgrow.cell_far ⟨b, 1, none⟩ (by simp; omega) (Ne.symm AG.out)).trans (CA.out _); have hcy : w1.cell? ⟨b, 0, none⟩ = _ := (hgrow.cell_far ⟨b, 0, none⟩ (by simp; omega) (Ne.symm AG.out)).trans (CB.out _); have hfy : w1.frozen? ⟨b, 0, none⟩ = false := (hgrow.frozen_far ⟨b, 0, none⟩ (by simp; omega) (Ne.symm AG.out)).trans (FB.out _))
  all_goals go_wp2
  all_goals go_end0
  all_goals exact ⟨rfl, gg, cap, w1, hown1, (((Below.refl _ _).alloc (by omega) _).drew).grown hgrow (by simp; omega) (fun q hq => (World.ownsRow.lt hown q hq).1), rfl⟩
end Go.Proofs.YtkhpobgknnjbaaaDoor
