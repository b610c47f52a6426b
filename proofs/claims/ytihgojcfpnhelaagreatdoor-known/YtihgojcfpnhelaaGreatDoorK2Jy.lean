import Derived.Test.YtihgojcfpnhelaaGreatDoorK2Ui
set_option maxRecDepth 100000
set_option maxHeartbeats 4000000
set_option linter.unusedVariables false
set_option linter.unusedSimpArgs false
namespace Go.Proofs.YtihgojcfpnhelaaGreatDoor
open Go.RowKit
section
theorem wrapd (d : Nat) (z : Int) (hd : d ≤ 2) (hz : z = ((d + 1 : Nat) : Int)) : wrap64 (z - 1) = (d : Int) := by unfold wrap64; omega
theorem keep_truth (b : Nat) : ∀ (d : Nat), d ≤ 3 → ∀ (r : By) (z : Int) (w : World), FeedAt w b r → z = (d : Int) → Calls Tryz.prog 22 #[.pointer (some ⟨b, 0, none⟩), .int .i64 z] w (SumPost b 2 (truK d r) w)
 | 0, _, r, z, w, h, hz => by
  subst hz
  exact truth0 b r w h
 | d + 1, hd, r, z, w, h, hz => truthS b d r z w h (by omega) (by omega) fun r W hW => keep_truth b d (by omega) r _ W hW (wrapd d z (by omega) hz)
theorem keep_number (b : Nat) : ∀ (d : Nat), d ≤ 3 → ∀ (r : By) (z : Int) (w : World), FeedAt w b r → z = (d : Int) → Calls Tryz.prog 21 #[.pointer (some ⟨b, 0, none⟩), .int .i64 z] w (SumPost b 1 (numK d r) w)
 | 0, _, r, z, w, h, hz => by
  subst hz
  exact number0 b r w h
 | d + 1, hd, r, z, w, h, hz => numberS b d r z w h (by simp; omega) (by omega) (fun W hW => keep_number b d (by omega) r _ W hW (wrapd d z (by omega) hz)) fun r W hW => keep_truth b d (by omega) r _ W hW (wrapd d z (by omega) hz)
end
section
variable {fs fs' : List Fd} {x y : By} {p : Pt} {nms : List By} {W0 w : World} {T : Nat → Prop} {E : List En} {i : Nat}
def zz : By := [122, 122]
end
section
attribute [local go_sem] idx_eq app_eq
variable {W0 w w' W w1 w2 : World} {T T' : Nat → Prop} {e k i : Nat} {a a' : Ab} {s : By} {l : Ln} {fs fs' : List Fd} {nm : List By}
theorem oneD {tx : By} {kd nn : Int} (h : Sts W0 T [⟨e, 0, a⟩] w) (hE : Env W0) (hL : EnvL W0) (hl : IsLn s l) (hr : lnA a l = (⟨0, 0, tx, nm, kd, nn⟩, a')) (hg : a'.grp = none) :
  Calls Tryz.prog 19 #[.pointer (some ⟨e, 0, none⟩), .string ⟨s.toArray⟩] w fun r w' => r = .returned (.bool true) ∧ Lv W0 T [⟨e, 0, a'⟩] w w' :=
 Sts.doesA (E := [⟨e, 0, a⟩]) (i := 0) 0 h hE hL (by simp) (by simp) hl hr (Or.inr hg) rfl rfl
theorem oneW {x : By} (h : Sts W0 T [⟨e, 0, a⟩] w) (hE : Env W0) (hL : EnvL W0) (hg : a.grp = none) (hn : NmOk x) (ho : NmO x) :
  Calls Tryz.prog 24 #[.pointer (some ⟨e, 0, none⟩), .string ⟨x.toArray⟩] w fun r w' => r = .returned (.tuple #[.int .i64 (valA a.fs x).2.1, .int .i64 (valA a.fs x).2.2]) ∧ Lv W0 T [⟨e, 0, a⟩] w w' :=
 Sts.worthA (E := [⟨e, 0, a⟩]) (i := 0) h hE hL (by simp) (by simp) hg hn ho
end
section
variable {W0 w w' : World} {T : Nat → Prop} {e : Nat} {a a' : Ab} {fs fs' : List Fd} {x y : By} {M : Nat}
theorem oneI {x : By} {z : Int} (h : Sts W0 T [⟨e, 0, a⟩] w) (hE : Env W0) (hL : EnvL W0) (hg : a.grp = none) (hn : NmOk x) (ho : NmO x) (hv : (valA a.fs x).2 = (1, z)) :
  Calls Tryz.prog 26 #[.pointer (some ⟨e, 0, none⟩), .string ⟨x.toArray⟩, .int .i64 z] w fun r w' => r = .returned (.bool true) ∧ Lv W0 T [⟨e, 0, a⟩] w w' :=
 Sts.isA (E := [⟨e, 0, a⟩]) (i := 0) h hE hL (by simp) (by simp) hg hn ho hv
end
end Go.Proofs.YtihgojcfpnhelaaGreatDoor
