import Derived.Test.YtihgojcfpnhelaaGreatDoorQl
import Derived.Test.YtihgojcfpnhelaaGreatDoorQf
import Derived.RangeFuncNested
import Derived.RangeFuncBound
import Derived.RangeFuncCalls
import Derived.RangeFuncLeaves
import Derived.RangeFuncBox
import Derived.Shelf.Abstract
import Derived.Shelf.RegionOpen
import Derived.WalkKit
import Derived.OwnWalkIn
import Derived.TacticsInMore
import Derived.LoopNIn
import Derived.LoopIn
import Derived.RegionIn
import Derived.Maps.AppendAt
import Derived.Test.YtihgojcfpnhelaaGreatDoorRows
set_option linter.unusedVariables false
set_option linter.unusedSimpArgs false
namespace Go.Proofs.YtihgojcfpnhelaaGreatDoor
open Go.RowKit

/-- A line that sets a field of one letter is read so. -/
theorem line_setN (nm : By) (h : NmOk nm) (rest : By) (rts : List (By × Nat)) (p : Pt) (hl : rest.length + nm.length ≤ 113) (ht : toks (rest.length + nm.length + 1) rest (4 + nm.length + 3) = (rts, none)) (hD : Der rts 1 0 rts.length p) (ho : opn p ≤ 6) (hx : (txt p).length ≤ 100) (r : LnR) (hr : LineP (setN nm rest) r) : r = .ok 1 [nm] (some p) := by
  have hkn := h.k2
  have hnn := h.nmb
  have htk := toks_setN nm h rest
  rw [ht] at htk
  have hok : OkT rts := by
    have := (okT_of (setN nm rest)).drop 3
    rw [htk] at this
    exact this
  rcases hr with ⟨h1, _⟩ | ⟨_, q, h1, _⟩ | ⟨_, ts, h1, h2⟩
  · simp [setN] at h1
    omega
  · rw [htk] at h1
    cases h1
  · rw [htk] at h1
    simp only [Prod.mk.injEq, and_true] at h1
    subst h1
    have n0 : nT (([115, 101, 116], 0) :: (nm, 4) :: ([61], 4 + nm.length + 1) :: rts) 0 = [115, 101, 116] := by
      simp [nT, tAt]
      decide
    have k1 : kN (([115, 101, 116], 0) :: (nm, 4) :: ([61], 4 + nm.length + 1) :: rts) (1 + 0) = 2 := by simp [kN, tAt, hkn]
    have k2 : kN (([115, 101, 116], 0) :: (nm, 4) :: ([61], 4 + nm.length + 1) :: rts) (1 + 1) = 18 := by
      simp [kN, tAt]
      decide
    have nms : namesT (([115, 101, 116], 0) :: (nm, 4) :: ([61], 4 + nm.length + 1) :: rts) 1 1 = [nm] := by simp [namesT, nT, tAt, hnn]
    have hdr : (([115, 101, 116], 0) :: (nm, 4) :: ([61], 4 + nm.length + 1) :: rts).drop (2 + 1) = rts := rfl
    rcases h2 with ⟨k, hk, he, hh⟩ | ⟨hno, _⟩
    · rw [n0] at he
      obtain rfl := heads_set k hk he
      rcases hh with ⟨j, hj, _, hne, _⟩ | ⟨_, hh⟩
      · obtain rfl : j = 0 := by have : j < 1 := hj; omega
        exact absurd k1 hne
      · rcases hh with ⟨h3, _⟩ | ⟨h3, _⟩ | ⟨_, h3, _⟩ | ⟨_, _, er, q, n0', _, hrun, hcase⟩
        · cases h3
        · cases h3
        · exact absurd k2 h3
        · have e1 : (([115, 101, 116], 0) :: (nm, 4) :: ([61], 4 + nm.length + 1) :: rts).drop (2 + (headsW[0]'hk).2.2.1) = rts := rfl
          rw [e1] at hrun hcase
          obtain ⟨rfl, rfl⟩ := hD.run hok ho hrun
          have htold := (hD.told hok rfl).2.2
          rcases hcase with ⟨h4, _⟩ | ⟨_, _, h4, _⟩ | ⟨_, _, t, hDt, _, _, h5⟩
          · exact absurd rfl h4
          · rw [htold] at h4
            have : (toldTo rts 0).length = 0 := rfl
            simp [toldTo] at h4
            omega
          · rw [hDt.uniq hD] at h5
            rw [h5]
            exact congrArg (fun n => LnR.ok 1 n (some p)) nms
    · exact absurd n0.symm (hno 0 (by decide))

end Go.Proofs.YtihgojcfpnhelaaGreatDoor
namespace Go.Proofs.YtihgojcfpnhelaaGreatDoor
open Go.RowKit

/-- A sheet: the order, and what lies in each field's block. -/
structure Sta where
  ord : List Nat
  mem : Nat → Fd

/-- What is written when an edit is taken back, or done again. -/
inductive Wr
  | ord (l : List Nat)
  | nm (b : Nat) (x : By)
  | rl (b : Nat) (p : Pt)
  | vl (b : Nat) (v : Vl)

def Sta.put (σ : Sta) (b : Nat) (f : Fd) : Sta := ⟨σ.ord, fun q => if q = b then f else σ.mem q⟩

def wr1 (σ : Sta) : Wr → Sta
  | .ord l => ⟨l, σ.mem⟩
  | .nm b x => σ.put b ⟨x, (σ.mem b).p, (σ.mem b).v⟩
  | .rl b p => σ.put b ⟨(σ.mem b).nm, p, (σ.mem b).v⟩
  | .vl b v => σ.put b ⟨(σ.mem b).nm, (σ.mem b).p, v⟩
def iw1 (σ : Sta) : Wr → Wr
  | .ord _ => .ord σ.ord
  | .nm b _ => .nm b (σ.mem b).nm
  | .rl b _ => .rl b (σ.mem b).p
  | .vl b _ => .vl b (σ.mem b).v
/-- What stands behind writes. -/
def runW : List Wr → Sta → Sta
  | [], σ => σ
  | u :: r, σ => runW r (wr1 σ u)
/-- What takes writes back, in its order. -/
def invW : List Wr → Sta → List Wr
  | [], _ => []
  | u :: r, σ => invW r (wr1 σ u) ++ [iw1 σ u]

theorem put_put (σ : Sta) (b : Nat) (f g : Fd) : (σ.put b f).put b g = σ.put b g := by
  unfold Sta.put
  congr 1
  funext q
  by_cases h : q = b <;> simp [h]
theorem put_self (σ : Sta) (b : Nat) : σ.put b (σ.mem b) = σ := by
  cases σ with
  | mk o m =>
    unfold Sta.put
    congr 1
    funext q
    by_cases h : q = b <;> simp [h]
theorem put_mem (σ : Sta) (b : Nat) (f : Fd) : (σ.put b f).mem b = f := by simp [Sta.put]
theorem put_mem_ne (σ : Sta) (b q : Nat) (f : Fd) (h : q ≠ b) : (σ.put b f).mem q = σ.mem q := by simp [Sta.put, h]

theorem wr1_back (σ : Sta) (u : Wr) : wr1 (wr1 σ u) (iw1 σ u) = σ := by
  cases u with
  | ord l => rfl
  | nm b x => simp only [wr1, iw1, put_mem, put_put]; exact put_self σ b
  | rl b x => simp only [wr1, iw1, put_mem, put_put]; exact put_self σ b
  | vl b x => simp only [wr1, iw1, put_mem, put_put]; exact put_self σ b
theorem runW_app (a b : List Wr) : ∀ σ, runW (a ++ b) σ = runW b (runW a σ) := by
  induction a with
  | nil => intro σ; rfl
  | cons u r ih => intro σ; exact ih _
theorem invW_app (a b : List Wr) : ∀ σ, invW (a ++ b) σ = invW b (runW a σ) ++ invW a σ := by
  induction a with
  | nil => intro σ; simp [invW, runW]
  | cons u r ih => intro σ; simp only [List.cons_append, invW, runW, ih, List.append_assoc]
theorem run_inv (us : List Wr) : ∀ σ, runW (invW us σ) (runW us σ) = σ := by
  induction us with
  | nil => intro σ; rfl
  | cons u r ih => intro σ; simp only [invW, runW, runW_app, ih, wr1_back]
/-- A row of pointers to fields, in a block that is never written again. -/
def RowAt (w : World) (S : Nat → Prop) (a : Option Addr) (l : List Nat) : Prop :=
  ∀ j (h : j < l.length), ∃ g o, a = some ⟨g, o, none⟩ ∧ S g ∧ w.cell? ⟨g, o + j, none⟩ = some (.pointer (some ⟨l[j], 0, none⟩))

theorem RowAt.next {w w' : World} {S : Nat → Prop} {a : Option Addr} {l : List Nat} (h : RowAt w S a l) (hh : ∀ q, S q → w'.heap[q]? = w.heap[q]?) : RowAt w' S a l := fun j hj => by
  obtain ⟨g, o, h1, h2, h3⟩ := h j hj
  exact ⟨g, o, h1, h2, (World.cell?_of_block (a := ⟨g, o + j, none⟩) (hh g h2)).trans h3⟩
theorem RowAt.wide {w : World} {S S' : Nat → Prop} {a : Option Addr} {l : List Nat} (h : RowAt w S a l) (hh : ∀ q, S q → S' q) : RowAt w S' a l := fun j hj => by
  obtain ⟨g, o, h1, h2, h3⟩ := h j hj
  exact ⟨g, o, h1, hh g h2, h3⟩

/-- The sheet of an editor in block e: the order, and all fields that there ever were (D). -/
structure PhS (w : World) (S : Nat → Prop) (e : Nat) (D : Nat → Prop) (σ : Sta) (v1 v2 v3 v4 v5 : Value) (te : TypeId) : Prop where
  still : ∀ q, S q → q < w.heap.size
  eS : ¬ S e
  eD : ¬ D e
  fld : ∀ b, D b → FdAt w S b (σ.mem b)
  sub : ∀ b, b ∈ σ.ord → D b
  row : ∃ a c, RowAt w S a σ.ord ∧ σ.ord.length ≤ c ∧ (a = none → c = 0) ∧ w.heap[e]? = some (.cells #[.slice a σ.ord.length c, v1, v2, v3, v4, v5] te (0, 0))

/-- The fields in their order. -/
def Sta.fs (σ : Sta) : List (Nat × Fd) := σ.ord.map fun b => (b, σ.mem b)

theorem PhS.sh {w : World} {S : Nat → Prop} {e : Nat} {D : Nat → Prop} {σ : Sta} {v1 v2 v3 v4 v5 : Value} {te : TypeId} (h : PhS w S e D σ v1 v2 v3 v4 v5 te) : ∃ a c, Sh w S a σ.fs ∧ σ.fs.length ≤ c ∧ (a = none → c = 0) ∧ w.heap[e]? = some (.cells #[.slice a σ.fs.length c, v1, v2, v3, v4, v5] te (0, 0)) := by
  obtain ⟨a, c, h1, h2, h3, h4⟩ := h.row
  have hl : σ.fs.length = σ.ord.length := by simp [Sta.fs]
  refine ⟨a, c, ⟨h.still, fun j hj => ?_, fun x hx => ?_⟩, by rw [hl]; exact h2, h3, by rw [hl]; exact h4⟩
  · obtain ⟨g, o, k1, k2, k3⟩ := h1 j (by omega)
    exact ⟨g, o, k1, k2, by simpa [Sta.fs] using k3⟩
  · obtain ⟨b, hb, rfl⟩ := List.mem_map.1 hx
    exact h.fld b (h.sub b hb)

/-- A function value that takes something back: what it writes, in its order. -/
inductive BkAt (e : Nat) (D : Nat → Prop) (w : World) (S : Nat → Prop) : Nat → Array Value → List Wr → Prop
  | ord (g1 g2 : Nat) (a : Option Addr) (c : Nat) (l : List Nat) : S g1 → S g2 → w.heap[g1]? = some (.cells #[.pointer (some ⟨e, 0, none⟩)] 253 (0, 0)) → w.heap[g2]? = some (.cells #[.slice a l.length c] 101 (0, 0)) → RowAt w S a l → l.length ≤ c → (a = none → c = 0) → (∀ b, b ∈ l → D b) →
      BkAt e D w S 192 #[.pointer (some ⟨g1, 0, none⟩), .pointer (some ⟨g2, 0, none⟩)] [.ord l]
  | nm (g1 g2 b : Nat) (x : By) : S g1 → S g2 → w.heap[g1]? = some (.cells #[.pointer (some ⟨b, 0, none⟩)] 291 (0, 0)) → w.heap[g2]? = some (.cells #[.string ⟨x.toArray⟩] 9 (0, 0)) → D b →
      BkAt e D w S 221 #[.pointer (some ⟨g1, 0, none⟩), .pointer (some ⟨g2, 0, none⟩)] [.nm b x]
  | rl (g1 g2 b : Nat) (p : Pt) (a : Option Addr) (l c : Nat) : S g1 → S g2 → w.heap[g1]? = some (.cells #[.pointer (some ⟨b, 1, none⟩)] 251 (0, 0)) → w.heap[g2]? = some (.cells #[.int .i64 (p.k : Int), .string ⟨p.nm.toArray⟩, .int .i64 (p.n : Int), .slice a l c] 89 (0, 0)) → PIs w S p a l c → Shape p → Good p → (txt p).length ≤ 100 → D b →
      BkAt e D w S 191 #[.pointer (some ⟨g1, 0, none⟩), .pointer (some ⟨g2, 0, none⟩)] [.rl b p]
  | vl (g1 g2 b : Nat) (v : Vl) : S g1 → S g2 → w.heap[g1]? = some (.cells #[.pointer (some ⟨b, 5, none⟩)] 287 (0, 0)) → w.heap[g2]? = some (.cells #[.int .i64 v.1, .int .i64 v.2] 177 (0, 0)) → D b →
      BkAt e D w S 219 #[.pointer (some ⟨g1, 0, none⟩), .pointer (some ⟨g2, 0, none⟩)] [.vl b v]
  | all (g : Nat) (a : Option Addr) (n c : Nat) (N : Nat → Nat) (cs : Nat → Array Value) (us : Nat → List Wr) : S g → w.heap[g]? = some (.cells #[.slice a n c] 104 (0, 0)) → n ≤ c → (n = 0 ∨ ∃ h o, a = some ⟨h, o, none⟩ ∧ S h) → n * 8 ≤ 140737488355328 →
      (∀ i, i < n → ∀ h o, a = some ⟨h, o, none⟩ → w.cell? ⟨h, o + i, none⟩ = some (.func (.func (N i)) #[] (cs i))) → (∀ i, i < n → BkAt e D w S (N i) (cs i) (us i)) →
      BkAt e D w S 106 #[.pointer (some ⟨g, 0, none⟩)] ((List.range n).reverse.flatMap us)

theorem BkAt.next {e : Nat} {D : Nat → Prop} {w w' : World} {S : Nat → Prop} {N : Nat} {cs : Array Value} {us : List Wr} (h : BkAt e D w S N cs us) (hh : ∀ q, S q → w'.heap[q]? = w.heap[q]?) : BkAt e D w' S N cs us := by
  induction h with
  | ord g1 g2 a c l h1 h2 h3 h4 h5 h6 h7 h8 => exact .ord g1 g2 a c l h1 h2 ((hh _ h1).trans h3) ((hh _ h2).trans h4) (h5.next hh) h6 h7 h8
  | nm g1 g2 b x h1 h2 h3 h4 h5 => exact .nm g1 g2 b x h1 h2 ((hh _ h1).trans h3) ((hh _ h2).trans h4) h5
  | rl g1 g2 b p a l c h1 h2 h3 h4 h5 h6 h7 h8 h9 => exact .rl g1 g2 b p a l c h1 h2 ((hh _ h1).trans h3) ((hh _ h2).trans h4) (h5.next hh) h6 h7 h8 h9
  | vl g1 g2 b v h1 h2 h3 h4 h5 => exact .vl g1 g2 b v h1 h2 ((hh _ h1).trans h3) ((hh _ h2).trans h4) h5
  | all g a n c N cs us h1 h2 h3 h4 h5 h6 _ ih =>
    refine .all g a n c N cs us h1 ((hh _ h1).trans h2) h3 h4 h5 (fun i hi h o e' => ?_) ih
    rcases h4 with h4 | ⟨g', o', h4, h4'⟩
    · omega
    · rw [e'] at h4
      cases h4
      exact (World.cell?_of_block (a := ⟨h, o + i, none⟩) (hh h h4')).trans (h6 i hi h o e')

theorem BkAt.wide {e : Nat} {D D' : Nat → Prop} {w : World} {S S' : Nat → Prop} {N : Nat} {cs : Array Value} {us : List Wr} (h : BkAt e D w S N cs us) (hh : ∀ q, S q → S' q) (hD : ∀ q, D q → D' q) : BkAt e D' w S' N cs us := by
  induction h with
  | ord g1 g2 a c l h1 h2 h3 h4 h5 h6 h7 h8 => exact .ord g1 g2 a c l (hh _ h1) (hh _ h2) h3 h4 (h5.wide hh) h6 h7 fun b hb => hD b (h8 b hb)
  | nm g1 g2 b x h1 h2 h3 h4 h5 => exact .nm g1 g2 b x (hh _ h1) (hh _ h2) h3 h4 (hD b h5)
  | rl g1 g2 b p a l c h1 h2 h3 h4 h5 h6 h7 h8 h9 => exact .rl g1 g2 b p a l c (hh _ h1) (hh _ h2) h3 h4 (h5.wide hh) h6 h7 h8 (hD b h9)
  | vl g1 g2 b v h1 h2 h3 h4 h5 => exact .vl g1 g2 b v (hh _ h1) (hh _ h2) h3 h4 (hD b h5)
  | all g a n c N cs us h1 h2 h3 h4 h5 h6 _ ih =>
    refine .all g a n c N cs us (hh _ h1) h2 h3 (h4.imp id ?_) h5 h6 ih
    rintro ⟨h, o, e1, e2⟩
    exact ⟨h, o, e1, hh h e2⟩

/-- Such a function is called as any other. -/
theorem BkAt.enters {e : Nat} {D : Nat → Prop} {w : World} {S : Nat → Prop} {N : Nat} {cs : Array Value} {us : List Wr} (h : BkAt e D w S N cs us) : ∀ args w, (callFunc N args).run Tryz.prog w = .ok (.enter N args) w := by
  cases h with
  | ord => exact enters_of Tryz.func192 (by kernel_rfl) rfl
  | nm => exact enters_of Tryz.func221 (by kernel_rfl) rfl
  | rl => exact enters_of Tryz.func191 (by kernel_rfl) rfl
  | vl => exact enters_of Tryz.func219 (by kernel_rfl) rfl
  | all => exact enters_of Tryz.func106 (by kernel_rfl) rfl

/-- What is left by a call that takes something back; O: the blocks that may be still from now on. -/
def BkPostO (S O : Nat → Prop) (e : Nat) (D : Nat → Prop) (σ : Sta) (us : List Wr) (v1 v2 v3 v4 v5 : Value) (te : TypeId) (w : World) (r : Ending) (w' : World) : Prop :=
  ∃ (N' : Nat) (cs' : Array Value) (S' : Nat → Prop), r = .returned (.func (.func N') #[] cs') ∧ (∀ q, S q → S' q) ∧ (∀ q, S' q → S q ∨ (O q ∧ ∃ c t z, w'.heap[q]? = some (.cells c t z))) ∧ PhS w' S' e D (runW us σ) v1 v2 v3 v4 v5 te ∧ BkAt e D w' S' N' cs' (invW us σ) ∧ Ks (fun q => q = e ∨ D q) w w'

def BkPost (S : Nat → Prop) (e : Nat) (D : Nat → Prop) (σ : Sta) (us : List Wr) (v1 v2 v3 v4 v5 : Value) (te : TypeId) (w : World) (r : Ending) (w' : World) : Prop := BkPostO S (fun q => w.heap.size ≤ q) e D σ us v1 v2 v3 v4 v5 te w r w'
end Go.Proofs.YtihgojcfpnhelaaGreatDoor
namespace Go.Proofs.YtihgojcfpnhelaaGreatDoor
open Go.RowKit
variable {w w' : World} {S S' : Nat → Prop} {e b : Nat} {D : Nat → Prop} {σ : Sta} {v1 v2 v3 v4 v5 : Value} {te : TypeId}

theorem PhS.lt (h : PhS w S e D σ v1 v2 v3 v4 v5 te) : e < w.heap.size := by
  obtain ⟨a, c, _, _, _, h4⟩ := h.row
  exact (Array.getElem?_eq_some_iff.1 h4).1

theorem FdAt.more {f : Fd} (h : FdAt w S b f) (hs : ∀ q, S q → S' q) (hb : ¬ S' b) : FdAt w S' b f := by
  obtain ⟨_, h2, h3, h4, a, l, c, h5, h6⟩ := h
  exact ⟨hb, h2, h3, h4, a, l, c, h5, h6.wide hs⟩

theorem own_ke {P : Nat → Prop} {w w' : World} {base z n : Nat} {e : TypeId} {v : Value} {xs : List Value} (h : w.ownsRow base e z v n xs) (hk : Ks P w w') (hP : ∀ q, v.ownBlock = some q → ¬ P q) : w'.ownsRow base e z v n xs := by
  obtain ⟨h1, h2⟩ := h
  refine ⟨h1, h2.imp id ?_⟩
  rintro ⟨g, cap, cur, rfl, h4, h5, h6⟩
  exact ⟨g, cap, cur, rfl, h4, (hk.block g (Array.getElem?_eq_some_iff.1 h5).1 (hP g rfl)).trans h5, h6⟩

/-- A field is written. -/
theorem PhS.fldPut (h : PhS w S e D σ v1 v2 v3 v4 v5 te) (hb : D b) (f : Fd) (hf : FdAt w' S' b f) (hk : Ks (fun q => q = b) w w') (hS : ∀ q, S q → S' q) (hS' : ∀ q, S' q → S q ∨ (w.heap.size ≤ q ∧ q < w'.heap.size)) : PhS w' S' e D (σ.put b f) v1 v2 v3 v4 v5 te := by
  have hel := h.lt
  have hne : e ≠ b := fun e' => h.eD (e' ▸ hb)
  have blk : ∀ q, S q → w'.heap[q]? = w.heap[q]? := fun q hq => hk.block q (h.still q hq) (fun e' => (h.fld b hb).1 (e' ▸ hq))
  refine ⟨fun q hq => ?_, fun hq => ?_, h.eD, fun q hq => ?_, h.sub, ?_⟩
  · rcases hS' q hq with h1 | h1
    · exact Nat.lt_of_lt_of_le (h.still q h1) hk.size
    · exact h1.2
  · rcases hS' e hq with h1 | h1
    · exact h.eS h1
    · omega
  · by_cases e' : q = b
    · subst e'
      rw [put_mem]
      exact hf
    · rw [put_mem_ne _ _ _ _ e']
      have hq' := h.fld q hq
      refine (hq'.stays (hk.block q hq'.lt e') blk).more hS fun h1 => ?_
      rcases hS' q h1 with h2 | h2
      · exact hq'.1 h2
      · have := hq'.lt; omega
  · obtain ⟨a, c, h1, h2, h3, h4⟩ := h.row
    exact ⟨a, c, (h1.next blk).wide hS, h2, h3, (hk.block e hel hne).trans h4⟩

/-- The order is written. -/
theorem PhS.ordPut (h : PhS w S e D σ v1 v2 v3 v4 v5 te) (l : List Nat) (a : Option Addr) (c : Nat) (hl : ∀ b, b ∈ l → D b) (hr : RowAt w S a l) (hc : l.length ≤ c) (hn : a = none → c = 0) (he : w'.heap[e]? = some (.cells #[.slice a l.length c, v1, v2, v3, v4, v5] te (0, 0))) (hk : Ks (fun q => q = e) w w') (hS : ∀ q, S q → S' q) (hS' : ∀ q, S' q → S q ∨ (w.heap.size ≤ q ∧ q < w'.heap.size)) : PhS w' S' e D ⟨l, σ.mem⟩ v1 v2 v3 v4 v5 te := by
  have hel := h.lt
  have blk : ∀ q, S q → w'.heap[q]? = w.heap[q]? := fun q hq => hk.block q (h.still q hq) (fun e' => h.eS (e' ▸ hq))
  refine ⟨fun q hq => ?_, fun hq => ?_, h.eD, fun q hq => ?_, hl, a, c, (hr.next blk).wide hS, hc, hn, he⟩
  · rcases hS' q hq with h1 | h1
    · exact Nat.lt_of_lt_of_le (h.still q h1) hk.size
    · exact h1.2
  · rcases hS' e hq with h1 | h1
    · exact h.eS h1
    · omega
  · have hq' := h.fld q hq
    refine (hq'.stays (hk.block q hq'.lt (fun e' => h.eD (e' ▸ hq))) blk).more hS fun h1 => ?_
    rcases hS' q h1 with h2 | h2
    · exact hq'.1 h2
    · have := hq'.lt; omega

theorem PhS.next (h : PhS w S e D σ v1 v2 v3 v4 v5 te) (hb : Below w.heap.size w w') : PhS w' S e D σ v1 v2 v3 v4 v5 te := by
  obtain ⟨a, c, h1, h2, h3, h4⟩ := h.row
  exact ⟨fun q hq => Nat.lt_of_lt_of_le (h.still q hq) hb.size, h.eS, h.eD, fun q hq => (h.fld q hq).next h.still hb, h.sub, a, c, h1.next (fun q hq => hb.block q (h.still q hq)), h2, h3, (hb.block e h.lt).trans h4⟩

theorem PhS.same (h : PhS w S e D σ v1 v2 v3 v4 v5 te) (hh : ∀ q, (S q ∨ q = e ∨ D q) → w'.heap[q]? = w.heap[q]?) (hs : w.heap.size ≤ w'.heap.size) : PhS w' S e D σ v1 v2 v3 v4 v5 te := by
  obtain ⟨a, c, h1, h2, h3, h4⟩ := h.row
  exact ⟨fun q hq => Nat.lt_of_lt_of_le (h.still q hq) hs, h.eS, h.eD, fun q hq => (h.fld q hq).stays (hh q (Or.inr (Or.inr hq))) fun q hq => hh q (Or.inl hq), h.sub, a, c, h1.next (fun q hq => hh q (Or.inl hq)), h2, h3, (hh e (Or.inr (Or.inl rfl))).trans h4⟩

theorem BkAt.later {N : Nat} {cs : Array Value} {us : List Wr} (h : BkAt e D w S N cs us) (hS : ∀ q, S q → q < w.heap.size) (hb : Below w.heap.size w w') : BkAt e D w' S N cs us := h.next fun q hq => hb.block q (hS q hq)

theorem PhS.notP (h : PhS w S e D σ v1 v2 v3 v4 v5 te) : ∀ q, S q → ¬ (q = e ∨ D q) := fun q hq hh => by
  rcases hh with rfl | hh
  · exact h.eS hq
  · exact (h.fld q hh).1 hq

/-- Two new blocks more that are never written again. -/
def S2 (S : Nat → Prop) (g1 g2 : Nat) (q : Nat) : Prop := S q ∨ q = g1 ∨ q = g2

theorem S2_old {g1 g2 : Nat} (q : Nat) (h : S q) : S2 S g1 g2 q := Or.inl h
theorem S2_new {g1 g2 : Nat} {c1 c2 : Array Value} {t1 t2 : TypeId} {z1 z2 : Nat × Nat} (h1 : w.heap.size ≤ g1) (h2 : w.heap.size ≤ g2) (k1 : w'.heap[g1]? = some (.cells c1 t1 z1)) (k2 : w'.heap[g2]? = some (.cells c2 t2 z2)) (q : Nat) (h : S2 S g1 g2 q) : S q ∨ (w.heap.size ≤ q ∧ ∃ c t z, w'.heap[q]? = some (.cells c t z)) := by
  rcases h with h | rfl | rfl
  · exact Or.inl h
  · exact Or.inr ⟨h1, _, _, _, k1⟩
  · exact Or.inr ⟨h2, _, _, _, k2⟩
theorem S2_lt {g1 g2 : Nat} {c1 c2 : Array Value} {t1 t2 : TypeId} {z1 z2 : Nat × Nat} (h1 : w.heap.size ≤ g1) (h2 : w.heap.size ≤ g2) (k1 : w'.heap[g1]? = some (.cells c1 t1 z1)) (k2 : w'.heap[g2]? = some (.cells c2 t2 z2)) (q : Nat) (h : S2 S g1 g2 q) : S q ∨ (w.heap.size ≤ q ∧ q < w'.heap.size) := by
  rcases h with h | rfl | rfl
  · exact Or.inl h
  · exact Or.inr ⟨h1, (Array.getElem?_eq_some_iff.1 k1).1⟩
  · exact Or.inr ⟨h2, (Array.getElem?_eq_some_iff.1 k2).1⟩

/-- Put of an order. -/
theorem putOrd (h : PhS w S e D σ v1 v2 v3 v4 v5 te) (l : List Nat) (a : Option Addr) (c : Nat) (hl : ∀ b, b ∈ l → D b) (hr : RowAt w S a l) (hc : l.length ≤ c) (hn : a = none → c = 0) :
    Calls Tryz.prog 163 #[.pointer (some ⟨e, 0, none⟩), .slice a l.length c] w (BkPost S e D σ [.ord l] v1 v2 v3 v4 v5 te w) := by
  obtain ⟨a0, c0, r1, r2, r3, r4⟩ := h.row
  refine (putOrderX e a0 σ.ord.length c0 a l.length c v1 v2 v3 v4 v5 te w r4).mono ?_
  rintro r w' ⟨g1, g2, rfl, he, hk, k1, k2, k3, k4⟩
  have blk : ∀ q, S q → w'.heap[q]? = w.heap[q]? := fun q hq => hk.block q (h.still q hq) (fun e' => h.eS (e' ▸ hq))
  refine ⟨_, _, S2 S g1 g2, rfl, S2_old, S2_new k1 k2 k3 k4, h.ordPut l a c hl hr hc hn he hk S2_old (S2_lt k1 k2 k3 k4), ?_, hk.wide fun q hq => Or.inl hq⟩
  exact .ord g1 g2 a0 c0 σ.ord (Or.inr (Or.inl rfl)) (Or.inr (Or.inr rfl)) k3 k4 ((r1.next blk).wide S2_old) r2 r3 h.sub

theorem FdAt.open {f : Fd} (h : FdAt w S b f) : ∃ (a : Option Addr) (l c : Nat), w.heap[b]? = some (.cells #[.string ⟨f.nm.toArray⟩, .int .i64 (f.p.k : Int), .string ⟨f.p.nm.toArray⟩, .int .i64 (f.p.n : Int), .slice a l c, .int .i64 f.v.1, .int .i64 f.v.2] 223 (0, 0)) ∧ PIs w S f.p a l c := h.2.2.2.2

/-- Put of a rule. -/
theorem putRl (h : PhS w S e D σ v1 v2 v3 v4 v5 te) (hb : D b) (p : Pt) (a : Option Addr) (l c : Nat) (hp : PIs w S p a l c) (hsh : Shape p) (hgd : Good p) (htx : (txt p).length ≤ 100) :
    Calls Tryz.prog 162 #[.pointer (some ⟨b, 1, none⟩), .agg #[.int .i64 (p.k : Int), .string ⟨p.nm.toArray⟩, .int .i64 (p.n : Int), .slice a l c]] w (BkPost S e D σ [.rl b p] v1 v2 v3 v4 v5 te w) := by
  have hF := h.fld b hb
  have hF' := hF
  obtain ⟨f1, f2, f3, f4, a0, l0, c0, r1, r2⟩ := hF
  refine (putRule b _ _ _ _ _ _ a0 l0 c0 p.k p.nm p.n a l c _ w r1).mono ?_
  rintro r w' ⟨g1, g2, rfl, k1, k2, _, k3, k4, hrow, hk⟩
  have blk : ∀ q, S q → w'.heap[q]? = w.heap[q]? := fun q hq => hk.block q (h.still q hq) (fun e' => f1 (e' ▸ hq))
  have hbl := hF'.lt
  refine ⟨_, _, S2 S g1 g2, rfl, S2_old, S2_new k1 k2 k3 k4, h.fldPut hb _ ⟨?_, hsh, hgd, htx, a, l, c, hrow, (hp.next blk).wide S2_old⟩ hk S2_old (S2_lt k1 k2 k3 k4), ?_, hk.wide fun q hq => Or.inr (by rw [show q = b from hq]; exact hb)⟩
  · rintro (h1 | h1 | h1)
    · exact f1 h1
    · omega
    · omega
  · exact .rl g1 g2 b _ a0 l0 c0 (Or.inr (Or.inl rfl)) (Or.inr (Or.inr rfl)) k3 k4 ((r2.next blk).wide S2_old) f2 f3 f4 hb

/-- Put of what a field is worth. -/
theorem putVlX (h : PhS w S e D σ v1 v2 v3 v4 v5 te) (hb : D b) (v : Vl) {a0 : Option Addr} {l0 c0 : Nat} (r1 : w.heap[b]? = some (.cells #[.string ⟨(σ.mem b).nm.toArray⟩, .int .i64 ((σ.mem b).p.k : Int), .string ⟨(σ.mem b).p.nm.toArray⟩, .int .i64 ((σ.mem b).p.n : Int), .slice a0 l0 c0, .int .i64 (σ.mem b).v.1, .int .i64 (σ.mem b).v.2] 223 (0, 0))) (r2 : PIs w S (σ.mem b).p a0 l0 c0) :
    Calls Tryz.prog 196 #[.pointer (some ⟨b, 5, none⟩), .agg #[.int .i64 v.1, .int .i64 v.2]] w fun r w' => BkPost S e D σ [.vl b v] v1 v2 v3 v4 v5 te w r w' ∧ w'.heap[b]? = some (.cells #[.string ⟨(σ.mem b).nm.toArray⟩, .int .i64 ((σ.mem b).p.k : Int), .string ⟨(σ.mem b).p.nm.toArray⟩, .int .i64 ((σ.mem b).p.n : Int), .slice a0 l0 c0, .int .i64 v.1, .int .i64 v.2] 223 (0, 0)) := by
  have hF := h.fld b hb
  obtain ⟨f1, f2, f3, f4, _⟩ := hF
  obtain ⟨⟨k0, k1, k2, k3, k4, k5, k6⟩, hfz, hbl⟩ := row7 r1
  refine (putValue b _ _ v.1 v.2 w k5 k6 (hfz 5) (hfz 6) hbl).mono ?_
  rintro r w' ⟨rfl, rfl⟩
  have hk : Ks (fun q => q = b) w ((((w.setCell ⟨b, 5, none⟩ (.int .i64 v.1)).setCell ⟨b, 6, none⟩ (.int .i64 v.2)).alloc (.cells #[.pointer (some ⟨b, 5, none⟩)] 287)).alloc (.cells #[.int .i64 v.1, .int .i64 v.2] 177)|>.alloc (.cells #[.int .i64 (σ.mem b).v.1, .int .i64 (σ.mem b).v.2] 177)) := (((((Ks.refl (fun q => q = b) w).set b 5 _ rfl).set b 6 _ rfl).alloc _).alloc _).alloc _
  have j3 := alloc3_0 ((w.setCell ⟨b, 5, none⟩ (.int .i64 v.1)).setCell ⟨b, 6, none⟩ (.int .i64 v.2)) (.cells #[.pointer (some ⟨b, 5, none⟩)] 287) (.cells #[.int .i64 v.1, .int .i64 v.2] 177) (.cells #[.int .i64 (σ.mem b).v.1, .int .i64 (σ.mem b).v.2] 177)
  have j4 := alloc3_new ((w.setCell ⟨b, 5, none⟩ (.int .i64 v.1)).setCell ⟨b, 6, none⟩ (.int .i64 v.2)) (.cells #[.pointer (some ⟨b, 5, none⟩)] 287) (.cells #[.int .i64 v.1, .int .i64 v.2] 177) #[.int .i64 (σ.mem b).v.1, .int .i64 (σ.mem b).v.2] 177
  have jr := alloc3_old ((w.setCell ⟨b, 5, none⟩ (.int .i64 v.1)).setCell ⟨b, 6, none⟩ (.int .i64 v.2)) (.cells #[.pointer (some ⟨b, 5, none⟩)] 287) (.cells #[.int .i64 v.1, .int .i64 v.2] 177) (.cells #[.int .i64 (σ.mem b).v.1, .int .i64 (σ.mem b).v.2] 177) b (by simpa using hbl)
  rw [setCell_block (setCell_block r1 _ _)] at jr
  simp only [World.size_setCell] at j3 j4
  generalize ((((w.setCell ⟨b, 5, none⟩ (.int .i64 v.1)).setCell ⟨b, 6, none⟩ (.int .i64 v.2)).alloc (.cells #[.pointer (some ⟨b, 5, none⟩)] 287)).alloc (.cells #[.int .i64 v.1, .int .i64 v.2] 177)|>.alloc (.cells #[.int .i64 (σ.mem b).v.1, .int .i64 (σ.mem b).v.2] 177)) = w' at *
  have blk : ∀ q, S q → w'.heap[q]? = w.heap[q]? := fun q hq => hk.block q (h.still q hq) (fun e' => f1 (e' ▸ hq))
  have q2 : w.heap.size ≤ w.heap.size + 1 + 1 := by omega
  refine ⟨⟨_, _, S2 S w.heap.size (w.heap.size + 1 + 1), rfl, S2_old, S2_new (Nat.le_refl _) q2 j3 j4, h.fldPut hb _ ⟨?_, f2, f3, f4, a0, l0, c0, jr, (r2.next blk).wide S2_old⟩ hk S2_old (S2_lt (Nat.le_refl _) q2 j3 j4), ?_, hk.wide fun q hq => Or.inr (by rw [show q = b from hq]; exact hb)⟩, jr⟩
  · rintro (h1 | h1 | h1)
    · exact f1 h1
    · omega
    · omega
  · exact .vl _ _ b _ (Or.inr (Or.inl rfl)) (Or.inr (Or.inr rfl)) j3 j4 hb

theorem putVl (h : PhS w S e D σ v1 v2 v3 v4 v5 te) (hb : D b) (v : Vl) :
    Calls Tryz.prog 196 #[.pointer (some ⟨b, 5, none⟩), .agg #[.int .i64 v.1, .int .i64 v.2]] w (BkPost S e D σ [.vl b v] v1 v2 v3 v4 v5 te w) := by
  obtain ⟨_, _, _, _, a0, l0, c0, r1, r2⟩ := h.fld b hb
  exact (putVlX h hb v r1 r2).mono fun _ _ h => h.1

set_option maxRecDepth 100000 in
set_option maxHeartbeats 4000000 in
theorem putName (q : Nat) (x x' : By) (w : World) (hc : w.cell? ⟨q, 0, none⟩ = some (.string ⟨x.toArray⟩)) (hf : w.frozen? ⟨q, 0, none⟩ = false) (hq : q < w.heap.size) :
    Calls Tryz.prog 199 #[.pointer (some ⟨q, 0, none⟩), .string ⟨x'.toArray⟩] w fun e w' => e = .returned (.func (.func 221) #[] #[.pointer (some ⟨w.heap.size, 0, none⟩), .pointer (some ⟨w.heap.size + 1, 0, none⟩)]) ∧ w' = ((w.setCell ⟨q, 0, none⟩ (.string ⟨x'.toArray⟩)).alloc (.cells #[.pointer (some ⟨q, 0, none⟩)] 291)).alloc (.cells #[.string ⟨x.toArray⟩] 9) := by
  go_enter Tryz.func199, Tryz.ntmps199
  go_wp2
  go_ret
  exact ⟨rfl, rfl⟩

/-- Put of a name. -/
theorem putNm (h : PhS w S e D σ v1 v2 v3 v4 v5 te) (hb : D b) (x : By) :
    Calls Tryz.prog 199 #[.pointer (some ⟨b, 0, none⟩), .string ⟨x.toArray⟩] w (BkPost S e D σ [.nm b x] v1 v2 v3 v4 v5 te w) := by
  have hF := h.fld b hb
  obtain ⟨f1, f2, f3, f4, a0, l0, c0, r1, r2⟩ := hF
  obtain ⟨⟨k0, k1, k2, k3, k4, k5, k6⟩, hfz, hbl⟩ := row7 r1
  refine (putName b _ x w k0 (hfz 0) hbl).mono ?_
  rintro r w' ⟨rfl, rfl⟩
  have hk : Ks (fun q => q = b) w (((w.setCell ⟨b, 0, none⟩ (.string ⟨x.toArray⟩)).alloc (.cells #[.pointer (some ⟨b, 0, none⟩)] 291)).alloc (.cells #[.string ⟨(σ.mem b).nm.toArray⟩] 9)) := (((Ks.refl (fun q => q = b) w).set b 0 _ rfl).alloc _).alloc _
  have j3 := alloc2_old (w.setCell ⟨b, 0, none⟩ (.string ⟨x.toArray⟩)) #[.pointer (some ⟨b, 0, none⟩)] 291 (.cells #[.string ⟨(σ.mem b).nm.toArray⟩] 9)
  have j4 := alloc2_new' (w.setCell ⟨b, 0, none⟩ (.string ⟨x.toArray⟩)) (.cells #[.pointer (some ⟨b, 0, none⟩)] 291) #[.string ⟨(σ.mem b).nm.toArray⟩] 9
  have jr : (((w.setCell ⟨b, 0, none⟩ (.string ⟨x.toArray⟩)).alloc (.cells #[.pointer (some ⟨b, 0, none⟩)] 291)).alloc (.cells #[.string ⟨(σ.mem b).nm.toArray⟩] 9)).heap[b]? = some (.cells #[.string ⟨x.toArray⟩, .int .i64 ((σ.mem b).p.k : Int), .string ⟨(σ.mem b).p.nm.toArray⟩, .int .i64 ((σ.mem b).p.n : Int), .slice a0 l0 c0, .int .i64 (σ.mem b).v.1, .int .i64 (σ.mem b).v.2] 223 (0, 0)) := by
    rw [Below.heap_alloc _ _ _ (by simp; omega), Below.heap_alloc _ _ _ (by simpa using hbl), setCell_block r1]
    rfl
  simp only [World.size_setCell] at j3 j4
  generalize (((w.setCell ⟨b, 0, none⟩ (.string ⟨x.toArray⟩)).alloc (.cells #[.pointer (some ⟨b, 0, none⟩)] 291)).alloc (.cells #[.string ⟨(σ.mem b).nm.toArray⟩] 9)) = w' at *
  have blk : ∀ q, S q → w'.heap[q]? = w.heap[q]? := fun q hq => hk.block q (h.still q hq) (fun e' => f1 (e' ▸ hq))
  have q2 : w.heap.size ≤ w.heap.size + 1 := by omega
  refine ⟨_, _, S2 S w.heap.size (w.heap.size + 1), rfl, S2_old, S2_new (Nat.le_refl _) q2 j3 j4, h.fldPut hb _ ⟨?_, f2, f3, f4, a0, l0, c0, jr, (r2.next blk).wide S2_old⟩ hk S2_old (S2_lt (Nat.le_refl _) q2 j3 j4), ?_, hk.wide fun q hq => Or.inr (by rw [show q = b from hq]; exact hb)⟩
  · rintro (h1 | h1 | h1)
    · exact f1 h1
    · omega
    · omega
  · exact .nm _ _ b _ (Or.inr (Or.inl rfl)) (Or.inr (Or.inr rfl)) j3 j4 hb
end Go.Proofs.YtihgojcfpnhelaaGreatDoor
namespace Go.Proofs.YtihgojcfpnhelaaGreatDoor
open Go.RowKit
variable {w w' : World} {S S' : Nat → Prop} {e b : Nat} {D : Nat → Prop} {σ : Sta} {v1 v2 v3 v4 v5 : Value} {te : TypeId}

set_option maxRecDepth 100000 in
set_option maxHeartbeats 4000000 in
theorem bkOrd (h : PhS w S e D σ v1 v2 v3 v4 v5 te) (g1 g2 : Nat) (l : List Nat) (a : Option Addr) (c : Nat) (h1 : w.heap[g1]? = some (.cells #[.pointer (some ⟨e, 0, none⟩)] 253 (0, 0))) (h2 : w.heap[g2]? = some (.cells #[.slice a l.length c] 101 (0, 0))) (hl : ∀ b, b ∈ l → D b) (hr : RowAt w S a l) (hc : l.length ≤ c) (hn : a = none → c = 0) :
    Calls Tryz.prog 192 #[.pointer (some ⟨g1, 0, none⟩), .pointer (some ⟨g2, 0, none⟩)] w (BkPost S e D σ [.ord l] v1 v2 v3 v4 v5 te w) := by
  have HP := toHid (putOrd h l a c hl hr hc hn)
  have m1 : w.cell? ⟨g1, 0, none⟩ = some (.pointer (some ⟨e, 0, none⟩)) := (cell_of_row w g1 0 _ _ _ h1).trans rfl
  have m2 : w.cell? ⟨g2, 0, none⟩ = some (.slice a l.length c) := (cell_of_row w g2 0 _ _ _ h2).trans rfl
  clear h1 h2 hr h
  go_enter Tryz.func192, Tryz.ntmps192
  go_wp2_with (first | (go_at_call 163; refine HP.out.mono ?_; rintro r w1 ⟨N', cs', S', rfl, hrest⟩; have HR := toHid hrest; clear hrest))
  go_ret
  exact ⟨N', cs', S', rfl, HR.out⟩

set_option maxRecDepth 100000 in
set_option maxHeartbeats 4000000 in
theorem bkNm (h : PhS w S e D σ v1 v2 v3 v4 v5 te) (g1 g2 : Nat) (x : By) (h1 : w.heap[g1]? = some (.cells #[.pointer (some ⟨b, 0, none⟩)] 291 (0, 0))) (h2 : w.heap[g2]? = some (.cells #[.string ⟨x.toArray⟩] 9 (0, 0))) (hb : D b) :
    Calls Tryz.prog 221 #[.pointer (some ⟨g1, 0, none⟩), .pointer (some ⟨g2, 0, none⟩)] w (BkPost S e D σ [.nm b x] v1 v2 v3 v4 v5 te w) := by
  have HP := toHid (putNm h hb x)
  have m1 : w.cell? ⟨g1, 0, none⟩ = some (.pointer (some ⟨b, 0, none⟩)) := (cell_of_row w g1 0 _ _ _ h1).trans rfl
  have m2 : w.cell? ⟨g2, 0, none⟩ = some (.string ⟨x.toArray⟩) := (cell_of_row w g2 0 _ _ _ h2).trans rfl
  clear h1 h2 h
  go_enter Tryz.func221, Tryz.ntmps221
  go_wp2_with (first | (go_at_call 199; refine HP.out.mono ?_; rintro r w1 ⟨N', cs', S', rfl, hrest⟩; have HR := toHid hrest; clear hrest))
  go_ret
  exact ⟨N', cs', S', rfl, HR.out⟩

set_option maxRecDepth 100000 in
set_option maxHeartbeats 4000000 in
theorem bkRl (h : PhS w S e D σ v1 v2 v3 v4 v5 te) (g1 g2 : Nat) (p : Pt) (a : Option Addr) (l c : Nat) (h1 : w.heap[g1]? = some (.cells #[.pointer (some ⟨b, 1, none⟩)] 251 (0, 0))) (h2 : w.heap[g2]? = some (.cells #[.int .i64 (p.k : Int), .string ⟨p.nm.toArray⟩, .int .i64 (p.n : Int), .slice a l c] 89 (0, 0))) (hb : D b) (hp : PIs w S p a l c) (hsh : Shape p) (hgd : Good p) (htx : (txt p).length ≤ 100) :
    Calls Tryz.prog 191 #[.pointer (some ⟨g1, 0, none⟩), .pointer (some ⟨g2, 0, none⟩)] w (BkPost S e D σ [.rl b p] v1 v2 v3 v4 v5 te w) := by
  have HP := toHid (putRl h hb p a l c hp hsh hgd htx)
  have m0 : w.cell? ⟨g1, 0, none⟩ = some (.pointer (some ⟨b, 1, none⟩)) := (cell_of_row w g1 0 _ _ _ h1).trans rfl
  obtain ⟨⟨j0, j1, j2, j3⟩, _, _⟩ := row4 h2
  clear h1 h2 h hp
  go_enter Tryz.func191, Tryz.ntmps191
  go_wp2_with (first | (go_at_call 162; refine HP.out.mono ?_; rintro r w1 ⟨N', cs', S', rfl, hrest⟩; have HR := toHid hrest; clear hrest))
  go_ret
  exact ⟨N', cs', S', rfl, HR.out⟩

set_option maxRecDepth 100000 in
set_option maxHeartbeats 4000000 in
theorem bkVl (h : PhS w S e D σ v1 v2 v3 v4 v5 te) (g1 g2 : Nat) (v : Vl) (h1 : w.heap[g1]? = some (.cells #[.pointer (some ⟨b, 5, none⟩)] 287 (0, 0))) (h2 : w.heap[g2]? = some (.cells #[.int .i64 v.1, .int .i64 v.2] 177 (0, 0))) (hb : D b) :
    Calls Tryz.prog 219 #[.pointer (some ⟨g1, 0, none⟩), .pointer (some ⟨g2, 0, none⟩)] w (BkPost S e D σ [.vl b v] v1 v2 v3 v4 v5 te w) := by
  have HP := toHid (putVl h hb v)
  have m0 : w.cell? ⟨g1, 0, none⟩ = some (.pointer (some ⟨b, 5, none⟩)) := (cell_of_row w g1 0 _ _ _ h1).trans rfl
  have j0 : w.cell? ⟨g2, 0, none⟩ = some (.int .i64 v.1) := (cell_of_row w g2 0 _ _ _ h2).trans rfl
  have j1 : w.cell? ⟨g2, 1, none⟩ = some (.int .i64 v.2) := (cell_of_row w g2 1 _ _ _ h2).trans rfl
  clear h1 h2 h
  go_enter Tryz.func219, Tryz.ntmps219
  go_wp2_with (first | (go_at_call 196; refine HP.out.mono ?_; rintro r w1 ⟨N', cs', S', rfl, hrest⟩; have HR := toHid hrest; clear hrest))
  go_ret
  exact ⟨N', cs', S', rfl, HR.out⟩
end Go.Proofs.YtihgojcfpnhelaaGreatDoor
namespace Go.Proofs.YtihgojcfpnhelaaGreatDoor
open Go.RowKit

def fnV (N : Nat) (cs : Array Value) : Value := .func (.func N) #[] cs

/-- A row of functions that take writes back is being built, while these are done. -/
structure Built (S O : Nat → Prop) (e : Nat) (D : Nat → Prop) (σ : Sta) (v1 v2 v3 v4 v5 : Value) (te : TypeId) (w W : World) (S1 : Nat → Prop) (v : Value) (k : Nat) (ws : List Wr) (N : Nat → Nat) (cs : Nat → Array Value) (us : Nat → List Wr) : Prop where
  s0 : ∀ q, S q → S1 q
  s1 : ∀ q, S1 q → S q ∨ (O q ∧ ∃ c t z, W.heap[q]? = some (.cells c t z))
  ph : PhS W S1 e D (runW ws σ) v1 v2 v3 v4 v5 te
  own : W.ownsRow w.heap.size 151 1 v k ((List.range k).map fun j => fnV (N j) (cs j))
  ob : ∀ q, v.ownBlock = some q → ¬ S1 q ∧ q ≠ e ∧ ¬ D q
  oo : ∀ q, v.ownBlock = some q → O q
  bk : ∀ j, j < k → BkAt e D W S1 (N j) (cs j) (us j)
  inv : (List.range k).reverse.flatMap us = invW ws σ
  ks : Ks (fun q => q = e ∨ D q) w W

variable {S S1 O : Nat → Prop} {e : Nat} {D : Nat → Prop} {σ : Sta} {v1 v2 v3 v4 v5 : Value} {te : TypeId} {w W W1 W2 : World} {v v' : Value} {k : Nat} {ws : List Wr} {N : Nat → Nat} {cs : Nat → Array Value} {us : Nat → List Wr}

theorem Built.start (h : PhS w S e D σ v1 v2 v3 v4 v5 te) : Built S O e D σ v1 v2 v3 v4 v5 te w w S (.slice none 0 0) 0 [] (fun _ => 0) (fun _ => #[]) (fun _ => []) :=
  ⟨fun _ h => h, fun _ h => Or.inl h, h, World.ownsRow_nil _ _ _ _, fun q hq => by simp [Value.ownBlock] at hq, fun q hq => by simp [Value.ownBlock] at hq, fun j hj => by omega, rfl, Ks.refl _ _⟩

theorem Built.next (h : Built S O e D σ v1 v2 v3 v4 v5 te w W S1 v k ws N cs us) (hb : Below W.heap.size W W1) : Built S O e D σ v1 v2 v3 v4 v5 te w W1 S1 v k ws N cs us := by
  refine ⟨h.s0, fun q hq => (h.s1 q hq).imp id ?_, h.ph.next hb, own_below h.own hb, h.ob, h.oo, fun j hj => (h.bk j hj).later h.ph.still hb, h.inv, h.ks.trans (Ks.of hb)⟩
  rintro ⟨h1, c, t, z, h2⟩
  exact ⟨h1, c, t, z, (hb.block q (Array.getElem?_eq_some_iff.1 h2).1).trans h2⟩

theorem Ks.cells {P : Nat → Prop} {w w' : World} (h : Ks P w w') {q : Nat} {c : Array Value} {t : TypeId} {z : Nat × Nat} (hq : w.heap[q]? = some (.cells c t z)) (hP : ¬ P q) : w'.heap[q]? = some (.cells c t z) := (h.block q (Array.getElem?_eq_some_iff.1 hq).1 hP).trans hq

/-- One more is done. -/
theorem Built.step (hO : ∀ q, W.heap.size ≤ q → O q) (h : Built S O e D σ v1 v2 v3 v4 v5 te w W S1 v k ws N cs us) {us1 : List Wr} {N1 : Nat} {cs1 : Array Value} {S2 : Nat → Prop} (q0 : ∀ q, S1 q → S2 q) (q1 : ∀ q, S2 q → S1 q ∨ (W.heap.size ≤ q ∧ ∃ c t z, W1.heap[q]? = some (.cells c t z))) (hp : PhS W1 S2 e D (runW us1 (runW ws σ)) v1 v2 v3 v4 v5 te) (hbk : BkAt e D W1 S2 N1 cs1 (invW us1 (runW ws σ))) (hk : Ks (fun q => q = e ∨ D q) W W1)
    {o : Obj} (hg : (W1.alloc o).grownBy W2 v.ownBlock) (ho : W2.ownsRow w.heap.size 151 1 v' (k + 1) (((List.range k).map fun j => fnV (N j) (cs j)) ++ [fnV N1 cs1])) (hv : v'.ownBlock = v.ownBlock ∨ ∃ g, v'.ownBlock = some g ∧ W1.heap.size ≤ g) :
    Built S O e D σ v1 v2 v3 v4 v5 te w W2 S2 v' (k + 1) (ws ++ us1) (fun j => if j = k then N1 else N j) (fun j => if j = k then cs1 else cs j) (fun j => if j = k then invW us1 (runW ws σ) else us j) := by
  have hws := hk.size
  have hg2 := hg.size
  simp at hg2
  have hwW := h.ks.size
  have hobW : ∀ q, v.ownBlock = some q → q < W.heap.size ∧ w.heap.size ≤ q := fun q hq => ⟨(h.own.lt q hq).2, (h.own.lt q hq).1⟩
  have hob : ∀ q, v.ownBlock = some q → ¬ S2 q := fun q hq h2 => by
    rcases q1 q h2 with h3 | h3
    · exact (h.ob q hq).1 h3
    · have := (hobW q hq).1; omega
  have blk : ∀ q, q < W1.heap.size → v.ownBlock ≠ some q → W2.heap[q]? = W1.heap[q]? := fun q hq hn => by
    rw [hg.block q (by simp; omega) (fun e' => hn e'.symm), Below.heap_alloc _ _ _ hq]
  have blkS : ∀ q, S2 q → W2.heap[q]? = W1.heap[q]? := fun q hq => blk q (hp.still q hq) fun e' => hob q e' hq
  have hks : Ks (fun q => v.ownBlock = some q) W1 W2 := ⟨hg.os, hg.tape, hg.output, by omega, fun q hq hn => blk q hq hn⟩
  have hobe : v.ownBlock ≠ some e := fun h1 => (h.ob e h1).2.1 rfl
  have hp2 : PhS W2 S2 e D (runW (ws ++ us1) σ) v1 v2 v3 v4 v5 te := by
    rw [runW_app]
    obtain ⟨a, c, r1, r2, r3, r4⟩ := hp.row
    refine ⟨fun q hq => Nat.lt_of_lt_of_le (hp.still q hq) (by omega), hp.eS, hp.eD, fun b hb => (hp.fld b hb).stays (blk b (hp.fld b hb).lt fun h1 => (h.ob b h1).2.2 hb) blkS, hp.sub, a, c, r1.next blkS, r2, r3, (blk e hp.lt hobe).trans r4⟩
  refine ⟨fun q hq => q0 q (h.s0 q hq), fun q hq => ?_, hp2, ?_, fun q hq => ?_, fun q hq => ?_, fun j hj => ?_, ?_, ?_⟩
  · rcases q1 q hq with h1 | ⟨h1, c, t, z, h2⟩
    · rcases h.s1 q h1 with h3 | ⟨h3, c, t, z, h4⟩
      · exact Or.inl h3
      · refine Or.inr ⟨h3, c, t, z, (blkS q hq).trans ((hk.block q (Array.getElem?_eq_some_iff.1 h4).1 ?_).trans h4)⟩
        rintro (rfl | h5)
        · exact hp.eS hq
        · exact (hp.fld q h5).1 hq
    · exact Or.inr ⟨hO q h1, c, t, z, (blkS q hq).trans h2⟩
  · have : ((List.range (k + 1)).map fun j => fnV (if j = k then N1 else N j) (if j = k then cs1 else cs j)) = ((List.range k).map fun j => fnV (N j) (cs j)) ++ [fnV N1 cs1] := by
      rw [List.range_succ, List.map_append]
      congr 1
      · refine List.map_congr_left fun j hj => ?_
        have : j ≠ k := by have := List.mem_range.1 hj; omega
        simp [this]
      · simp
    rw [this]
    exact ho
  · rcases hv with h1 | ⟨g, h1, h2⟩
    · rw [h1] at hq
      exact ⟨hob q hq, (h.ob q hq).2⟩
    · rw [h1] at hq
      cases hq
      refine ⟨fun h3 => ?_, fun h3 => ?_, fun h3 => ?_⟩
      · have := hp.still _ h3; omega
      · have := hp.lt; omega
      · have := (hp.fld _ h3).lt; omega
  · rcases hv with h1 | ⟨g, h1, h2⟩
    · rw [h1] at hq
      exact h.oo q hq
    · rw [h1] at hq
      cases hq
      exact hO _ (by omega)
  · by_cases e' : j = k
    · simp only [e', if_true]
      exact hbk.next blkS
    · simp only [e', if_false]
      have hb := ((h.bk j (by omega)).next (w' := W1) fun q hq => hk.block q (h.ph.still q hq) (by
        rintro (rfl | h5)
        · exact h.ph.eS hq
        · exact (h.ph.fld q h5).1 hq)).wide q0 (fun _ h => h)
      exact hb.next blkS
  · rw [List.range_succ, List.reverse_append, List.flatMap_append, invW_app]
    congr 1
    · simp
    · rw [← h.inv]
      refine flat_congr _ _ _ fun j hj => ?_
      have : j ≠ k := by have := List.mem_range.1 (List.mem_reverse.1 hj); omega
      simp [this]
  · have hk2 := h.ks.trans hk
    refine ⟨hks.os.trans hk2.os, hks.tape.trans hk2.tape, hks.output.trans hk2.output, by omega, fun q hq hn => ?_⟩
    rw [blk q (by omega) (fun e' => by have := (hobW q e').2; omega)]
    exact hk2.block q hq hn
 where
  flat_congr (l : List Nat) (f g : Nat → List Wr) (h : ∀ j, j ∈ l → f j = g j) : l.flatMap f = l.flatMap g := by
    induction l with
    | nil => rfl
    | cons a r ih => simp only [List.flatMap_cons, h a (by simp), ih fun j hj => h j (by simp [hj])]

theorem PhS.wide {S' : Nat → Prop} (h : PhS w S e D σ v1 v2 v3 v4 v5 te) (h0 : ∀ q, S q → S' q) (h1 : ∀ q, S' q → S q ∨ (q < w.heap.size ∧ q ≠ e ∧ ¬ D q)) : PhS w S' e D σ v1 v2 v3 v4 v5 te := by
  obtain ⟨a, c, r1, r2, r3, r4⟩ := h.row
  refine ⟨fun q hq => (h1 q hq).elim (h.still q) fun h => h.1, fun hq => (h1 e hq).elim h.eS fun h => h.2.1 rfl, h.eD, fun b hb => (h.fld b hb).more h0 fun hq => (h1 b hq).elim (h.fld b hb).1 fun h => h.2.2 hb, h.sub, a, c, r1.wide h0, r2, r3, r4⟩

/-- All of a row of backs. -/
theorem Built.all (hk8 : k * 8 ≤ 140737488355328) (hO : ∀ q, W.heap.size ≤ q → O q) (h : Built S O e D σ v1 v2 v3 v4 v5 te w W S1 v k ws N cs us) : Calls Tryz.prog 72 #[v] W fun r w' => BkPostO S O e D σ ws v1 v2 v3 v4 v5 te w r w' ∧ Below W.heap.size W w' := by
  have hsz := h.ks.size
  obtain ⟨a, l, c, rfl⟩ := own_slice h.own
  refine (all138 a l c W).mono ?_
  rintro r w' ⟨rfl, rfl⟩
  have hb : Below W.heap.size W (W.alloc (.cells #[.slice a l c] 104)) := (Below.refl _ _).alloc (Nat.le_refl _) _
  have hnew := heap_alloc_new W (.cells #[.slice a l c] 104)
  have hS0 : ∀ q, S1 q → (S1 q ∨ q = W.heap.size ∨ (Value.slice a l c).ownBlock = some q) := fun q hq => Or.inl hq
  have hob : ∀ q, (Value.slice a l c).ownBlock = some q → q < W.heap.size ∧ w.heap.size ≤ q := fun q hq => ⟨(h.own.lt q hq).2, (h.own.lt q hq).1⟩
  have h2 := h.next hb
  refine ⟨⟨_, _, fun q => S1 q ∨ q = W.heap.size ∨ (Value.slice a l c).ownBlock = some q, rfl, fun q hq => Or.inl (h.s0 q hq), fun q hq => ?_, h2.ph.wide hS0 fun q hq => ?_, ?_, h2.ks⟩, hb⟩
  · rcases hq with hq | rfl | hq
    · exact h2.s1 q hq
    · exact Or.inr ⟨hO _ (Nat.le_refl _), _, _, _, hnew⟩
    · refine Or.inr ⟨h.oo q hq, ?_⟩
      rcases h2.own.2 with ⟨h3, _⟩ | ⟨g, cap, cur, h3, _, h4, _⟩
      · rw [h3] at hq; simp [Value.ownBlock] at hq
      · rw [h3] at hq
        simp [Value.ownBlock] at hq
        subst hq
        exact ⟨_, _, _, h4⟩
  · rcases hq with hq | rfl | hq
    · exact Or.inl hq
    · refine Or.inr ⟨by simp, fun e' => ?_, fun e' => ?_⟩
      · have := h.ph.lt; omega
      · have := (h.ph.fld _ e').lt; omega
    · exact Or.inr ⟨by have := (hob q hq).1; simp; omega, (h.ob q hq).2⟩
  · rw [← h.inv]
    rcases h2.own.2 with ⟨h3, rfl⟩ | ⟨g, cap, cur, h3, h4, h5, h6, h7, h8, h9⟩
    · cases h3
      exact .all _ none 0 0 N cs us (Or.inr (Or.inl rfl)) hnew (Nat.le_refl _) (Or.inl rfl) (by omega) (fun i hi => by omega) fun i hi => by omega
    · cases h3
      refine .all _ (some ⟨g, 0, none⟩) k c N cs us (Or.inr (Or.inl rfl)) hnew h6 (Or.inr ⟨g, 0, rfl, Or.inr (Or.inr rfl)⟩) hk8 (fun i hi h' o' e' => ?_) fun i hi => (h2.bk i hi).wide hS0 fun _ h => h
      cases e'
      have := h2.own.cellAt i (by omega)
      rw [Nat.zero_add, this, List.getElem?_map, List.getElem?_range hi]
      rfl

/-- Two backs as a row. -/
theorem built2 (hO : ∀ q, W.heap.size ≤ q → O q) {N1 N2 : Nat} {cs1 cs2 : Array Value} {ws1 ws2 : List Wr} (hp : PhS W S1 e D (runW (ws1 ++ ws2) σ) v1 v2 v3 v4 v5 te) (s0 : ∀ q, S q → S1 q) (s1 : ∀ q, S1 q → S q ∨ (O q ∧ ∃ c t z, W.heap[q]? = some (.cells c t z))) (b1 : BkAt e D W S1 N1 cs1 (invW ws1 σ)) (b2 : BkAt e D W S1 N2 cs2 (invW ws2 (runW ws1 σ))) (ks : Ks (fun q => q = e ∨ D q) w W) :
    Built S O e D σ v1 v2 v3 v4 v5 te w (W.alloc (.cells #[fnV N1 cs1, fnV N2 cs2] 151)) S1 (.slice (some ⟨W.heap.size, 0, none⟩) 2 2) 2 (ws1 ++ ws2) (fun j => if j = 0 then N1 else N2) (fun j => if j = 0 then cs1 else cs2) (fun j => if j = 0 then invW ws1 σ else invW ws2 (runW ws1 σ)) := by
  have hb : Below W.heap.size W (W.alloc (.cells #[fnV N1 cs1, fnV N2 cs2] 151)) := (Below.refl _ _).alloc (Nat.le_refl _) _
  refine ⟨s0, fun q hq => (s1 q hq).imp id ?_, hp.next hb, ?_, fun q hq => ?_, fun q hq => ?_, fun j hj => ?_, ?_, ks.trans (Ks.of hb)⟩
  · rintro ⟨h1, c, t, z, h2⟩
    exact ⟨h1, c, t, z, (hb.block q (Array.getElem?_eq_some_iff.1 h2).1).trans h2⟩
  · have := World.ownsRow_lit (base := w.heap.size) (e := 151) (size := 1) W #[fnV N1 cs1, fnV N2 cs2] 2 ks.size (by unfold maxLen; omega) rfl
    exact this
  · simp [Value.ownBlock] at hq
    subst hq
    refine ⟨fun h => ?_, fun h => ?_, fun h => ?_⟩
    · have := hp.still _ h; omega
    · have := hp.lt; omega
    · have := (hp.fld _ h).lt; omega
  · simp [Value.ownBlock] at hq
    subst hq
    exact hO _ (Nat.le_refl _)
  · rcases (show j = 0 ∨ j = 1 by omega) with rfl | rfl
    · exact b1.later hp.still hb
    · exact b2.later hp.still hb
  · simp [List.range_succ, invW_app]
end Go.Proofs.YtihgojcfpnhelaaGreatDoor
namespace Go.Proofs.YtihgojcfpnhelaaGreatDoor
open Go.RowKit Go.Shelf

attribute [local go_sem] Oper.semAt_some

/-- What comes, from the last to the first: k of n. -/
def dnL (n : Nat) : (k : Nat) → k ≤ n → List { i : Nat // i < n }
  | 0, _ => []
  | k + 1, h => dnL n k (by omega) ++ [⟨n - (k + 1), by omega⟩]
theorem dnL_length (n : Nat) : ∀ k h, (dnL n k h).length = k
  | 0, _ => rfl
  | k + 1, h => by simp [dnL, dnL_length n k]

theorem dnL_eq (n k k' : Nat) (h : k ≤ n) (h' : k' ≤ n) (e : k = k') : dnL n k h = dnL n k' h' := by subst e; rfl
theorem dnL_zero (n k : Nat) (h : k ≤ n) (e : k = 0) : dnL n k h = [] := by subst e; rfl
theorem dnL_step (n j : Nat) (h : j < n) : dnL n (n - j) (by omega) = dnL n (n - (j + 1)) (by omega) ++ [⟨j, h⟩] := by
  rw [dnL_eq n (n - j) (n - (j + 1) + 1) (by omega) (by omega) (by omega)]
  simp only [dnL]
  congr 2
  exact Subtype.ext (by simp only; omega)

/-- The slice of backs, and the box that holds it, stand. -/
def KpB (T : Nat → Prop) (W W' : World) : Prop := W.heap.size ≤ W'.heap.size ∧ ∀ q, T q → W'.heap[q]? = W.heap[q]?

set_option maxRecDepth 100000 in
set_option maxHeartbeats 2000000 in
theorem backward1 (m : Nat) (hm : 1 ≤ m) (l Bs b off n c : Nat) (vs : Nat → Value) (T : Nat → Prop) (hn : n ≤ maxLen) (hT1 : T Bs) (hT2 : T b) (J Jx : List { i : Nat // i < n } → World → Prop)
    (hY : ∀ pre (x : { i : Nat // i < n }) W, J pre W → pre.length < n → YieldAt Fence.wide (m - 1) Tryz.prog l #[.int .i64 (x.1 : Int), vs x.1] W fun e W' =>
      (e = .returned (.bool true) ∧ J (pre ++ [x]) W' ∧ KpB T W W') ∨ (e = .returned (.bool false) ∧ Jx (pre ++ [x]) W'))
    (W : World) (hBs : W.cell? ⟨Bs, 0, none⟩ = some (.slice (some ⟨b, off, none⟩) n c)) (hc : ∀ j, j < n → W.cell? ⟨b, off + j, none⟩ = some (vs j)) (h0 : J [] W) :
    CallsIn Fence.wide m Tryz.prog 143 #[.func (.yield l) #[] #[], .pointer (some ⟨Bs, 0, none⟩)] W fun e W' => (∃ v, e = .returned v) ∧
      ((∃ ys, ys = dnL n n (Nat.le_refl _) ∧ J ys W') ∨ (∃ pre, True ∧ Jx pre W')) := by
  refine callsIn_of_wp Tryz.func143 rfl trivial ?_ rfl
  simp only [Tryz.ntmps143, List.size_toArray, List.length_cons, List.length_nil, Nat.reduceAdd, Nat.reduceSub, Array.replicate_succ, Array.replicate_zero, List.push_toArray, List.append_toArray, List.nil_append, List.cons_append]
  gi_wp2
  gi_loopw [3] (fun i wr => ∃ (j : Nat), j ≤ n ∧ i = .int .i64 ((j : Int) - 1) ∧ J (dnL n (n - j) (by omega)) wr ∧ KpB T W wr) (fun i _ => (intOf i + 1).toNat)
  case atStart =>
    refine ⟨n, Nat.le_refl _, by rw [show wrap64 ((n : Int) - 1) = (n : Int) - 1 by unfold maxLen at hn; unfold wrap64; omega], ?_, Nat.le_refl _, fun _ _ => rfl⟩
    have : dnL n (n - n) (by omega) = [] := by simp [dnL_zero]
    rw [this]
    exact h0
  case round =>
    obtain ⟨j, hj, rfl, hJs, hsz, hkp⟩ := hrel
    cases j with
    | succ j =>
      obtain ⟨fn, tmps, assign, body, hy, hR⟩ := hY _ ⟨j, by omega⟩ wr hJs (by rw [dnL_length]; omega)
      dsimp only at hy
      have hcx : wr.cell? ⟨b, off + j, none⟩ = some (vs j) := (World.cell?_of_block (a := ⟨b, off + j, none⟩) (hkp b hT2)).trans (hc _ (by omega))
      have hbx : wr.cell? ⟨Bs, 0, none⟩ = some (.slice (some ⟨b, off, none⟩) n c) := (World.cell?_of_block (a := ⟨Bs, 0, none⟩) (hkp Bs hT1)).trans hBs
      have hi : (((j + 1 : Nat) : Int) - 1) = (j : Int) := by omega
      have hil : (j : Int) < (n : Int) := by omega
      have hin : j < n := by omega
      have hwj : wrap64 ((j : Int) - 1) = (j : Int) - 1 := by unfold maxLen at hn; unfold wrap64; omega
      rw [hi]
      gi_wp2
      refine hR.mono ?_
      rintro e W3 (⟨rfl, hJ3, hk3⟩ | ⟨rfl, hJx3⟩)
      · gi_wp2
        go_roundw
        case rel =>
          refine ⟨j, by omega, by simp [hwj], ?_, Nat.le_trans hsz hk3.1, fun q hq => (hk3.2 q hq).trans (hkp q hq)⟩
          rw [dnL_step n j hin]
          exact hJ3
        case measure => simp [intOf, hwj]
      · gi_wp2
        refine bodyPost_ret (results_none rfl _ _ _) rfl ?_
        exact ⟨⟨_, rfl⟩, .inr ⟨_, trivial, hJx3⟩⟩
    | zero =>
      gi_wp2
      go_end0
      exact ⟨⟨_, rfl⟩, .inl ⟨_, rfl, hJs⟩⟩

set_option maxRecDepth 100000 in
set_option maxHeartbeats 1000000 in
theorem backward0 (m : Nat) (l Bs c : Nat) (a : Option Addr) (J : List { i : Nat // i < 0 } → World → Prop) (W : World) (hBs : W.cell? ⟨Bs, 0, none⟩ = some (.slice a 0 c)) (h0 : J [] W) :
    CallsIn Fence.wide m Tryz.prog 143 #[.func (.yield l) #[] #[], .pointer (some ⟨Bs, 0, none⟩)] W fun e W' => (∃ v, e = .returned v) ∧ J [] W' := by
  refine callsIn_of_wp Tryz.func143 rfl trivial ?_ rfl
  simp only [Tryz.ntmps143, List.size_toArray, List.length_cons, List.length_nil, Nat.reduceAdd, Nat.reduceSub, Array.replicate_succ, Array.replicate_zero, List.push_toArray, List.append_toArray, List.nil_append, List.cons_append]
  gi_wp2
  gi_loopw [3] (fun i wr => i = .int .i64 (-1) ∧ J [] wr) (fun _ _ => 0)
  case atStart => exact ⟨rfl, h0⟩
  case round =>
    obtain ⟨rfl, hJs⟩ := hrel
    gi_wp2
    go_end0
    exact ⟨⟨_, rfl⟩, hJs⟩

set_option maxHeartbeats 1000000 in
/-- slices.Backward of a row of backs. -/
theorem backward (m : Nat) (a : Option Addr) (n c : Nat) (w : World) :
    CallsIn Fence.wide m Tryz.prog 107 #[.slice a n c] w fun e w' => e = .returned (.func (.func 143) #[] #[.pointer (some ⟨w.heap.size, 0, none⟩)]) ∧ w' = w.alloc (.cells #[.slice a n c] 104) := by
  refine callsIn_of_wp Tryz.func107 rfl trivial ?_ rfl
  simp only [Tryz.ntmps107, List.size_toArray, List.length_cons, List.length_nil, Nat.reduceAdd, Nat.reduceSub, Array.replicate_succ, Array.replicate_zero, List.push_toArray, List.append_toArray, List.nil_append, List.cons_append]
  gi_wp2
  go_ret
  exact ⟨rfl, rfl⟩

/-- Its contract. -/
theorem backward_stops (m : Nat) (hm : 1 ≤ m) (Bs n c : Nat) (a : Option Addr) (vs : Nat → Value) (T : Nat → Prop) (hn : n ≤ maxLen) (hT1 : T Bs) (w : World) (hT : ∀ q, T q → q < w.heap.size) (hBs : w.cell? ⟨Bs, 0, none⟩ = some (.slice a n c)) (ha : n = 0 ∨ ∃ h o, a = some ⟨h, o, none⟩ ∧ T h) (hc : ∀ j, j < n → ∀ h o, a = some ⟨h, o, none⟩ → w.cell? ⟨h, o + j, none⟩ = some (vs j)) :
    SeqStopsK Fence.wide m Tryz.prog 143 #[.pointer (some ⟨Bs, 0, none⟩)] (fun x : { i : Nat // i < n } => #[Value.int .i64 (x.1 : Int), vs x.1]) (KpB T) (fun ys => ys = dnL n n (Nat.le_refl _)) (fun _ => True) n w := fun l J Jx W hW _ _ hY h0 => by
  have hBs' := (hW.cell (p := ⟨Bs, 0, none⟩) (hT _ hT1)).trans hBs
  rcases ha with rfl | ⟨h, o, rfl, hh⟩
  · exact (backward0 m l Bs c a J W hBs' h0).mono fun e W' ⟨he, hj⟩ => ⟨he, .inl ⟨_, rfl, hj⟩⟩
  · exact backward1 m hm l Bs h o n c vs T hn hT1 hh J Jx hY W hBs' (fun j hj => (hW.cell (p := ⟨h, o + j, none⟩) (hT _ hh)).trans (hc j hj h o rfl)) h0
end Go.Proofs.YtihgojcfpnhelaaGreatDoor
namespace Go.Proofs.YtihgojcfpnhelaaGreatDoor
open Go.RowKit Go.Shelf

attribute [local go_sem] Oper.semAt_some

variable {S S1 O : Nat → Prop} {e : Nat} {D : Nat → Prop} {σ : Sta} {v1 v2 v3 v4 v5 : Value} {te : TypeId} {w W W1 W2 : World} {v v' : Value} {k : Nat} {ws : List Wr} {N : Nat → Nat} {cs : Nat → Array Value} {us : Nat → List Wr}

theorem Built.turn {B : Nat} {W' : World} {row : Option Nat} (h : Built S O e D σ v1 v2 v3 v4 v5 te w W S1 v k ws N cs us) (hg : W.grownBy W' row) (hr : ∀ r, row = some r → B ≤ r ∧ ∃ o : Obj, W.heap[r]? = some o ∧ o.isCells = false) (hB : ∀ q, S q → q < B) (hw : w.heap.size ≤ B) : Built S O e D σ v1 v2 v3 v4 v5 te w W' S1 v k ws N cs us := by
  have cel : ∀ (q : Nat) (c : Array Value) (t : TypeId) (z : Nat × Nat), W.heap[q]? = some (Obj.cells c t z) → W'.heap[q]? = W.heap[q]? := fun q c t z hq => hg.block q (Array.getElem?_eq_some_iff.1 hq).1 fun e' => by
    obtain ⟨_, o, h1, h2⟩ := hr q e'.symm
    rw [hq] at h1
    cases h1
    simp [Obj.isCells] at h2
  have low : ∀ q, q < B → q < W.heap.size → W'.heap[q]? = W.heap[q]? := fun q hq hl => hg.block q hl fun e' => by
    have := (hr q e'.symm).1; omega
  have blkS : ∀ q, S1 q → W'.heap[q]? = W.heap[q]? := fun q hq => by
    rcases h.s1 q hq with h1 | ⟨_, c, t, z, h2⟩
    · exact low q (hB q h1) (h.ph.still q hq)
    · exact cel q c t z h2
  refine ⟨h.s0, fun q hq => (h.s1 q hq).imp id ?_, h.ph.same ?_ hg.size, ?_, h.ob, h.oo, fun j hj => (h.bk j hj).next blkS, h.inv, ?_⟩
  · rintro ⟨h1, c, t, z, h2⟩
    exact ⟨h1, c, t, z, (cel q c t z h2).trans h2⟩
  · rintro q (hq | rfl | hq)
    · exact blkS q hq
    · obtain ⟨a, c, _, _, _, r4⟩ := h.ph.row
      exact cel _ _ _ _ r4
    · obtain ⟨a, l, c, r, _⟩ := (h.ph.fld q hq).open
      exact cel _ _ _ _ r
  · refine own_ke h.own (P := fun q => some q = row) ⟨hg.os, hg.tape, hg.output, hg.size, fun q hq hn => hg.block q hq hn⟩ fun q hq e' => ?_
    rcases h.own.2 with ⟨h3, _⟩ | ⟨g, cap, cur, h3, _, h4, _⟩
    · rw [h3] at hq; simp [Value.ownBlock] at hq
    · rw [h3] at hq
      simp [Value.ownBlock] at hq
      subst hq
      obtain ⟨_, o, h5, h6⟩ := hr g e'.symm
      rw [h4] at h5
      cases h5
      simp [Obj.isCells] at h6
  · refine ⟨hg.os.trans h.ks.os, hg.tape.trans h.ks.tape, hg.output.trans h.ks.output, Nat.le_trans h.ks.size hg.size, fun q hq hn => ?_⟩
    rw [low q (by omega) (Nat.lt_of_lt_of_le hq h.ks.size)]
    exact h.ks.block q hq hn

theorem Built.atSet (h : Built S O e D σ v1 v2 v3 v4 v5 te w W S1 v k ws N cs us) {q j : Nat} {u : Value} (h1 : ¬ S1 q) (h2 : v.ownBlock ≠ some q) (h3 : w.heap.size ≤ q) (hne : q ≠ e) (h4 : ¬ D q) : Built S O e D σ v1 v2 v3 v4 v5 te w (W.setCell ⟨q, j, none⟩ u) S1 v k ws N cs us := by
  have blk : ∀ k, k ≠ q → (W.setCell ⟨q, j, none⟩ u).heap[k]? = W.heap[k]? := fun k hk => Below.heap_setCell _ _ _ _ hk
  have blkS : ∀ k, S1 k → (W.setCell ⟨q, j, none⟩ u).heap[k]? = W.heap[k]? := fun k hk => blk k fun e' => h1 (e' ▸ hk)
  have hk : Ks (fun k => k = q) W (W.setCell ⟨q, j, none⟩ u) := (Ks.refl (fun k => k = q) W).set q j u rfl
  refine ⟨h.s0, fun k hk => (h.s1 k hk).imp id ?_, h.ph.same ?_ (by simp), own_ke h.own hk fun k hk' e' => h2 (by rw [hk', e']), h.ob, h.oo, fun i hi => (h.bk i hi).next blkS, h.inv, ⟨h.ks.os, h.ks.tape, h.ks.output, by simpa using h.ks.size, fun k hk hn => (blk k (by omega)).trans (h.ks.block k hk hn)⟩⟩
  · rintro ⟨k1, c, t, z, k2⟩
    exact ⟨k1, c, t, z, (blkS k hk).trans k2⟩
  · rintro k (hk | rfl | hk)
    · exact blkS k hk
    · exact blk _ (Ne.symm hne)
    · exact blk _ fun e' => h4 (e' ▸ hk)

theorem BkPostO.turn {us : List Wr} {r : Ending} {row : Option Nat} (h : BkPostO S O e D σ us v1 v2 v3 v4 v5 te w r W1) (hg : W1.grownBy W2 row) (hr : ∀ r, row = some r → w.heap.size ≤ r ∧ ∃ o : Obj, W1.heap[r]? = some o ∧ o.isCells = false) (hS : ∀ q, S q → q < w.heap.size) : BkPostO S O e D σ us v1 v2 v3 v4 v5 te w r W2 := by
  obtain ⟨N', cs', S', h1, h2, h3, h4, h5, h6⟩ := h
  have cel : ∀ (q : Nat) (c : Array Value) (t : TypeId) (z : Nat × Nat), W1.heap[q]? = some (Obj.cells c t z) → W2.heap[q]? = W1.heap[q]? := fun q c t z hq => hg.block q (Array.getElem?_eq_some_iff.1 hq).1 fun e' => by
    obtain ⟨_, o, h1, h2⟩ := hr q e'.symm
    rw [hq] at h1
    cases h1
    simp [Obj.isCells] at h2
  have low : ∀ q, q < w.heap.size → W2.heap[q]? = W1.heap[q]? := fun q hq => hg.block q (Nat.lt_of_lt_of_le hq h6.size) fun e' => by
    have := (hr q e'.symm).1; omega
  have blkS : ∀ q, S' q → W2.heap[q]? = W1.heap[q]? := fun q hq => by
    rcases h3 q hq with h7 | ⟨_, c, t, z, h8⟩
    · exact low q (hS q h7)
    · exact cel q c t z h8
  refine ⟨N', cs', S', h1, h2, fun q hq => (h3 q hq).imp id ?_, h4.same ?_ hg.size, h5.next blkS, ⟨hg.os.trans h6.os, hg.tape.trans h6.tape, hg.output.trans h6.output, Nat.le_trans h6.size hg.size, fun q hq hn => (low q hq).trans (h6.block q hq hn)⟩⟩
  · rintro ⟨k1, c, t, z, k2⟩
    exact ⟨k1, c, t, z, (cel q c t z k2).trans k2⟩
  · rintro q (hq | rfl | hq)
    · exact blkS q hq
    · obtain ⟨a, c, _, _, _, r4⟩ := h4.row
      exact cel _ _ _ _ r4
    · obtain ⟨a, l, c, r, _⟩ := (h4.fld q hq).open
      exact cel _ _ _ _ r

theorem dnL_map (n : Nat) : ∀ k h, (dnL n k h).map Subtype.val = ((List.range n).reverse).take k
  | 0, _ => rfl
  | k + 1, h => by
    have hk : k < (List.range n).reverse.length := by simp; omega
    rw [dnL, List.map_append, dnL_map n k, ← List.take_append_getElem hk]
    congr 1
    simp [List.getElem_reverse]
    omega
theorem dnL_flat (n : Nat) (us : Nat → List Wr) : (dnL n n (Nat.le_refl _)).flatMap (fun x => us x.1) = (List.range n).reverse.flatMap us := by
  have := dnL_map n n (Nat.le_refl _)
  rw [List.take_of_length_le (by simp)] at this
  rw [← this, List.flatMap_map]

/-- append, as a step of a region that draws its order, in a fence. -/
theorem stepIn_append {F : Fence} {n : Nat} {P : Program} (w : World) {ops : Array Oper} {o : Oper} {a : Act} {K : Act → World → Prop} {Q : Exit → Act → World → Prop} {E : Prop} (hgd : o.guard = none) (s x : Operand) (t : TypeId)
    (hop : o.op = .call { callee := .builtin .append, args := #[s, x], argTypes := #[t, t] })
    (base : Nat) (e : TypeId) (i : TypeInfo) (z : Value) (size bytes : Nat) (ht : P.underlying t = some (.slice e)) (hi : P.info? e = some i) (hz : i.zero = some z)
    (hsize : i.size = size) (hby : i.bytes = bytes) (hzs : z.cells.size = size) (hsz : 0 < size)
    (v : Value) (k : Nat) (xs : List Value) (hs : a.eval s = v) (hown : w.ownsRow base e size v k xs)
    (ad : Addr) (m c : Nat) (news : List Value) (hx : a.eval x = .slice (some ad) m c) (hl : news.length = m * size) (hnews : ∀ j u, news[j]? = some u → w.cell? (ad.add j) = some u) (h1 : ∀ u ∈ news, u.oneCell' = true)
    (hm : 0 < m) (h63 : k + m ≤ maxLen) (hbytes : (k + m) * bytes ≤ 140737488355328) (hbase : base ≤ w.heap.size) (H : Nat) (hH : w.heap.size = H)
    (h : ∀ g cap w', w'.ownsRow base e size (.slice (some ⟨g, 0, none⟩) (k + m) cap) (k + m) (xs ++ news) → w.grownBy w' v.ownBlock → (v.ownBlock = some g ∨ g = H) → g < w'.heap.size → K (a.put o.dst (.slice (some ⟨g, 0, none⟩) (k + m) cap)) w') :
    if Region.wanted o (yielded ops a.tmps) = true then Oper.wpIn F n P o a w K Q else E := by
  have hw : Region.wanted o (yielded ops a.tmps) = true := by simp [Region.wanted, hgd]
  rw [if_pos hw]
  obtain ⟨g, cap, w', hrun, r1, r2, r3, r4⟩ := run_append_lies (P := P) w t o.type base e i z size bytes ht hi hz hsize hby hzs hsz v k xs hown ad m c news hl hnews h1 hm h63 hbytes hbase H hH
  unfold Oper.wpIn
  refine ⟨?_, ?_⟩
  · simp [Oper.about, hop, resolve, Target.leads, Sem.run_pure]
  · rw [Oper.semAt_plain F _ _ (by rw [hop]; intro c hc'; cases hc')]
    simp [execOp, hop, resolve, invoke, builtin, hs, hx, hrun, Result.andThen]
    exact h g cap w' r1 r2 r3 r4

/-- The state of the loop in All's function. -/
def AllI (S : Nat → Prop) (e : Nat) (D : Nat → Prop) (σ : Sta) (v1 v2 v3 v4 v5 : Value) (te : TypeId) (us : Nat → List Wr) (n : Nat) (bs : Value) (w : World) (pre : List { i : Nat // i < n }) (W : World) : Prop :=
  ∃ (S1 : Nat → Prop) (v : Value) (N' : Nat → Nat) (cs' : Nat → Array Value) (us' : Nat → List Wr), Built S (fun q => w.heap.size ≤ q) e D σ v1 v2 v3 v4 v5 te w W S1 v pre.length (pre.flatMap fun x => us x.1) N' cs' us' ∧ Boxed W w.heap.size 104 v ∧ ¬ S1 w.heap.size ∧ Boxed W (w.heap.size + 1) 104 bs

theorem allI_own {S : Nat → Prop} {n B : Nat} {bs : Value} (hB : ∀ q, S q → q < B) (hw : w.heap.size ≤ B) : OwnFrom B (AllI S e D σ v1 v2 v3 v4 v5 te us n bs w) := by
  rintro pre W W' row ⟨S1, v, N', cs', us', h1, h2, h3, h6⟩ hg hr
  refine ⟨S1, v, N', cs', us', h1.turn hg hr hB hw, h2.kept hg fun e' => ?_, h3, h6.kept hg fun e' => ?_⟩
  rotate_left
  · obtain ⟨_, o, h4, h5⟩ := hr _ e'.symm
    rw [show W.heap[w.heap.size + 1]? = _ from h6] at h4
    cases h4
    simp [Obj.isCells] at h5
  obtain ⟨_, o, h4, h5⟩ := hr _ e'.symm
  rw [show W.heap[w.heap.size]? = _ from h2] at h4
  cases h4
  simp [Obj.isCells] at h5

set_option maxRecDepth 100000 in
set_option maxHeartbeats 4000000 in
/-- The function that All gives. -/
theorem bkAll (h : PhS w S e D σ v1 v2 v3 v4 v5 te) (g : Nat) (a : Option Addr) (n c : Nat) (hgS : S g) (hgr : w.heap[g]? = some (.cells #[.slice a n c] 104 (0, 0))) (ha : n = 0 ∨ ∃ h o, a = some ⟨h, o, none⟩ ∧ S h) (hn : n ≤ maxLen) (hn8 : n * 8 ≤ 140737488355328)
    (hc : ∀ i, i < n → ∀ h o, a = some ⟨h, o, none⟩ → w.cell? ⟨h, o + i, none⟩ = some (.func (.func (N i)) #[] (cs i))) (hent : ∀ i, i < n → ∀ args w, (callFunc (N i) args).run Tryz.prog w = .ok (.enter (N i) args) w)
    (hcall : ∀ i, i < n → ∀ W S1 σ1, (∀ q, S q → S1 q ∧ W.heap[q]? = w.heap[q]?) → PhS W S1 e D σ1 v1 v2 v3 v4 v5 te → Calls Tryz.prog (N i) (cs i) W (BkPost S1 e D σ1 (us i) v1 v2 v3 v4 v5 te W)) :
    Calls Tryz.prog 106 #[.pointer (some ⟨g, 0, none⟩)] w (BkPost S e D σ ((List.range n).reverse.flatMap us) v1 v2 v3 v4 v5 te w) := by
  have m0 : w.cell? ⟨g, 0, none⟩ = some (.slice a n c) := (cell_of_row w g 0 _ _ _ hgr).trans rfl
  have hgl := h.still g hgS
  have HP := toHid h
  have HC := toHid hc
  have HE := toHid hent
  have HCL := toHid hcall
  have HA := toHid ha
  clear hgr hc hent hcall h ha
  refine (callsIn_wide (n := 3)).1 ?_
  refine callsIn_of_wp_marks Tryz.func106 rfl trivial ?_ rfl
  simp only [Tryz.ntmps106, List.size_toArray, List.length_cons, List.length_nil, Nat.reduceAdd, Nat.reduceSub, Array.replicate_succ, Array.replicate_zero, List.push_toArray, List.append_toArray, List.nil_append, List.cons_append]
  gi_wp2_with (first | (gi_at_call 107; refine (backward _ a n c _).mono ?_; rintro e w' ⟨rfl, rfl⟩) | (refine ⟨trivial, ?_⟩; gi_at_call 107; refine (backward _ a n c _).mono ?_; rintro e w' ⟨rfl, rfl⟩))
  have hb2 : Below w.heap.size w ((w.alloc (.cells #[.slice none 0 0] 104)).alloc (.cells #[.slice a n c] 104)) := below2 w _ _
  have bO := Boxed.new w 104 (.slice none 0 0)
  have bN := Boxed.new (w.alloc (.cells #[.slice none 0 0] 104)) 104 (.slice a n c)
  rw [World.size_alloc] at bN
  have hSl : ∀ q, S q → q < w.heap.size := HP.out.still
  refine wpIn_rangeFunc_ownG rfl (by omega) (gf := 143) (lb := #[.pointer (some ⟨w.heap.size + 1, 0, none⟩)]) rfl trivial (enters_of Tryz.func143 (by kernel_rfl) rfl)
    (backward_stops _ (by omega) (w.heap.size + 1) n c a (fun i => .func (.func (N i)) #[] (cs i)) (fun q => S q ∨ q = w.heap.size + 1) hn (Or.inr rfl) _ (fun q hq => by rcases hq with hq | hq; have := hSl q hq; simp; omega; simp; omega) bN.cell (HA.out.imp id fun ⟨h, o, h1, h2⟩ => ⟨h, o, h1, Or.inl h2⟩) (fun i hi h o e' => by
      rcases HA.out with h0 | ⟨h', o', h1, h2⟩
      · omega
      · rw [e'] at h1
        cases h1
        exact (hb2.cell (p := ⟨h, o + i, none⟩) (hSl h h2)).trans (HC.out i hi h o e')))
    (fun h1 h2 => ⟨Nat.le_trans h1.1 h2.1, fun q hq => (h2.2 q hq).trans (h1.2 q hq)⟩)
    (fun W l o o' hl ho _ _ => ⟨by simp, fun q hq => World.putObj_heap_other (fun e' => by simp at hl; rcases hq with hq | hq; have := hSl q hq; omega; omega)⟩)
    (Below.refl _ _) (fun _ => rfl) (AllI S e D σ v1 v2 v3 v4 v5 te us n (.slice a n c) w) (fun _ _ _ => False)
    (allI_own (fun q hq => by have := hSl q hq; simp; omega) (by simp; omega)) (fun _ _ _ _ _ hs _ _ => hs)
    ⟨S, .slice none 0 0, _, _, _, (Built.start HP.out).next hb2, bO.alloc _, fun h1 => by have := hSl _ h1; omega, bN⟩
    (fun x => { tmps := #[.pointer (some ⟨g, 0, none⟩), .nilFunc, .pointer (some ⟨w.heap.size, 0, none⟩), undef, .func (.func (N x.1)) #[] (cs x.1), .slice a n c, .func (.func 143) #[] #[.pointer (some ⟨w.heap.size + 1, 0, none⟩)], .int .i64 (x.1 : Int), .func (.func (N x.1)) #[] (cs x.1), undef, undef, undef, undef, undef, undef, undef], defers := [] }) ?assign ?body ?done ?stop
  case assign =>
    intro l x W K hK
    gi_wp2
    exact hK
  case body =>
    rintro l pre x W ⟨S1, v, N', cs', us', hBu, hbox, hnS, hbs⟩ hlt
    obtain ⟨i1, gi, gz0, gz1, gz2⟩ := info_parts infoBack
    obtain ⟨an, ln, cn, rfl⟩ := own_slice hBu.own
    have hcb := hbox.cell
    have hmx : Tryz.prog.follows .mixedOrders = true := by kernel_rfl
    have heg := HE.out x.1 x.2
    have hwW := hBu.ks.size
    have hwB : w.heap.size < W.heap.size := hbox.lt
    have hpl : pre.length < n := hlt
    have HBU := toHid hBu
    have HBX := toHid hbox
    have hno : (Value.slice an ln cn).ownBlock ≠ some w.heap.size := fun h1 => hbox.not_row (by decide) hBu.own h1.symm
    have HCA := toHid (fun W' (hW : Below W.heap.size W W') => (HCL.out x.1 x.2 W' S1 _ (fun q hq => ⟨HBU.out.s0 q hq, (hW.block q (HBU.out.ph.still q (HBU.out.s0 q hq))).trans (HBU.out.ks.block q (hSl q hq) (HP.out.notP q hq))⟩) (HBU.out.ph.next hW)).mono (R' := fun r w2 => ∃ N1 cs1, r = .returned (.func (.func N1) #[] cs1) ∧ Hid (∃ S2, (∀ q, S1 q → S2 q) ∧ (∀ q, S2 q → S1 q ∨ (W.heap.size ≤ q ∧ ∃ c t z, w2.heap[q]? = some (.cells c t z))) ∧ PhS w2 S2 e D (runW (us x.1) (runW (pre.flatMap fun x => us x.1) σ)) v1 v2 v3 v4 v5 te ∧ BkAt e D w2 S2 N1 cs1 (invW (us x.1) (runW (pre.flatMap fun x => us x.1) σ)) ∧ Ks (fun q => q = e ∨ D q) W w2) ∧ Hid (w2.ownsRow w.heap.size 151 1 (.slice an ln cn) pre.length ((List.range pre.length).map fun j => fnV (N' j) (cs' j))) ∧ W.heap.size ≤ w2.heap.size ∧ Hid (Boxed w2 w.heap.size 104 (.slice an ln cn))) (by
      rintro r w2 ⟨N1, cs1, S2, rfl, q0, q1, q2, q3, q4⟩
      have hk2 : Ks (fun q => q = e ∨ D q) W w2 := (Ks.of hW).trans q4
      refine ⟨N1, cs1, rfl, ⟨S2, q0, fun q hq => (q1 q hq).imp id fun h => ⟨Nat.le_trans hW.size h.1, h.2⟩, q2, q3, hk2⟩, own_ke HBU.out.own hk2 fun q hq h1 => ?_, hk2.size, hk2.cells HBX.out fun h1 => ?_⟩
      · obtain ⟨_, h2, h3⟩ := HBU.out.ob q hq
        rcases h1 with h1 | h1
        · exact h2 h1
        · exact h3 h1
      · have hel := HP.out.lt
        rcases h1 with h1 | h1
        · omega
        · have := (HP.out.fld _ h1).lt; omega))
    have HEND := toHid (show ∀ (N1 : Nat) (cs1 : Array Value) (w2 : World) (g' cap' : Nat) (w3 : World), (∃ S2, (∀ q, S1 q → S2 q) ∧ (∀ q, S2 q → S1 q ∨ (W.heap.size ≤ q ∧ ∃ c t z, w2.heap[q]? = some (.cells c t z))) ∧ PhS w2 S2 e D (runW (us x.1) (runW (pre.flatMap fun x => us x.1) σ)) v1 v2 v3 v4 v5 te ∧ BkAt e D w2 S2 N1 cs1 (invW (us x.1) (runW (pre.flatMap fun x => us x.1) σ)) ∧ Ks (fun q => q = e ∨ D q) W w2) → W.heap.size ≤ w2.heap.size →
        w3.ownsRow w.heap.size 151 1 (.slice (some ⟨g', 0, none⟩) (pre.length + 1) cap') (pre.length + 1) (((List.range pre.length).map fun j => fnV (N' j) (cs' j)) ++ [.func (.func N1) #[] cs1]) → (w2.alloc (.cells #[.func (.func N1) #[] cs1] 151)).grownBy w3 (Value.slice an ln cn).ownBlock → ((Value.slice an ln cn).ownBlock = some g' ∨ g' = w2.heap.size + 1) → Boxed w3 w.heap.size 104 (.slice an ln cn) →
        KeepsFrom ((w.alloc (.cells #[.slice none 0 0] 104)).alloc (.cells #[.slice a n c] 104)).heap.size W (w3.setCell ⟨w.heap.size, 0, none⟩ (.slice (some ⟨g', 0, none⟩) (pre.length + 1) cap')) ∧ KpB (fun q => S q ∨ q = w.heap.size + 1) W (w3.setCell ⟨w.heap.size, 0, none⟩ (.slice (some ⟨g', 0, none⟩) (pre.length + 1) cap')) ∧ AllI S e D σ v1 v2 v3 v4 v5 te us n (.slice a n c) w (pre ++ [x]) (w3.setCell ⟨w.heap.size, 0, none⟩ (.slice (some ⟨g', 0, none⟩) (pre.length + 1) cap')) from by
      rintro N1 cs1 w2 g' cap' w3 ⟨S2, q0, q1, q2, q3, q4⟩ hs2 hown hgr hat hbx
      have hel := HP.out.lt
      have hg3 := hgr.size
      simp at hg3
      have hst := HBU.out.step (hO := fun q hq => Nat.le_trans HBU.out.ks.size hq) q0 q1 q2 q3 q4 hgr hown (by
        rcases hat with h1 | h1
        · exact Or.inl (by rw [h1]; rfl)
        · exact Or.inr ⟨g', rfl, by rw [h1]; exact Nat.le_succ _⟩)
      have hnS2 : ¬ S2 w.heap.size := fun h1 => by
        rcases q1 _ h1 with h2 | h2
        · exact hnS h2
        · omega
      have hgne : g' ≠ w.heap.size := fun h1 => by
        rcases hat with h2 | h2
        · exact hno (by rw [h2, h1])
        · omega
      have hset : ∀ q, q ≠ w.heap.size → (w3.setCell ⟨w.heap.size, 0, none⟩ (.slice (some ⟨g', 0, none⟩) (pre.length + 1) cap')).heap[q]? = w3.heap[q]? := fun q hq => Below.heap_setCell _ _ _ _ hq
      have hold : ∀ q, q < W.heap.size → q ≠ w.heap.size → ¬ (q = e ∨ D q) → (Value.slice an ln cn).ownBlock ≠ some q → (w3.setCell ⟨w.heap.size, 0, none⟩ (.slice (some ⟨g', 0, none⟩) (pre.length + 1) cap')).heap[q]? = W.heap[q]? := fun q hq h1 h2 h3 => by
        rw [hset q h1, hgr.block q (by simp; omega) (fun h => h3 h.symm), Below.heap_alloc _ _ _ (by omega)]
        exact q4.block q hq h2
      have hrange : (pre ++ [x]).flatMap (fun x => us x.1) = (pre.flatMap fun x => us x.1) ++ us x.1 := by simp
      have hfin := hst.atSet (q := w.heap.size) (j := 0) (u := .slice (some ⟨g', 0, none⟩) (pre.length + 1) cap') hnS2 (by simpa [Value.ownBlock] using hgne) (Nat.le_refl _) (by omega) fun h1 => by have := (HP.out.fld _ h1).lt; omega
      rw [← hrange] at hfin
      have hlen : (pre ++ [x]).length = pre.length + 1 := by simp
      have hno2 : (Value.slice an ln cn).ownBlock ≠ some (w.heap.size + 1) := fun h1 => hbs.not_row (by decide) HBU.out.own h1.symm
      have hbsl := hbs.lt
      have hbs2 : (w3.setCell ⟨w.heap.size, 0, none⟩ (.slice (some ⟨g', 0, none⟩) (pre.length + 1) cap')).heap[w.heap.size + 1]? = W.heap[w.heap.size + 1]? := hold _ hbsl (by omega) (fun h1 => by
          rcases h1 with h1 | h1
          · omega
          · have := (HP.out.fld _ h1).lt; omega) hno2
      refine ⟨⟨by simp; omega, fun q o hB hq ho => ?_⟩, ⟨by simp; omega, fun q hq => ?_⟩, S2, _, _, _, _, by rw [hlen]; exact hfin, ?_, hnS2, hbs2.trans hbs⟩
      · simp at hB
        refine (hold q (Array.getElem?_eq_some_iff.1 hq).1 (by omega) (fun h1 => ?_) fun h1 => ?_).trans hq
        · rcases h1 with h1 | h1
          · omega
          · have := (HP.out.fld q h1).lt; omega
        · rcases HBU.out.own.2 with ⟨h3, _⟩ | ⟨gg, cap, cur, h3, _, h4, _⟩
          · rw [h3] at h1; simp [Value.ownBlock] at h1
          · rw [h3] at h1
            simp [Value.ownBlock] at h1
            subst h1
            rw [h4] at hq
            cases hq
            simp [Obj.isCells] at ho
      · rcases hq with hq | rfl
        · have hqw := hSl q hq
          refine hold q (by omega) (by omega) (HP.out.notP q hq) fun h1 => ?_
          exact (HBU.out.ob q h1).1 (HBU.out.s0 q hq)
        · exact hbs2
      · have := hbx.set (.slice (some ⟨g', 0, none⟩) (pre.length + 1) cap')
        simpa using this)
    clear hBu hbox hlt hbs
    gi_wp2
    refine wpIn_region_any hmx ?_
    change wpAnyIn _ _ _ _ _ _ _ _ _ (World.drew _)
    refine wpAnyIn_ready (rs := [0, 1]) (by kernel_rfl) (by simp) ?_
    refine AllReadyIn.cons rfl (fun K hK => ?_) (AllReadyIn.cons rfl (fun K hK => ?_) AllReadyIn.nil)
    · go_simp
      refine hK _ _ ?_
      clear hK K
      refine wpAnyIn_ready (rs := [1]) (by kernel_rfl) (by simp) (AllReadyIn.cons rfl (fun K hK => ?_) AllReadyIn.nil)
      go_simp
      refine hK _ _ ?_
      clear hK K
      refine wpAnyIn_ready (rs := [2]) (by kernel_rfl) (by simp) (AllReadyIn.cons rfl (fun K hK => ?_) AllReadyIn.nil)
      go_simp
      refine ⟨trivial, (CallsIn.inRound l (callsIn_wide.2 (HCA.out _ (Below.refl _ _).drew))).mono ?_⟩; rintro e2 w2 ⟨N1, cs1, rfl, B2, BO, hs2, BX⟩; refine hK _ _ ?_; clear hK K
      have hcb2 := BX.out.cell
      refine wpAnyIn_ready (rs := [3]) (by kernel_rfl) (by simp) (AllReadyIn.cons rfl (fun K hK => ?_) AllReadyIn.nil)
      go_simp
      refine hK _ _ ?_
      clear hK K
      refine wpAnyIn_ready (rs := [4]) (by kernel_rfl) (by simp) (AllReadyIn.cons rfl (fun K hK => ?_) AllReadyIn.nil)
      refine stepIn_append _ (by rfl) (.tmp 9) (.tmp 12) 104 (by rfl) w.heap.size 151 i1 .nilFunc 1 8 Tryz.underlying104 gi gz0 gz1 gz2 rfl (by decide) (.slice an ln cn) pre.length _ (by rfl) (BO.out.alloc _) ⟨w2.heap.size, 0, none⟩ 1 1 [.func (.func N1) #[] cs1] (by rfl) rfl (fun q u hq => cells_new w2 [.func (.func N1) #[] cs1] 151 q u hq) (fun u hu => by simp at hu; subst hu; rfl) (by omega) (by omega) (by omega) (by simp; omega) (w2.heap.size + 1) (by simp) ?_
      intro g' cap' w3 hown' hgrow hat hltg
      refine hK _ _ ?_
      clear hK K
      have hbx3 : Boxed w3 w.heap.size 104 (.slice an ln cn) := (hgrow.block _ (by simp; omega) (fun h1 => hno h1.symm)).trans ((Below.heap_alloc w2 _ _ (by omega)).trans BX.out)
      have hcb3 := hbx3.cell
      have hfb3 := hbx3.frozen
      have HOW := toHid hown'
      have HGR := toHid hgrow
      have HAT := toHid hat
      have HB3 := toHid hbx3
      clear hown' hgrow hat hbx3
      refine wpAnyIn_ready (rs := [5]) (by kernel_rfl) (by simp) (AllReadyIn.cons rfl (fun K hK => ?_) AllReadyIn.nil)
      go_simp
      refine hK _ _ ?_
      clear hK K
      refine wpAnyIn_done (by kernel_rfl) ?_ _
      gi_wp2
      exact HEND.out N1 cs1 w2 g' cap' w3 B2.out hs2 HOW.out HGR.out HAT.out HB3.out
    · go_simp
      refine hK _ _ ?_
      clear hK K
      refine wpAnyIn_ready (rs := [0, 2]) (by kernel_rfl) (by simp) (AllReadyIn.cons rfl (fun K hK => ?_) (AllReadyIn.cons rfl (fun K hK => ?_) AllReadyIn.nil))
      · go_simp
        refine hK _ _ ?_
        clear hK K
        refine wpAnyIn_ready (rs := [2]) (by kernel_rfl) (by simp) (AllReadyIn.cons rfl (fun K hK => ?_) AllReadyIn.nil)
        go_simp
        refine ⟨trivial, (CallsIn.inRound l (callsIn_wide.2 (HCA.out _ (Below.refl _ _).drew))).mono ?_⟩; rintro e2 w2 ⟨N1, cs1, rfl, B2, BO, hs2, BX⟩; refine hK _ _ ?_; clear hK K
        have hcb2 := BX.out.cell
        refine wpAnyIn_ready (rs := [3]) (by kernel_rfl) (by simp) (AllReadyIn.cons rfl (fun K hK => ?_) AllReadyIn.nil)
        go_simp
        refine hK _ _ ?_
        clear hK K
        refine wpAnyIn_ready (rs := [4]) (by kernel_rfl) (by simp) (AllReadyIn.cons rfl (fun K hK => ?_) AllReadyIn.nil)
        refine stepIn_append _ (by rfl) (.tmp 9) (.tmp 12) 104 (by rfl) w.heap.size 151 i1 .nilFunc 1 8 Tryz.underlying104 gi gz0 gz1 gz2 rfl (by decide) (.slice an ln cn) pre.length _ (by rfl) (BO.out.alloc _) ⟨w2.heap.size, 0, none⟩ 1 1 [.func (.func N1) #[] cs1] (by rfl) rfl (fun q u hq => cells_new w2 [.func (.func N1) #[] cs1] 151 q u hq) (fun u hu => by simp at hu; subst hu; rfl) (by omega) (by omega) (by omega) (by simp; omega) (w2.heap.size + 1) (by simp) ?_
        intro g' cap' w3 hown' hgrow hat hltg
        refine hK _ _ ?_
        clear hK K
        have hbx3 : Boxed w3 w.heap.size 104 (.slice an ln cn) := (hgrow.block _ (by simp; omega) (fun h1 => hno h1.symm)).trans ((Below.heap_alloc w2 _ _ (by omega)).trans BX.out)
        have hcb3 := hbx3.cell
        have hfb3 := hbx3.frozen
        have HOW := toHid hown'
        have HGR := toHid hgrow
        have HAT := toHid hat
        have HB3 := toHid hbx3
        clear hown' hgrow hat hbx3
        refine wpAnyIn_ready (rs := [5]) (by kernel_rfl) (by simp) (AllReadyIn.cons rfl (fun K hK => ?_) AllReadyIn.nil)
        go_simp
        refine hK _ _ ?_
        clear hK K
        refine wpAnyIn_done (by kernel_rfl) ?_ _
        gi_wp2
        exact HEND.out N1 cs1 w2 g' cap' w3 B2.out hs2 HOW.out HGR.out HAT.out HB3.out
      · go_simp
        refine ⟨trivial, (CallsIn.inRound l (callsIn_wide.2 (HCA.out _ (Below.refl _ _).drew))).mono ?_⟩; rintro e2 w2 ⟨N1, cs1, rfl, B2, BO, hs2, BX⟩; refine hK _ _ ?_; clear hK K
        have hcb2 := BX.out.cell
        refine wpAnyIn_ready (rs := [0, 3]) (by kernel_rfl) (by simp) (AllReadyIn.cons rfl (fun K hK => ?_) (AllReadyIn.cons rfl (fun K hK => ?_) AllReadyIn.nil))
        · go_simp
          refine hK _ _ ?_
          clear hK K
          refine wpAnyIn_ready (rs := [3]) (by kernel_rfl) (by simp) (AllReadyIn.cons rfl (fun K hK => ?_) AllReadyIn.nil)
          go_simp
          refine hK _ _ ?_
          clear hK K
          refine wpAnyIn_ready (rs := [4]) (by kernel_rfl) (by simp) (AllReadyIn.cons rfl (fun K hK => ?_) AllReadyIn.nil)
          refine stepIn_append _ (by rfl) (.tmp 9) (.tmp 12) 104 (by rfl) w.heap.size 151 i1 .nilFunc 1 8 Tryz.underlying104 gi gz0 gz1 gz2 rfl (by decide) (.slice an ln cn) pre.length _ (by rfl) (BO.out.alloc _) ⟨w2.heap.size, 0, none⟩ 1 1 [.func (.func N1) #[] cs1] (by rfl) rfl (fun q u hq => cells_new w2 [.func (.func N1) #[] cs1] 151 q u hq) (fun u hu => by simp at hu; subst hu; rfl) (by omega) (by omega) (by omega) (by simp; omega) (w2.heap.size + 1) (by simp) ?_
          intro g' cap' w3 hown' hgrow hat hltg
          refine hK _ _ ?_
          clear hK K
          have hbx3 : Boxed w3 w.heap.size 104 (.slice an ln cn) := (hgrow.block _ (by simp; omega) (fun h1 => hno h1.symm)).trans ((Below.heap_alloc w2 _ _ (by omega)).trans BX.out)
          have hcb3 := hbx3.cell
          have hfb3 := hbx3.frozen
          have HOW := toHid hown'
          have HGR := toHid hgrow
          have HAT := toHid hat
          have HB3 := toHid hbx3
          clear hown' hgrow hat hbx3
          refine wpAnyIn_ready (rs := [5]) (by kernel_rfl) (by simp) (AllReadyIn.cons rfl (fun K hK => ?_) AllReadyIn.nil)
          go_simp
          refine hK _ _ ?_
          clear hK K
          refine wpAnyIn_done (by kernel_rfl) ?_ _
          gi_wp2
          exact HEND.out N1 cs1 w2 g' cap' w3 B2.out hs2 HOW.out HGR.out HAT.out HB3.out
        · go_simp
          refine hK _ _ ?_
          clear hK K
          have hlt2 : w.heap.size < w2.heap.size := by omega
          refine wpAnyIn_ready (rs := [0]) (by kernel_rfl) (by simp) (AllReadyIn.cons rfl (fun K hK => ?_) AllReadyIn.nil)
          go_simp
          refine hK _ _ ?_
          clear hK K
          refine wpAnyIn_ready (rs := [4]) (by kernel_rfl) (by simp) (AllReadyIn.cons rfl (fun K hK => ?_) AllReadyIn.nil)
          refine stepIn_append _ (by rfl) (.tmp 9) (.tmp 12) 104 (by rfl) w.heap.size 151 i1 .nilFunc 1 8 Tryz.underlying104 gi gz0 gz1 gz2 rfl (by decide) (.slice an ln cn) pre.length _ (by rfl) (BO.out.alloc _) ⟨w2.heap.size, 0, none⟩ 1 1 [.func (.func N1) #[] cs1] (by rfl) rfl (fun q u hq => cells_new w2 [.func (.func N1) #[] cs1] 151 q u hq) (fun u hu => by simp at hu; subst hu; rfl) (by omega) (by omega) (by omega) (by simp; omega) (w2.heap.size + 1) (by simp) ?_
          intro g' cap' w3 hown' hgrow hat hltg
          refine hK _ _ ?_
          clear hK K
          have hbx3 : Boxed w3 w.heap.size 104 (.slice an ln cn) := (hgrow.block _ (by simp; omega) (fun h1 => hno h1.symm)).trans ((Below.heap_alloc w2 _ _ (by omega)).trans BX.out)
          have hcb3 := hbx3.cell
          have hfb3 := hbx3.frozen
          have HOW := toHid hown'
          have HGR := toHid hgrow
          have HAT := toHid hat
          have HB3 := toHid hbx3
          clear hown' hgrow hat hbx3
          refine wpAnyIn_ready (rs := [5]) (by kernel_rfl) (by simp) (AllReadyIn.cons rfl (fun K hK => ?_) AllReadyIn.nil)
          go_simp
          refine hK _ _ ?_
          clear hK K
          refine wpAnyIn_done (by kernel_rfl) ?_ _
          gi_wp2
          exact HEND.out N1 cs1 w2 g' cap' w3 B2.out hs2 HOW.out HGR.out HAT.out HB3.out
  case done =>
    rintro D' ys W hD rfl ⟨S1, v, N', cs', us', hBu, hbox, hnS, hbs⟩ hK
    have hcell := hbox.cell
    obtain ⟨an, ln, cn, rfl⟩ := own_slice hBu.own
    have HAL := toHid (hBu.all (hk8 := by rw [dnL_length]; exact hn8) (hO := fun q hq => Nat.le_trans hBu.ks.size hq))
    have HBU := toHid hBu
    have HK := toHid hK
    clear hBu hbox hbs hK
    gi_wp2_with (first | (refine ⟨trivial, ?_⟩; gi_at_call 72; refine (callsIn_wide.2 HAL.out).mono ?_; rintro r w1 ⟨⟨N1, cs1, S2, rfl, hrest⟩, hb1⟩; have HR := toHid hrest; have HB1 := toHid hb1; clear hrest hb1) | (gi_at_call 72; refine (callsIn_wide.2 HAL.out).mono ?_; rintro r w1 ⟨⟨N1, cs1, S2, rfl, hrest⟩, hb1⟩; have HR := toHid hrest; have HB1 := toHid hb1; clear hrest hb1))
    have hK1 := (HB1.out.block D' (Array.getElem?_eq_some_iff.1 HK.out).1).trans HK.out
    refine ⟨by simp, .inl ⟨_, _, rfl, run_takeDeferred hK1, ?_⟩⟩
    have hfin : BkPost S e D σ ((dnL n n (Nat.le_refl _)).flatMap fun x => us x.1) v1 v2 v3 v4 v5 te w (.returned (.func (.func N1) #[] cs1)) w1 := ⟨N1, cs1, S2, rfl, HR.out⟩
    rw [dnL_flat] at hfin
    have hfin2 : BkPost S e D σ ((List.range n).reverse.flatMap us) v1 v2 v3 v4 v5 te w (.returned (.func (.func N1) #[] cs1)) (w1.putObj D' (.deferred none)) := BkPostO.turn hfin (grownBy_putObj' _ D' (.deferred none)) (fun r e' => by cases e'; exact ⟨by simp at hD; omega, _, hK1, rfl⟩) hSl
    refine ⟨.func (.func N1) #[] cs1, ?_, hfin2⟩
    simp [results, Tryz.f106, go_sem]
  case stop =>
    rintro D' c pre W _ _ h _
    exact h.elim
end Go.Proofs.YtihgojcfpnhelaaGreatDoor
namespace Go.Proofs.YtihgojcfpnhelaaGreatDoor
open Go.RowKit

variable {S S1 O : Nat → Prop} {e : Nat} {D : Nat → Prop} {σ : Sta} {v1 v2 v3 v4 v5 : Value} {te : TypeId} {w W W1 W2 : World} {v v' : Value} {k : Nat} {ws : List Wr} {N : Nat → Nat} {cs : Nat → Array Value} {us : Nat → List Wr}

/-- What is written when fields are worked out anew, one behind the other. -/
def workS : Sta → List Nat → List Wr
  | _, [] => []
  | σ, b :: r => .vl b (valP (rho σ.fs) (σ.mem b).p) :: workS (wr1 σ (.vl b (valP (rho σ.fs) (σ.mem b).p))) r

theorem workS_snoc (l : List Nat) (b : Nat) : ∀ σ : Sta, workS σ (l ++ [b]) = workS σ l ++ [.vl b (valP (rho (runW (workS σ l) σ).fs) ((runW (workS σ l) σ).mem b).p)] := by
  induction l with
  | nil => intro σ; rfl
  | cons c r ih => intro σ; simp only [List.cons_append, workS, runW, ih]

theorem wr1_ord (σ : Sta) (b : Nat) (v : Vl) : (wr1 σ (.vl b v)).ord = σ.ord := rfl
theorem workS_ord (l : List Nat) : ∀ σ : Sta, (runW (workS σ l) σ).ord = σ.ord := by
  induction l with
  | nil => intro σ; rfl
  | cons c r ih => intro σ; simp only [workS, runW, ih, wr1_ord]

theorem wr1_vl_fs (σ : Sta) (b : Nat) (v : Vl) : (wr1 σ (.vl b v)).fs = setV σ.fs b v := by
  unfold Sta.fs setV
  rw [List.map_map]
  refine List.map_congr_left fun q _ => ?_
  simp only [Function.comp]
  by_cases h : q = b
  · subst h
    simp [wr1, put_mem]
  · simp [wr1, put_mem_ne _ _ _ _ h, h]

theorem ruleOf_fs (σ : Sta) (b : Nat) (hb : b ∈ σ.ord) : ruleOf σ.fs b = (σ.mem b).p := by
  unfold ruleOf Sta.fs
  rw [List.find?_map]
  have : ((fun f : Nat × Fd => f.1 == b) ∘ fun b => (b, σ.mem b)) = fun q => q == b := rfl
  rw [this]
  cases h : σ.ord.find? (fun q => q == b) with
  | none =>
    rw [List.find?_eq_none] at h
    exact absurd (beq_self_eq_true b) (h b hb)
  | some q =>
    have := List.find?_some h
    simp at this
    subst this
    rfl

theorem workS_fs (l : List Nat) : ∀ σ : Sta, (∀ b, b ∈ l → b ∈ σ.ord) → (runW (workS σ l) σ).fs = workP σ.fs l := by
  induction l with
  | nil => intro σ _; rfl
  | cons c r ih =>
    intro σ h
    simp only [workS, runW, workP]
    rw [ih (wr1 σ (.vl c (valP (rho σ.fs) (σ.mem c).p))) fun b hb => h b (by simp [hb]), wr1_vl_fs, ruleOf_fs σ c (h c (by simp))]

theorem Built.own2 (h : Built S O e D σ v1 v2 v3 v4 v5 te w W S1 v k ws N cs us) (hk : Ks (fun q => q = e ∨ D q) W W1) : W1.ownsRow w.heap.size 151 1 v k ((List.range k).map fun j => fnV (N j) (cs j)) :=
  own_ke h.own hk fun q hq h1 => by
    obtain ⟨_, h2, h3⟩ := h.ob q hq
    rcases h1 with h1 | h1
    · exact h2 h1
    · exact h3 h1

set_option maxRecDepth 100000 in
set_option maxHeartbeats 4000000 in
theorem workOutS (ck : Nat) (ak : Option Addr) (ks : List Nat) (h : PhS w S e D σ v1 v2 v3 v4 v5 te) (hl : σ.ord.length ≤ 500) (hkl : ks.length ≤ 500)
    (hk : ∀ j (h : j < ks.length), D (ks[j]) ∧ ∃ g o, ak = some ⟨g, o, none⟩ ∧ g < w.heap.size ∧ g ≠ e ∧ ¬ D g ∧ w.cell? ⟨g, o + j, none⟩ = some (.pointer (some ⟨ks[j], 0, none⟩))) :
    Calls Tryz.prog 167 #[.pointer (some ⟨e, 0, none⟩), .slice ak ks.length ck] w (BkPost S e D σ (workS σ ks) v1 v2 v3 v4 v5 te w) := by
  have HS := toHid h
  have HK := toHid hk
  obtain ⟨i1, gi, gz0, gz1, gz2⟩ := info_parts infoBack
  clear h hk
  go_enter Tryz.func167, Tryz.ntmps167
  go_wp2_with fail
  go_loopg [5, 7, 10] ks.length (fun gk s5 _ s10 wr => ∃ (j : Nat) (S1 : Nat → Prop) (N : Nat → Nat) (cs : Nat → Array Value) (us : Nat → List Wr), j ≤ ks.length ∧ ks.length ≤ j + gk ∧ s10 = .int .i64 (j : Int) ∧ Hid (Built S (fun q => w.heap.size ≤ q) e D σ v1 v2 v3 v4 v5 te w wr S1 s5 j (workS σ (ks.take j)) N cs us))
  case atStart => exact ⟨0, _, _, _, _, Nat.zero_le _, by omega, rfl, Built.start HS.out⟩
  case round =>
    obtain ⟨j, S1, N, cs, us, hj, hgk, rfl, HI⟩ := hrel
    have hsz := HI.out.ks.size
    by_cases hlt : j < ks.length
    · have hltz : (j : Int) < (ks.length : Int) := by omega
      obtain ⟨hD, g, o, rfl, hg, hge, hgD, hp⟩ := HK.out j hlt
      have hp' := (World.cell?_of_block (a := ⟨g, o + j, none⟩) (HI.out.ks.block g hg (by rintro (h1 | h1); exact hge h1; exact hgD h1))).trans hp
      have HSTEP := toHid (workS_snoc (ks.take j) ks[j] σ)
      rw [show ks.take j ++ [ks[j]] = ks.take (j + 1) by rw [List.take_append_getElem hlt]] at HSTEP
      have hord : (runW (workS σ (ks.take j)) σ).ord = σ.ord := workS_ord _ _
      have HOL := toHid (show (runW (workS σ (ks.take j)) σ).fs.length ≤ 500 by unfold Sta.fs; rw [List.length_map, hord]; exact hl)
      clear hord
      generalize ks[j] = b at *
      generalize hσj : runW (workS σ (ks.take j)) σ = σj at *
      have hpj : PhS wr S1 e D σj v1 v2 v3 v4 v5 te := by rw [← hσj]; exact HI.out.ph
      have HPJ := toHid hpj
      have hF := hpj.fld b hD
      have hFl := hF.lt
      obtain ⟨_, hsh, _, _, a2, l2, c2, hb2, hP2⟩ := hF
      obtain ⟨⟨k0, k1, k2, k3, k4, k5, k6⟩, hfz, _⟩ := row7 hb2
      obtain ⟨a, c, hSh, _, _, hrowE⟩ := hpj.sh
      have hel := hpj.lt
      have hce : wr.cell? ⟨e, 0, none⟩ = some (.slice a σj.fs.length c) := (row6 hrowE).1.1
      have HC := toHid (ruleWorth (.pointer (some ⟨e, 0, none⟩)) (rho σj.fs) (σj.mem b).p a2 l2 c2 wr.drew (hP2.next fun _ _ => rfl) hpj.still hsh (fun x W hW => worth172 x e c a σj.fs W ((hSh.next (Below.refl _ _).drew).next hW) ((hW.cell (p := ⟨e, 0, none⟩) hel).trans hce) (by have := hW.size; simp at this; omega) (by have := HOL.out; omega)))
      obtain ⟨an, ln, cn, rfl⟩ := own_slice HI.out.own
      generalize hvv : valP (rho σj.fs) (σj.mem b).p = vv at *
      have HC2 := toHid (show Calls Tryz.prog 197 #[.agg #[.int .i64 ((σj.mem b).p.k : Int), .string ⟨(σj.mem b).p.nm.toArray⟩, .int .i64 ((σj.mem b).p.n : Int), .slice a2 l2 c2], .func (.func 198) #[.pointer (some ⟨e, 0, none⟩)] #[]] wr.drew (VPost vv wr.drew) from HC.out)
      have HPW := toHid (fun W (hW : Below wr.drew.heap.size wr.drew W) => (putVlX ((HPJ.out.next (Below.refl _ _).drew).next hW) hD vv ((hW.block b hFl).trans hb2) (hP2.next fun q hq => hW.block q (HPJ.out.still q hq))).mono (R' := fun r w2 => ∃ N1 cs1, r = .returned (.func (.func N1) #[] cs1) ∧ Hid (∃ S2, (∀ q, S1 q → S2 q) ∧ (∀ q, S2 q → S1 q ∨ (wr.heap.size ≤ q ∧ ∃ c t z, w2.heap[q]? = some (.cells c t z))) ∧ PhS w2 S2 e D (wr1 σj (.vl b vv)) v1 v2 v3 v4 v5 te ∧ BkAt e D w2 S2 N1 cs1 [iw1 σj (.vl b vv)] ∧ Ks (fun q => q = e ∨ D q) wr w2) ∧ Hid (w2.ownsRow w.heap.size 151 1 (.slice an ln cn) j ((List.range j).map fun j => fnV (N j) (cs j))) ∧ wr.heap.size ≤ w2.heap.size ∧ Hid (w2.heap[b]? = some (.cells #[.string ⟨(σj.mem b).nm.toArray⟩, .int .i64 ((σj.mem b).p.k : Int), .string ⟨(σj.mem b).p.nm.toArray⟩, .int .i64 ((σj.mem b).p.n : Int), .slice a2 l2 c2, .int .i64 vv.1, .int .i64 vv.2] 223 (0, 0)))) (by
        rintro r w2 ⟨⟨N1, cs1, S2, rfl, q0, q1, q2, q3, q4⟩, hrow⟩
        have hk2 : Ks (fun q => q = e ∨ D q) wr w2 := (Ks.of ((Below.refl _ _).drew.trans hW)).trans q4
        exact ⟨N1, cs1, rfl, ⟨S2, q0, fun q hq => (q1 q hq).imp id fun h => ⟨Nat.le_trans hW.size h.1, h.2⟩, q2, q3, hk2⟩, HI.out.own2 hk2, hk2.size, hrow⟩))
      have HRW := toHid (fun W (hW : Below wr.drew.heap.size wr.drew W) => row7 ((hW.block b hFl).trans hb2))
      clear HC hfz hb2 hSh hrowE hpj
      have hobB : ∀ q, (Value.slice an ln cn).ownBlock = some q → q ≠ b := fun q hq e' => (HI.out.ob q hq).2.2 (e' ▸ hD)
      have HOB := toHid hobB
      clear hobB
      go_wp2_with fail
      go_region_held3 (fun w' => w'.cell? ⟨b, 1, none⟩ = some (.int .i64 ((σj.mem b).p.k : Int)) ∧ w'.cell? ⟨b, 2, none⟩ = some (.string ⟨(σj.mem b).p.nm.toArray⟩) ∧ w'.cell? ⟨b, 3, none⟩ = some (.int .i64 ((σj.mem b).p.n : Int)) ∧ w'.cell? ⟨b, 4, none⟩ = some (.slice a2 l2 c2)) (first | go_keep | (go_split_ands; exact ⟨n1, n2, n3, n4⟩)) (first | (go_at_call 197; refine HC2.out.mono ?_; rintro e w1 ⟨rfl, hb1⟩; obtain ⟨⟨n0, n1, n2, n3, n4, n5, n6⟩, _, _⟩ := HRW.out _ hb1; have B1 := toHid hb1; clear hb1) | (go_at_call 196; refine (HPW.out _ B1.out).mono ?_; rintro e w2 ⟨N1, cs1, rfl, B2, BO, hs2, B3⟩; obtain ⟨⟨n0, n1, n2, n3, n4, n5, n6⟩, _, _⟩ := row7 B3.out) | (refine step_append_lies _ (by rfl) (.tmp 14) (.tmp 26) 104 (by rfl) w.heap.size 151 i1 .nilFunc 1 8 Tryz.underlying104 gi gz0 gz1 gz2 rfl (by decide) (.slice an ln cn) j _ (by rfl) (BO.out.alloc _) ⟨w2.heap.size, 0, none⟩ 1 1 [.func (.func N1) #[] cs1] (by rfl) rfl (fun q u hq => cells_new w2 [.func (.func N1) #[] cs1] 151 q u hq) (fun u hu => by simp at hu; subst hu; rfl) (by omega) (by unfold maxLen; omega) (by omega) (by simp; omega) (w2.heap.size + 1) (by simp) ?_; intro g' cap' w3 hown' hgrow hat hltg; obtain ⟨⟨n0, n1, n2, n3, n4, n5, n6⟩, _, _⟩ := row7 ((hgrow.block b (by simp; omega) (fun e => HOB.out b e.symm rfl)).trans ((Below.heap_alloc w2 _ _ (by omega)).trans B3.out)); have B4 := toHid hown'; have B5 := toHid hgrow; have B6 := toHid hat; clear hown' hgrow hat))
      all_goals go_wp2
      all_goals go_roundg (ks.length - (j + 1))
      all_goals try (case measure => omega)
      all_goals (
        obtain ⟨S2, q0, q1, q2, q3, q4⟩ := B2.out
        have hst := HI.out.step (hO := fun q hq => Nat.le_trans HI.out.ks.size hq) (us1 := [.vl b vv]) q0 q1 (by rw [hσj]; exact q2) (by rw [hσj]; exact q3) q4 B5.out B4.out (by
          rcases B6.out with h1 | h1
          · exact Or.inl (by rw [h1]; rfl)
          · exact Or.inr ⟨g', rfl, by rw [h1]; exact Nat.le_succ _⟩)
        rw [← HSTEP.out] at hst
        exact ⟨j + 1, S2, _, _, _, by omega, by omega, by go_num, hst⟩)
    · have hltz : ¬ (j : Int) < (ks.length : Int) := by omega
      obtain rfl : j = ks.length := by omega
      have HA := toHid (HI.out.all (hk8 := by omega) (hO := fun q hq => Nat.le_trans HI.out.ks.size hq))
      rw [List.take_length] at HA
      obtain ⟨an, ln, cn, rfl⟩ := own_slice HI.out.own
      go_wp2_with (first | (go_at_call 72; refine HA.out.mono ?_; rintro r w1 ⟨⟨N', cs', S', rfl, hrest⟩, _⟩; have HR := toHid hrest; clear hrest))
      go_ret
      exact ⟨N', cs', S', rfl, HR.out⟩
end Go.Proofs.YtihgojcfpnhelaaGreatDoor
