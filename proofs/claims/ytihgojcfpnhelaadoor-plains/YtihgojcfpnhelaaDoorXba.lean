import Derived.Test.YtihgojcfpnhelaaDoorXb
namespace Go.Proofs.YtihgojcfpnhelaaDoor
open Go.RowKit

/-- The brackets, some of whose parts are read. -/
structure BrI (len : Nat) (ts : List (By × Nat)) (b bl cp : Nat) (w : World) (gW kd d : Nat) (e : Int) (wr : World) (i' : Nat) (ks : List KR) (ao : Option Addr) (n cap : Nat) : Prop where
  st : St len ts wr b bl cp i' (d + 1) e
  kp : Kp b w wr
  res : wr.heap[w.heap.size]? = some (.cells #[.int .i64 0, .string ⟨#[]⟩, .int .i64 0, .slice none 0 0] 36 (0, 0))
  whl : wr.heap[gW]? = some (.cells #[.int .i64 (kd : Int), .string ⟨#[]⟩, .int .i64 0, .slice ao n cap] 36 (0, 0))
  own : wr.ownsRow (gW + 1) 36 4 (.slice ao n cap) n (krc ks)
  len : n = ks.length
  kid : ∀ x, x ∈ ks → PIs wr (fun q => gW < q ∧ q < wr.heap.size ∧ (Value.slice ao n cap).ownBlock ≠ some q) x.1 x.2.1 x.2.2.1 x.2.2.2
  gw : w.heap.size < gW
  env : Env w
  bw : b < w.heap.size

section
variable {len : Nat} {ts : List (By × Nat)} {b bl cp : Nat} {w : World} {gW kd d : Nat} {e : Int} {wr : World} {i' : Nat} {ks : List KR} {ao : Option Addr} {n cap : Nat}

theorem St.down' {i2 d2 : Nat} {w0 w2 w3 : World} (h : St len ts w2 b bl cp i2 d2 e) (hb : w3.heap[b]? = w2.heap[b]?) (hl : w3.heap[bl]? = w2.heap[bl]?) (hE : Env w0) (hb0 : Below b w0 w3) : St len ts w3 b bl cp i2 d2 e :=
  ⟨h.rd.apart hb hl, hE.below hb0 (by have := h.low; have := h.rd.blk; omega), h.low⟩

theorem BrI.keep (h : BrI len ts b bl cp w gW kd d e wr i' ks ao n cap) {w2 : World} (hk : Kp b wr w2) : w2.ownsRow (gW + 1) 36 4 (.slice ao n cap) n (krc ks) ∧ ∀ x, x ∈ ks → PIs w2 (fun q => gW < q ∧ q < w2.heap.size ∧ (Value.slice ao n cap).ownBlock ≠ some q) x.1 x.2.1 x.2.2.1 x.2.2.2 := by
  have hg := h.gw
  have hb := h.bw
  have hsz := hk.size
  refine ⟨?_, fun x hx => ?_⟩
  · refine h.own.kept (row := some b) ⟨hk.bel.os, hk.bel.tape, hk.bel.output, hk.size, fun k hk1 hk2 => hk.heap (fun e => hk2 (by rw [e])) hk1⟩ (Or.inr fun e => ?_)
    have := (h.own.lt b e).1
    omega
  · exact ((h.kid x hx).next fun q hq => hk.heap (by omega) hq.2.1).wide fun q hq => ⟨hq.1, by omega, hq.2.2⟩

theorem BrI.call (h : BrI len ts b bl cp w gW kd d e wr i' ks ao n cap) {w2 : World} {i2 : Nat} (hk : Kp b wr w2) (hS : St len ts w2 b bl cp i2 (d + 1) e) : BrI len ts b bl cp w gW kd d e w2 i2 ks ao n cap := by
  have hg := h.gw
  have hb := h.bw
  exact ⟨hS, h.kp.trans hk, hk.blk h.res (by omega), hk.blk h.whl (by omega), (h.keep hk).1, h.len, (h.keep hk).2, h.gw, h.env, h.bw⟩

/-- A part more. -/
theorem BrI.app (h : BrI len ts b bl cp w gW kd d e wr i' ks ao n cap) {w2 : World} {i2 : Nat} (hk : Kp b wr w2) (hS : St len ts w2 b bl cp i2 (d + 1) e) (x : KR) (hx : PIs w2 (fun q => wr.heap.size ≤ q ∧ q < w2.heap.size) x.1 x.2.1 x.2.2.1 x.2.2.2)
    {W w3 : World} (hW : Below w2.heap.size w2 W) (hgrow : W.grownBy w3 (Value.slice ao n cap).ownBlock) {g cap' : Nat} (hat : (Value.slice ao n cap).ownBlock = some g ∨ g = W.heap.size)
    (hown : w3.ownsRow (gW + 1) 36 4 (.slice (some ⟨g, 0, none⟩) (n + 1) cap') (n + 1) (krc ks ++ [.int .i64 (x.1.k : Int), .string ⟨x.1.nm.toArray⟩, .int .i64 (x.1.n : Int), .slice x.2.1 x.2.2.1 x.2.2.2])) :
    BrI len ts b bl cp w gW kd d e (w3.setCell ⟨gW, 3, none⟩ (.slice (some ⟨g, 0, none⟩) (n + 1) cap')) i2 (ks ++ [x]) (some ⟨g, 0, none⟩) (n + 1) cap' := by
  have h2 := h.call hk hS
  have hg := h.gw
  have hb := h.bw
  have hsz := hk.size
  have hszW := hW.size
  have hszg := hgrow.size
  have hgwr : gW < wr.heap.size := (Array.getElem?_eq_some_iff.1 h.whl).1
  have hold : ∀ q, (Value.slice ao n cap).ownBlock = some q → gW + 1 ≤ q ∧ q < wr.heap.size := h.own.lt
  have key : ∀ q, q < w2.heap.size → (Value.slice ao n cap).ownBlock ≠ some q → q ≠ gW → (w3.setCell ⟨gW, 3, none⟩ (.slice (some ⟨g, 0, none⟩) (n + 1) cap')).heap[q]? = w2.heap[q]? := fun q hq hne hgq => by
    rw [Below.heap_setCell _ _ _ _ (by exact hgq), hgrow.block q (by omega) (fun e => hne e.symm), hW.block q hq]
  have hnb : ∀ q, q ≤ gW → (Value.slice ao n cap).ownBlock ≠ some q := fun q hq e => by have := hold q e; omega
  have hblt := h.st.rd.blk
  have hsw := h2.kp.size
  have hbel : Below b w (w3.setCell ⟨gW, 3, none⟩ (.slice (some ⟨g, 0, none⟩) (n + 1) cap')) :=
    h2.kp.bel.trans (((hW.mono (by omega)).grown hgrow (by omega) (fun k hk => by have := hold k hk; omega)).setCell (p := ⟨gW, 3, none⟩) (by show b ≤ gW; omega) _)
  have hkp : Kp b w (w3.setCell ⟨gW, 3, none⟩ (.slice (some ⟨g, 0, none⟩) (n + 1) cap')) :=
    ⟨hbel, fun q hq hqs => (key q (by omega) (hnb q (by omega)) (by omega)).trans (h2.kp.up q hq hqs)⟩
  have hbs := h2.st.rd.size
  have hgw3 : w3.heap[gW]? = w2.heap[gW]? := by rw [hgrow.block gW (by omega) (fun e => hnb gW (Nat.le_refl _) e.symm), hW.block gW (by omega)]
  have hsz4 : (w3.setCell ⟨gW, 3, none⟩ (.slice (some ⟨g, 0, none⟩) (n + 1) cap')).heap.size = w3.heap.size := by simp
  have hgq : ∀ q, q < w2.heap.size → (Value.slice ao n cap).ownBlock ≠ some q → (Value.slice (some ⟨g, 0, none⟩) (n + 1) cap').ownBlock ≠ some q := fun q hq hne e => by
    have e1 : g = q := by simpa [Value.ownBlock] using e
    rcases hat with h1 | h1
    · exact hne (by rw [h1, e1])
    · omega
  refine ⟨?_, hkp, ?_, ?_, ?_, ?_, fun y hy => ?_, h.gw, h.env, h.bw⟩
  · refine h2.st.down' ?_ ?_ h.env hbel
    · exact key b (by omega) (hnb b (by omega)) (by omega)
    · exact key bl (by omega) (hnb bl (by omega)) (by omega)
  · exact (key w.heap.size (by omega) (hnb _ (by omega)) (by omega)).trans h2.res
  · rw [setCell_block (hgw3.trans h2.whl)]
    rfl
  · rw [krc_snoc]
    exact ownsRow_setCell_below hown (by show gW < gW + 1; omega) _
  · rw [List.length_append, h.len]
    rfl
  · rw [List.mem_append, List.mem_singleton] at hy
    rcases hy with hy | rfl
    · exact ((h2.kid y hy).next fun q hq => key q hq.2.1 hq.2.2 (by omega)).wide fun q hq => ⟨hq.1, by rw [hsz4]; omega, hgq q hq.2.1 hq.2.2⟩
    · have hne : ∀ q, wr.heap.size ≤ q → (Value.slice ao n cap).ownBlock ≠ some q := fun q hq e => by have := hold q e; omega
      exact (hx.next fun q hq => key q hq.2 (hne q hq.1) (by omega)).wide fun q hq => ⟨by omega, by rw [hsz4]; omega, hgq q hq.2 (hne q hq.1)⟩

/-- All parts are read: the part lies. -/
theorem BrI.fin (h : BrI len ts b bl cp w gW kd d e wr i' ks ao n cap) {wp : World} (hk : Kp b wr wp) (hn : 1 ≤ n) (v0 v1 v2 v3 : Value) (p : Pt) (hp : p.kids = ks.map (·.1)) :
    PIs ((((wp.setCell ⟨w.heap.size, 0, none⟩ v0).setCell ⟨w.heap.size, 1, none⟩ v1).setCell ⟨w.heap.size, 2, none⟩ v2).setCell ⟨w.heap.size, 3, none⟩ v3) (fun q => w.heap.size ≤ q ∧ q < ((((wp.setCell ⟨w.heap.size, 0, none⟩ v0).setCell ⟨w.heap.size, 1, none⟩ v1).setCell ⟨w.heap.size, 2, none⟩ v2).setCell ⟨w.heap.size, 3, none⟩ v3).heap.size) p ao n cap := by
  obtain ⟨hown, hkid⟩ := h.keep hk
  have hg := h.gw
  have hb := h.bw
  obtain ⟨g, cap', hv, hge, hgl⟩ := hown.form (by omega)
  simp only [Value.slice.injEq, true_and] at hv
  obtain ⟨rfl, rfl⟩ := hv
  have hlen := h.len
  subst hlen
  refine PIs.row (B := gW + 1) (ownsRow_setCell_below (ownsRow_setCell_below (ownsRow_setCell_below (ownsRow_setCell_below hown (by show w.heap.size < gW + 1; omega) _) (by show w.heap.size < gW + 1; omega) _) (by show w.heap.size < gW + 1; omega) _) (by show w.heap.size < gW + 1; omega) _) (fun x hx => ?_) ?_ p hp (fun e => by subst e; simp at hn)
  · exact ((hkid x hx).next fun q hq => heap4 wp w.heap.size v0 v1 v2 v3 (by omega)).wide fun q hq => ⟨by omega, by rw [size4]; exact hq.2.1⟩
  · exact ⟨by omega, by rw [size4]; exact hgl⟩
end
end Go.Proofs.YtihgojcfpnhelaaDoor
