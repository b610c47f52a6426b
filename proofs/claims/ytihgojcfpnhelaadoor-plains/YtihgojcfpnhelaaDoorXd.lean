import Derived.Test.YtihgojcfpnhelaaDoorXc
namespace Go.Proofs.YtihgojcfpnhelaaDoor
open Go.RowKit

theorem Env.aheadAt {w : World} (h : Env w) (k : Nat) (hk : k < 20) : w.cell? ⟨1, k, none⟩ = some (.int .i64 (aheadW.getD k 0)) := by
  obtain ⟨t, fr, hb⟩ := h.ahead
  rw [cell_of_row w 1 k _ _ _ hb]
  have hl : k < aheadW.length := hk
  simp [aheadC, List.getD_eq_getElem?_getD, hl]

theorem Env.betwAt {w : World} (h : Env w) (k : Nat) (hk : k < 20) : w.cell? ⟨2, k, none⟩ = some (.int .i64 (betwW.getD k 0)) := by
  obtain ⟨t, fr, hb⟩ := h.betw
  rw [cell_of_row w 2 k _ _ _ hb]
  have hl : k < betwW.length := hk
  simp [betwC, List.getD_eq_getElem?_getD, hl]

section
variable {len : Nat} {ts : List (By × Nat)} {b bl cp : Nat}

set_option maxRecDepth 100000 in
set_option maxHeartbeats 4000000 in
theorem lv_ahead (k n i d : Nat) (e : Int) (w : World) (hS : St len ts w b bl cp i d e) (hk20 : k < 20) (hk : ((ptoks len ts)[i]'hS.rd.lt).1 = (k : Int)) (ha : aheadW.getD k 0 = (n : Int)) (S : List By) (D : Nat → Pt → Prop) (c1 : Nat)
    (hP : ∀ w1, St len ts w1 b bl cp i d e → Calls Tryd.prog 44 #[.pointer (some ⟨b, 0, none⟩), .int .i64 (n : Int)] w1 (LvPost len ts S D c1 b bl cp i d e w1)) :
    Calls Tryd.prog 29 #[.pointer (some ⟨b, 0, none⟩), .int .i64 (n : Int)] w (LvPost len ts S D c1 b bl cp i d e w) := by
  have hs := hS.rd.size
  have hle := hS.le
  have H := toHid (fun w1 (g : Rdr w1 b bl cp (ptoks len ts) i (d : Int) e) => kind42 w1 b bl cp _ i d e g)
  have HS := toHid hS
  have HK := toHid hk
  have HP := toHid hP
  have hk1 : (0 : Int) ≤ (k : Int) := by omega
  have hk2 : (k : Int) < 20 := by omega
  have hc := hS.env.aheadAt k hk20
  rw [ha] at hc
  have hgl := World.block_lt_of_cell? w _ hc
  have hnb : ((n : Int) == (n : Int)) = true := by simp
  clear hk hP ha
  go_enter Tryd.func29, Tryd.ntmps29
  go_wp2_with (first | (go_at_call 43; refine (H.out _ (HS.out.rd.next ((Below.refl _ _).alloc (Nat.le_refl _) _))).mono ?_; rw [HK.out]; rintro e w' ⟨rfl, rfl⟩) | (go_at_call 44; refine (HP.out _ (HS.out.next ((Below.refl _ _).alloc (Nat.le_refl _) _))).mono ?_; intro r w2 hlv; obtain ⟨z, k, n, s, a, l, c, rfl⟩ := hlv.form; refine Hid.out ?_))
  obtain ⟨⟨k0, k1, k2, k3⟩, ⟨f0, f1, f2, f3⟩, hsz⟩ := row4 (hlv.kp.blk (heap_alloc_new w _) (by omega))
  have HLV := toHid hlv
  clear hlv
  refine toHid ?_
  go_wp2
  refine bodyPost_ret (v := .tuple #[.agg #[.int .i64 k, .string ⟨s.toArray⟩, .int .i64 n, .slice a l c], .bool z]) (by simp [results, Tryd.results29, go_sem, k0, k1, k2, k3]) rfl ?_
  exact HLV.out.lift (x := 0) (Kp.of ((Below.refl _ _).alloc (Nat.le_refl _) _) hs) (by simp) hs hle (Nat.le_refl _) (by omega) (fun _ _ h => h) (fun _ _ h => h) (fun _ _ _ h => h) _ _ _ _

set_option maxRecDepth 100000 in
set_option maxHeartbeats 4000000 in
theorem lv_atom (k i d : Nat) (e : Int) (w : World) (hS : St len ts w b bl cp i d e) (hk20 : k < 20) (hk : ((ptoks len ts)[i]'hS.rd.lt).1 = (k : Int)) (ha : aheadW.getD k 0 ≠ 6) (S : List By) (D : Nat → Pt → Prop) (c1 : Nat)
    (hP : ∀ w1, St len ts w1 b bl cp i d e → Calls Tryd.prog 45 #[.pointer (some ⟨b, 0, none⟩)] w1 (LvPost len ts S D c1 b bl cp i d e w1)) :
    Calls Tryd.prog 29 #[.pointer (some ⟨b, 0, none⟩), .int .i64 6] w (LvPost len ts S D c1 b bl cp i d e w) := by
  have hs := hS.rd.size
  have hle := hS.le
  have H := toHid (fun w1 (g : Rdr w1 b bl cp (ptoks len ts) i (d : Int) e) => kind42 w1 b bl cp _ i d e g)
  have HS := toHid hS
  have HK := toHid hk
  have HP := toHid hP
  have hk1 : (0 : Int) ≤ (k : Int) := by omega
  have hk2 : (k : Int) < 20 := by omega
  have hc := hS.env.aheadAt k hk20
  have hgl := World.block_lt_of_cell? w _ hc
  generalize aheadW.getD k 0 = av at *
  have hab : (av == 6) = false := beq_eq_false_iff_ne.2 ha
  clear hk hP ha
  go_enter Tryd.func29, Tryd.ntmps29
  go_wp2_with (first | (go_at_call 43; refine (H.out _ (HS.out.rd.next ((Below.refl _ _).alloc (Nat.le_refl _) _))).mono ?_; rw [HK.out]; rintro e w' ⟨rfl, rfl⟩) | (go_at_call 45; refine (HP.out _ (HS.out.next ((Below.refl _ _).alloc (Nat.le_refl _) _))).mono ?_; intro r w2 hlv; obtain ⟨z, k, n, s, a, l, c, rfl⟩ := hlv.form; refine Hid.out ?_))
  obtain ⟨⟨k0, k1, k2, k3⟩, ⟨f0, f1, f2, f3⟩, hsz⟩ := row4 (hlv.kp.blk (heap_alloc_new w _) (by omega))
  have HLV := toHid hlv
  clear hlv
  refine toHid ?_
  go_wp2
  refine bodyPost_ret (v := .tuple #[.agg #[.int .i64 k, .string ⟨s.toArray⟩, .int .i64 n, .slice a l c], .bool z]) (by simp [results, Tryd.results29, go_sem, k0, k1, k2, k3]) rfl ?_
  exact HLV.out.lift (x := 0) (Kp.of ((Below.refl _ _).alloc (Nat.le_refl _) _) hs) (by simp) hs hle (Nat.le_refl _) (by omega) (fun _ _ h => h) (fun _ _ h => h) (fun _ _ _ h => h) _ _ _ _

/-- A level, some of whose parts are read. -/
structure LvI (len : Nat) (ts : List (By × Nat)) (b bl cp : Nat) (w : World) (gW d : Nat) (e : Int) (wr : World) (i' : Nat) (p : Pt) (a : Option Addr) (l c : Nat) : Prop where
  st : St len ts wr b bl cp i' d e
  kp : Kp b w wr
  res : wr.heap[w.heap.size]? = some (.cells #[.int .i64 0, .string ⟨#[]⟩, .int .i64 0, .slice none 0 0] 36 (0, 0))
  whl : wr.heap[gW]? = some (.cells #[.int .i64 (p.k : Int), .string ⟨p.nm.toArray⟩, .int .i64 (p.n : Int), .slice a l c] 36 (0, 0))
  kid : PIs wr (fun q => w.heap.size < q ∧ q < wr.heap.size ∧ q ≠ gW) p a l c
  gw : w.heap.size < gW
  bw : b < w.heap.size

/-- A level that was left with an error. -/
structure LvF (len : Nat) (ts : List (By × Nat)) (S : List By) (c1 : Nat) (b bl cp : Nat) (w : World) (gW i : Nat) (wr : World) (k n : Int) (s : By) (a : Option Addr) (l c : Nat) : Prop where
  rd : ∃ (i' m : Nat) (d' er : Int), Rdr wr b bl cp (ptoks len ts) i' d' er ∧ er ≠ 0 ∧ m + c1 ≤ 20 * (ts.length - i) + 20 ∧ No1 len ts S i er (pAt len ts i') m
  kp : Kp b w wr
  res : wr.heap[w.heap.size]? = some (.cells #[.int .i64 0, .string ⟨#[]⟩, .int .i64 0, .slice none 0 0] 36 (0, 0))
  whl : wr.heap[gW]? = some (.cells #[.int .i64 k, .string ⟨s.toArray⟩, .int .i64 n, .slice a l c] 36 (0, 0))
  bw : b < w.heap.size

theorem LvF.post {S : List By} {D : Nat → Pt → Prop} {c1 gW i d : Nat} {e : Int} {w wr : World} {k n : Int} {s : By} {a : Option Addr} {l c : Nat} (h : LvF len ts S c1 b bl cp w gW i wr k n s a l c) (v0 v1 v2 v3 : Value) :
    LvPost len ts S D c1 b bl cp i d e w (.returned (.tuple #[.agg #[.int .i64 k, .string ⟨s.toArray⟩, .int .i64 n, .slice a l c], .bool false])) ((((wr.setCell ⟨w.heap.size, 0, none⟩ v0).setCell ⟨w.heap.size, 1, none⟩ v1).setCell ⟨w.heap.size, 2, none⟩ v2).setCell ⟨w.heap.size, 3, none⟩ v3) := by
  obtain ⟨i', m, d', er, hr, her, hm, hn⟩ := h.rd
  exact Or.inr ⟨i', m, d', er, k, n, s, a, l, c, rfl, hr.store4 w.heap.size _ _ _ _ h.bw, her, h.kp.there4 w.heap.size _ _ _ _ (Nat.le_refl _) h.bw, hm, hn⟩

theorem LvI.post {S : List By} {D : Nat → Pt → Prop} {c1 gW i d m : Nat} {e : Int} {w wr : World} {i' : Nat} {p : Pt} {a : Option Addr} {l c : Nat} (h : LvI len ts b bl cp w gW d e wr i' p a l c) (hD : D i' p) (hi : i < i') (hm : m + c1 ≤ 20 * (i' - i)) (hg : Go1 len ts S i i' m) (v0 v1 v2 v3 : Value) :
    LvPost len ts S D c1 b bl cp i d e w (.returned (.tuple #[.agg #[.int .i64 (p.k : Int), .string ⟨p.nm.toArray⟩, .int .i64 (p.n : Int), .slice a l c], .bool true])) ((((wr.setCell ⟨w.heap.size, 0, none⟩ v0).setCell ⟨w.heap.size, 1, none⟩ v1).setCell ⟨w.heap.size, 2, none⟩ v2).setCell ⟨w.heap.size, 3, none⟩ v3) := by
  refine Or.inl ⟨i', m, p, a, l, c, rfl, (h.kid.next fun q hq => heap4 wr w.heap.size v0 v1 v2 v3 (by omega)).wide fun q hq => ?_, hD, h.st.store4 w.heap.size _ _ _ _ h.bw, hi, h.kp.there4 w.heap.size _ _ _ _ (Nat.le_refl _) h.bw, hm, hg⟩
  rw [size4]
  omega

/-- Four stores, and a block more. -/
theorem st4_alloc (Y : World) (o : Obj) (g : Nat) (hg : g < Y.heap.size) (v0 v1 v2 v3 : Value) : (((((Y.alloc o).setCell ⟨g, 0, none⟩ v0).setCell ⟨g, 1, none⟩ v1).setCell ⟨g, 2, none⟩ v2).setCell ⟨g, 3, none⟩ v3) = (((((Y.setCell ⟨g, 0, none⟩ v0).setCell ⟨g, 1, none⟩ v1).setCell ⟨g, 2, none⟩ v2).setCell ⟨g, 3, none⟩ v3).alloc o) := by
  rw [World.setCell_alloc_past _ _ _ _ hg, World.setCell_alloc_past _ _ _ _ (by simpa using hg), World.setCell_alloc_past _ _ _ _ (by simpa using hg), World.setCell_alloc_past _ _ _ _ (by simpa using hg)]

theorem row4_st4 {w : World} {g : Nat} {u0 u1 u2 u3 : Value} {ty : TypeId} (h : w.heap[g]? = some (.cells #[u0, u1, u2, u3] ty (0, 0))) (v0 v1 v2 v3 : Value) : ((((w.setCell ⟨g, 0, none⟩ v0).setCell ⟨g, 1, none⟩ v1).setCell ⟨g, 2, none⟩ v2).setCell ⟨g, 3, none⟩ v3).heap[g]? = some (.cells #[v0, v1, v2, v3] ty (0, 0)) := by
  rw [setCell_block (setCell_block (setCell_block (setCell_block h 0 v0) 1 v1) 2 v2) 3 v3]
  rfl

/-- A part more: its place, and the two in a new one. -/
theorem LvI.more {gW d : Nat} {e : Int} {w wr : World} {i' : Nat} {p : Pt} {a : Option Addr} {l c : Nat} (h : LvI len ts b bl cp w gW d e wr i' p a l c) {w2 w3 : World} (hb2 : Kp b wr w2) {o1 o2 : Obj} (hk3 : Kp b ((w2.alloc o1).alloc o2) w3) {i3 : Nat} (hS3 : St len ts w3 b bl cp i3 d e) {p3 : Pt} {a3 : Option Addr} {l3 c3 : Nat}
    (hp3 : PIs w3 (fun q => ((w2.alloc o1).alloc o2).heap.size ≤ q ∧ q < w3.heap.size) p3 a3 l3 c3) (k' : Nat) (u0 u1 u2 u3 : Value) :
    LvI len ts b bl cp w gW d e ((((((((((w3.setCell ⟨w2.heap.size + 1, 0, none⟩ u0).setCell ⟨w2.heap.size + 1, 1, none⟩ u1).setCell ⟨w2.heap.size + 1, 2, none⟩ u2).setCell ⟨w2.heap.size + 1, 3, none⟩ u3).setCell ⟨gW, 0, none⟩ (.int .i64 (k' : Int))).setCell ⟨gW, 1, none⟩ (.string ⟨#[]⟩)).setCell ⟨gW, 2, none⟩ (.int .i64 0)).setCell ⟨gW, 3, none⟩ (.slice (some ⟨w3.heap.size, 0, none⟩) 2 2)).alloc (.cells #[.int .i64 (p.k : Int), .string ⟨p.nm.toArray⟩, .int .i64 (p.n : Int), .slice a l c, .int .i64 (p3.k : Int), .string ⟨p3.nm.toArray⟩, .int .i64 (p3.n : Int), .slice a3 l3 c3] 36))) i3 (.bin k' p p3) (some ⟨w3.heap.size, 0, none⟩) 2 2 := by
  have hg := h.gw
  have hb := h.bw
  have hsz2 := hb2.size
  have hsz3 := hk3.size
  simp at hsz3
  have hgwr : gW < wr.heap.size := (Array.getElem?_eq_some_iff.1 h.whl).1
  have hwr : w.heap.size ≤ wr.heap.size := h.kp.size
  have hK23 : Kp b wr w3 := (hb2.next (below2 _ _ _) (by have := h.st.rd.size; omega)).trans hk3
  have hKA := ((h.kp.trans hK23).there4 (w2.heap.size + 1) u0 u1 u2 u3 (by omega) hb).there4 gW (.int .i64 (k' : Int)) (.string ⟨#[]⟩) (.int .i64 0) (.slice (some ⟨w3.heap.size, 0, none⟩) 2 2) (by omega) hb
  have hfin : ∀ q, q < w3.heap.size → q ≠ w2.heap.size + 1 → q ≠ gW → ((((((((((w3.setCell ⟨w2.heap.size + 1, 0, none⟩ u0).setCell ⟨w2.heap.size + 1, 1, none⟩ u1).setCell ⟨w2.heap.size + 1, 2, none⟩ u2).setCell ⟨w2.heap.size + 1, 3, none⟩ u3).setCell ⟨gW, 0, none⟩ (.int .i64 (k' : Int))).setCell ⟨gW, 1, none⟩ (.string ⟨#[]⟩)).setCell ⟨gW, 2, none⟩ (.int .i64 0)).setCell ⟨gW, 3, none⟩ (.slice (some ⟨w3.heap.size, 0, none⟩) 2 2)).alloc (.cells #[.int .i64 (p.k : Int), .string ⟨p.nm.toArray⟩, .int .i64 (p.n : Int), .slice a l c, .int .i64 (p3.k : Int), .string ⟨p3.nm.toArray⟩, .int .i64 (p3.n : Int), .slice a3 l3 c3] 36))).heap[q]? = w3.heap[q]? := fun q h1 h2 h3 => by
    rw [Below.heap_alloc _ _ _ (by rw [size4, size4]; exact h1), heap4 _ _ _ _ _ _ h3, heap4 _ _ _ _ _ _ h2]
  have hsz : ((((((((((w3.setCell ⟨w2.heap.size + 1, 0, none⟩ u0).setCell ⟨w2.heap.size + 1, 1, none⟩ u1).setCell ⟨w2.heap.size + 1, 2, none⟩ u2).setCell ⟨w2.heap.size + 1, 3, none⟩ u3).setCell ⟨gW, 0, none⟩ (.int .i64 (k' : Int))).setCell ⟨gW, 1, none⟩ (.string ⟨#[]⟩)).setCell ⟨gW, 2, none⟩ (.int .i64 0)).setCell ⟨gW, 3, none⟩ (.slice (some ⟨w3.heap.size, 0, none⟩) 2 2)).alloc (.cells #[.int .i64 (p.k : Int), .string ⟨p.nm.toArray⟩, .int .i64 (p.n : Int), .slice a l c, .int .i64 (p3.k : Int), .string ⟨p3.nm.toArray⟩, .int .i64 (p3.n : Int), .slice a3 l3 c3] 36))).heap.size = w3.heap.size + 1 := by
    simp
  have hbs : b < w3.heap.size := hS3.rd.size
  refine ⟨((hS3.store4 (w2.heap.size + 1) _ _ _ _ (by omega)).store4 gW _ _ _ _ (by omega)).next ((Below.refl _ _).alloc (Nat.le_refl _) _), hKA.next ((Below.refl _ _).alloc (Nat.le_refl _) _) (by rw [size4, size4]; exact hbs), ?_, ?_, ?_, h.gw, h.bw⟩
  · rw [hfin _ (by omega) (by omega) (by omega)]
    exact hK23.blk h.res (by omega)
  · rw [Below.heap_alloc _ _ _ (by rw [size4, size4]; omega)]
    exact row4_st4 ((heap4 _ _ _ _ _ _ (by omega)).trans (hK23.blk h.whl (by omega))) _ _ _ _
  · refine PIs.bin k' ((h.kid.next fun q hq => ?_).wide fun q hq => ?_) ((hp3.next fun q hq => ?_).wide fun q hq => ?_) ?_ (t := 36) (fr := (0, 0)) ?_ 2
    · rw [hfin q (by omega) (by omega) hq.2.2]
      exact hK23.heap (by omega) hq.2.1
    · rw [hsz]; omega
    · have hq1 := hq.1
      simp at hq1
      exact hfin q hq.2 (by omega) (by omega)
    · have hq1 := hq.1
      simp at hq1
      rw [hsz]; omega
    · rw [hsz]; omega
    · have := heap_alloc_new (((((((((w3.setCell ⟨w2.heap.size + 1, 0, none⟩ u0).setCell ⟨w2.heap.size + 1, 1, none⟩ u1).setCell ⟨w2.heap.size + 1, 2, none⟩ u2).setCell ⟨w2.heap.size + 1, 3, none⟩ u3).setCell ⟨gW, 0, none⟩ (.int .i64 (k' : Int))).setCell ⟨gW, 1, none⟩ (.string ⟨#[]⟩)).setCell ⟨gW, 2, none⟩ (.int .i64 0)).setCell ⟨gW, 3, none⟩ (.slice (some ⟨w3.heap.size, 0, none⟩) 2 2))) (.cells #[.int .i64 (p.k : Int), .string ⟨p.nm.toArray⟩, .int .i64 (p.n : Int), .slice a l c, .int .i64 (p3.k : Int), .string ⟨p3.nm.toArray⟩, .int .i64 (p3.n : Int), .slice a3 l3 c3] 36)
      rw [size4, size4] at this
      exact this

/-- The same, left with an error. -/
theorem LvI.fail {gW d : Nat} {e : Int} {w wr : World} {i i' : Nat} {p : Pt} {a : Option Addr} {l c : Nat} (h : LvI len ts b bl cp w gW d e wr i' p a l c) {w2 w3 : World} (hb2 : Kp b wr w2) {o1 o2 : Obj} (hk3 : Kp b ((w2.alloc o1).alloc o2) w3) {S : List By} {c1 i3 m : Nat} {d3 er : Int} (hr : Rdr w3 b bl cp (ptoks len ts) i3 d3 er) (her : er ≠ 0) (hm : m + c1 ≤ 20 * (ts.length - i) + 20) (hno : No1 len ts S i er (pAt len ts i3) m) (k' : Nat) (u0 u1 u2 u3 : Value) (o : Obj) :
    LvF len ts S c1 b bl cp w gW i ((((((((((w3.setCell ⟨w2.heap.size + 1, 0, none⟩ u0).setCell ⟨w2.heap.size + 1, 1, none⟩ u1).setCell ⟨w2.heap.size + 1, 2, none⟩ u2).setCell ⟨w2.heap.size + 1, 3, none⟩ u3).setCell ⟨gW, 0, none⟩ (.int .i64 (k' : Int))).setCell ⟨gW, 1, none⟩ (.string ⟨#[]⟩)).setCell ⟨gW, 2, none⟩ (.int .i64 0)).setCell ⟨gW, 3, none⟩ (.slice (some ⟨w3.heap.size, 0, none⟩) 2 2)).alloc o)) (k' : Int) 0 [] (some ⟨w3.heap.size, 0, none⟩) 2 2 := by
  have hg := h.gw
  have hb := h.bw
  have hsz2 := hb2.size
  have hsz3 := hk3.size
  simp at hsz3
  have hgwr : gW < wr.heap.size := (Array.getElem?_eq_some_iff.1 h.whl).1
  have hwr : w.heap.size ≤ wr.heap.size := h.kp.size
  have hK23 : Kp b wr w3 := (hb2.next (below2 _ _ _) (by have := h.st.rd.size; omega)).trans hk3
  have hKA := ((h.kp.trans hK23).there4 (w2.heap.size + 1) u0 u1 u2 u3 (by omega) hb).there4 gW (.int .i64 (k' : Int)) (.string ⟨#[]⟩) (.int .i64 0) (.slice (some ⟨w3.heap.size, 0, none⟩) 2 2) (by omega) hb
  have hbs : b < w3.heap.size := hr.size
  refine ⟨⟨i3, m, d3, er, ((hr.store4 (w2.heap.size + 1) _ _ _ _ (by omega)).store4 gW _ _ _ _ (by omega)).next ((Below.refl _ _).alloc (Nat.le_refl _) _), her, hm, hno⟩, hKA.next ((Below.refl _ _).alloc (Nat.le_refl _) _) (by rw [size4, size4]; exact hbs), ?_, ?_, h.bw⟩
  · rw [Below.heap_alloc _ _ _ (by rw [size4, size4]; omega), heap4 _ _ _ _ _ _ (by omega), heap4 _ _ _ _ _ _ (by omega)]
    exact hK23.blk h.res (by omega)
  · rw [Below.heap_alloc _ _ _ (by rw [size4, size4]; omega)]
    exact row4_st4 ((heap4 _ _ _ _ _ _ (by omega)).trans (hK23.blk h.whl (by omega))) _ _ _ _
end
end Go.Proofs.YtihgojcfpnhelaaDoor
