import Derived.Test.YtihgojcfpnhelabGreatDoorS2X
set_option maxRecDepth 100000
set_option maxHeartbeats 4000000
set_option linter.unusedVariables false
set_option linter.unusedSimpArgs false
namespace Go.Proofs.YtihgojcfpnhelabGreatDoor
open Go.RowKit
section
def restS (R c o : Nat) : List By := (List.replicate (R - c) [[44], symB 82 o]).flatten ++ [[41]]
def stackS (R c o : Nat) : List By := if c = 0 then symB 82 o :: restS R 1 o else restS R c o
def brS (R o : Nat) : List By := [40] :: stackS R 0 o
theorem stackS_step (R c o : Nat) (h1 : 1 ≤ c) (h : c < R) : stackS R c o = [44] :: symB 82 o :: stackS R (c + 1) o := by
 unfold stackS restS
 rw [if_neg (by omega), if_neg (by omega), show R - c = R - (c + 1) + 1 by omega, List.replicate_succ]
 simp
theorem stackS_end (R o : Nat) (h : 1 ≤ R) : stackS R R o = [[41]] := by
 unfold stackS restS
 rw [if_neg (by omega), Nat.sub_self]
 rfl
theorem tkOpen : Tk [40] := ⟨40, _, rfl, by decide, by decide⟩
theorem tkClose : Tk [41] := ⟨41, _, rfl, by decide, by decide⟩
theorem tkComma : Tk [44] := ⟨44, _, rfl, by decide, by decide⟩
def To1 (len : Nat) (ts : List (By × Nat)) (S L : List By) (i j m : Nat) : Prop := ∀ K q, runB len (m + q) (S ++ K) (ts.drop i) = runB len q (L ++ K) (ts.drop j)
section
variable {len : Nat} {ts : List (By × Nat)}
theorem To1.go {S A L : List By} {i j k m n : Nat} (h : To1 len ts S (A ++ L) i j m) (g : Go1 len ts A j k n) : To1 len ts S L i k (m + n) := fun K q => by
 rw [Nat.add_assoc, h K (n + q), List.append_assoc, g (L ++ K) q]
theorem To1.no {S A L : List By} {i j m n p : Nat} {er : Int} (h : To1 len ts S (A ++ L) i j m) (g : No1 len ts A j er p n) : No1 len ts S i er p (m + n) := fun K q => by
 rw [Nat.add_assoc, h K (n + q), List.append_assoc, g (L ++ K) q]
theorem To1.tok {S L : List By} {x : By} {i j m : Nat} (h : To1 len ts S (x :: L) i j m) (hx : Tk x) (ht : tAt ts j = x) : To1 len ts S L i (j + 1) (m + 1) := fun K q => by
 rw [Nat.add_assoc, h K (1 + q), Nat.add_comm 1 q, List.cons_append, step_tok len ts x j q (L ++ K) hx ht]
theorem To1.bad {S L : List By} {x : By} {i j m : Nat} (h : To1 len ts S (x :: L) i j m) (hx : Tk x) (ht : tAt ts j ≠ x) : No1 len ts S i 3 (pAt len ts j) (m + 1) := fun K q => by
 rw [Nat.add_assoc, h K (1 + q), Nat.add_comm 1 q, List.cons_append, step_no len ts x j q (L ++ K) hx ht]
theorem To1.go1 {S : List By} {i j m : Nat} (h : To1 len ts S [] i j m) : Go1 len ts S i j m := fun K q => h K q
end
inductive DerB (ts : List (By × Nat)) (i : Nat) : List Pt → Nat → Prop
 | one (j : Nat) (a : Pt) : tAt ts i = [40] → Der ts 1 (i + 1) j a → DerB ts i [a] j
 | snoc (l : List Pt) (j j' : Nat) (a : Pt) : DerB ts i l j → tAt ts j = [44] → Der ts 1 (j + 1) j' a → DerB ts i (l ++ [a]) j'
theorem DerB.ne {ts : List (By × Nat)} {i j : Nat} {l : List Pt} (h : DerB ts i l j) : l ≠ [] := by
 cases h <;> simp
theorem DerB.inv1 {ts : List (By × Nat)} {i j : Nat} {l : List Pt} (h : DerB ts i l j) (hl : l.length = 1) : ∃ a, l = [a] ∧ tAt ts i = [40] ∧ Der ts 1 (i + 1) j a := by
 cases h with
 | one _ a h1 h2 => exact ⟨a, rfl, h1, h2⟩
 | snoc l j a _ h1 h2 h3 =>
  have := h1.ne
  cases l with
  | nil => exact absurd rfl this
  | cons x l => simp at hl
theorem DerB.inv2 {ts : List (By × Nat)} {i j : Nat} {l : List Pt} (h : DerB ts i l j) (n : Nat) (hl : l.length = n + 2) : ∃ l' a j', l = l' ++ [a] ∧ l'.length = n + 1 ∧ DerB ts i l' j' ∧ tAt ts j' = [44] ∧ Der ts 1 (j' + 1) j a := by
 cases h with
 | one _ a h1 h2 => simp at hl
 | snoc l j' _ a h1 h2 h3 => exact ⟨l, a, j', rfl, by simp at hl; omega, h1, h2, h3⟩
theorem DerB.inv3 {ts : List (By × Nat)} {i j : Nat} {l : List Pt} (h : DerB ts i l j) (hl : l.length = 3) : ∃ a b c j1 j2, l = [a, b, c] ∧ tAt ts i = [40] ∧ Der ts 1 (i + 1) j1 a ∧ tAt ts j1 = [44] ∧ Der ts 1 (j1 + 1) j2 b ∧ tAt ts j2 = [44] ∧ Der ts 1 (j2 + 1) j c := by
 obtain ⟨l2, c, j2, rfl, hl2, h2, hc2, hd2⟩ := h.inv2 1 hl
 obtain ⟨l1, b, j1, rfl, hl1, h1, hc1, hd1⟩ := h2.inv2 0 hl2
 obtain ⟨a, rfl, ho, hd⟩ := h1.inv1 hl1
 exact ⟨a, b, c, j1, j2, rfl, ho, hd, hc1, hd1, hc2, hd2⟩
abbrev KR := Pt × Option Addr × Nat × Nat
def krc (ks : List KR) : List Value := ks.flatMap fun x => [.int .i64 (x.1.k : Int), .string ⟨x.1.nm.toArray⟩, .int .i64 (x.1.n : Int), .slice x.2.1 x.2.2.1 x.2.2.2]
theorem krc_snoc (ks : List KR) (x : KR) : krc (ks ++ [x]) = krc ks ++ [.int .i64 (x.1.k : Int), .string ⟨x.1.nm.toArray⟩, .int .i64 (x.1.n : Int), .slice x.2.1 x.2.2.1 x.2.2.2] := by simp [krc]
theorem krc_get (ks : List KR) (j : Nat) (h : j < ks.length) : (krc ks)[j * 4]? = some (.int .i64 (ks[j].1.k : Int)) ∧ (krc ks)[j * 4 + 1]? = some (.string ⟨ks[j].1.nm.toArray⟩) ∧ (krc ks)[j * 4 + 2]? = some (.int .i64 (ks[j].1.n : Int)) ∧ (krc ks)[j * 4 + 3]? = some (.slice ks[j].2.1 ks[j].2.2.1 ks[j].2.2.2) := by
 induction ks generalizing j with
 | nil => simp at h
 | cons t ks ih =>
  have hc : krc (t :: ks) = .int .i64 (t.1.k : Int) :: .string ⟨t.1.nm.toArray⟩ :: .int .i64 (t.1.n : Int) :: .slice t.2.1 t.2.2.1 t.2.2.2 :: krc ks := by simp [krc]
  rw [hc]
  cases j with
  | zero => simp
  | succ j =>
   have := ih j (by simpa using h)
   rw [show (j + 1) * 4 = j * 4 + 1 + 1 + 1 + 1 by omega]
   simpa using this
theorem infoPart : (Tryz.prog.info? 49).map (fun i => (i.zero, i.size, i.bytes)) = some (some (.agg #[.int .i64 0, .string ⟨#[]⟩, .int .i64 0, .slice none 0 0]), 4, 56) := by kernel_rfl
theorem PIs.row {w : World} {S : Nat → Prop} {ks : List KR} {g cap B : Nat} (hown : w.ownsRow B 49 4 (.slice (some ⟨g, 0, none⟩) ks.length cap) ks.length (krc ks)) (hk : ∀ x, x ∈ ks → PIs w S x.1 x.2.1 x.2.2.1 x.2.2.2) (hg : S g) (p : Pt) (hp : p.kids = ks.map (·.1)) (hne : ks ≠ []) : PIs w S p (some ⟨g, 0, none⟩) ks.length cap := by
 have hlen : p.kids.length = ks.length := by rw [hp, List.length_map]
 have hget : ∀ j (h : j < p.kids.length), p.kids[j] = (ks[j]'(by omega)).1 := fun j h => by
  simp only [hp, List.getElem_map]
 have := PIs.node (w := w) (S := S) p g cap (fun j => ((ks[j]?).map (·.2.1)).getD none) (fun j => ((ks[j]?).map (·.2.2.1)).getD 0) (fun j => ((ks[j]?).map (·.2.2.2)).getD 0) hg (by rw [hp]; simpa using hne) (fun j hj => ?_) (fun j hj => ?_)
 ·rw [hlen] at this; exact this
 ·have hj' : j < ks.length := by omega
  have h4 := krc_get ks j hj'
  rw [hget j hj]
  simp only [hj', List.getElem?_eq_getElem, Option.map_some, Option.getD_some]
  refine ⟨?_, ?_, ?_, ?_⟩
  ·rw [hown.cellAt (j * 4) (by omega)]; exact h4.1
  ·rw [hown.cellAt (j * 4 + 1) (by omega)]; exact h4.2.1
  ·rw [hown.cellAt (j * 4 + 2) (by omega)]; exact h4.2.2.1
  ·rw [hown.cellAt (j * 4 + 3) (by omega)]; exact h4.2.2.2
 ·have hj' : j < ks.length := by omega
  rw [hget j hj]
  simp only [hj', List.getElem?_eq_getElem, Option.map_some, Option.getD_some]
  exact hk _ (List.getElem_mem hj')
section
variable {len : Nat} {ts : List (By × Nat)} {b bl cp : Nat}
theorem br_nope (kd R i : Nat) (d e : Int) (w : World) (h : Rdr w b bl cp (ptoks len ts) i d e) (hk : ((ptoks len ts)[i]'h.lt).1 ≠ 9) :
  Calls Tryz.prog 150 #[.pointer (some ⟨b, 0, none⟩), .int .i64 (kd : Int), .int .i64 (R : Int)] w fun r w' => r = .returned (.tuple #[.agg #[.int .i64 0, .string ⟨#[]⟩, .int .i64 0, .slice none 0 0], .bool false]) ∧ Rdr w' b bl cp (ptoks len ts) i d 3 ∧ Kp b w w' := by
 have H := tZ (fun w1 (g : Rdr w1 b bl cp (ptoks len ts) i d e) => is_no w1 b bl cp _ i d e 9 g hk)
 have hs := h.size
 have HR := tZ h
 clear hk h
 go_enter Tryz.func150, Tryz.ntmps150
 go_wp2_with (first | (go_at_call 92; refine (H.out _ (HR.out.next (bZ _))).mono ?_; rintro e w' ⟨rfl, hr, hbb⟩; refine Hid.out ?_))
 obtain ⟨⟨k0, k1, k2, k3⟩, ⟨f0, f1, f2, f3⟩, hsz⟩ := row4 (hbb.blk (q := w.heap.size) (heap_alloc_new w _) (by omega))
 have HB := tZ hbb
 have HR2 := tZ hr
 clear hr hbb
 refine tZ ?_
 go_wp2
 refine bodyPost_ret (v := .tuple #[.agg #[.int .i64 0, .string ⟨#[]⟩, .int .i64 0, .slice none 0 0], .bool false]) (by simp [results, Tryz.results150, go_sem, k0, k1, k2, k3]) rfl ?_
 have hk0 : Kp b w w' := (Kp.of (bZ _) hs).trans HB.out
 exact ⟨rfl, HR2.out.store4 w.heap.size _ _ _ _ hs, hk0.there4 w.heap.size _ _ _ _ (Nat.le_refl _) hs⟩
theorem br_deep (kd R i : Nat) (e : Int) (w : World) (h : Rdr w b bl cp (ptoks len ts) i 6 e) (hk : ((ptoks len ts)[i]'h.lt).1 = 9) :
  Calls Tryz.prog 150 #[.pointer (some ⟨b, 0, none⟩), .int .i64 (kd : Int), .int .i64 (R : Int)] w fun r w' => r = .returned (.tuple #[.agg #[.int .i64 0, .string ⟨#[]⟩, .int .i64 0, .slice none 0 0], .bool false]) ∧ Rdr w' b bl cp (ptoks len ts) i 6 4 ∧ Kp b w w' := by
 have H := tZ (fun w1 (g : Rdr w1 b bl cp (ptoks len ts) i 6 e) => is_yes w1 b bl cp _ i 6 e 9 g hk)
 have H2 := tZ (fun w1 (g : Rdr w1 b bl cp (ptoks len ts) i 6 e) => enter_no w1 b bl cp _ i e g)
 have hs := h.size
 have HR := tZ h
 clear hk h
 go_enter Tryz.func150, Tryz.ntmps150
 go_wp2_with (first | (go_at_call 92; refine (H.out _ (HR.out.next (bZ _))).mono ?_; rintro e w' ⟨rfl, rfl⟩) | (go_at_call 149; refine (H2.out _ (HR.out.next (bZ _))).mono ?_; rintro e w' ⟨rfl, hr, hbb⟩; refine Hid.out ?_))
 obtain ⟨⟨k0, k1, k2, k3⟩, ⟨f0, f1, f2, f3⟩, hsz⟩ := row4 (hbb.blk (q := w.heap.size) (heap_alloc_new w _) (by omega))
 have HB := tZ hbb
 have HR2 := tZ hr
 clear hr hbb
 refine tZ ?_
 go_wp2
 refine bodyPost_ret (v := .tuple #[.agg #[.int .i64 0, .string ⟨#[]⟩, .int .i64 0, .slice none 0 0], .bool false]) (by simp [results, Tryz.results150, go_sem, k0, k1, k2, k3, hsz]) rfl ?_
 have hk0 : Kp b w w' := (Kp.of (bZ _) hs).trans HB.out
 have hk1 := hk0.there4 w.heap.size (.int .i64 0) (.string ⟨#[]⟩) (.int .i64 0) (.slice none 0 0) (Nat.le_refl _) hs
 exact ⟨rfl, (HR2.out.store4 w.heap.size _ _ _ _ hs).next (bZ _), hk1.next (bZ _) (by have := hk1.size; omega)⟩
end
end
section
structure BrI (len : Nat) (ts : List (By × Nat)) (b bl cp : Nat) (w : World) (gW kd d : Nat) (e : Int) (wr : World) (i' : Nat) (ks : List KR) (ao : Option Addr) (n cap : Nat) : Prop where
 st : St len ts wr b bl cp i' (d + 1) e
 kp : Kp b w wr
 res : wr.heap[w.heap.size]? = some (.cells #[.int .i64 0, .string ⟨#[]⟩, .int .i64 0, .slice none 0 0] 49 (0, 0))
 whl : wr.heap[gW]? = some (.cells #[.int .i64 (kd : Int), .string ⟨#[]⟩, .int .i64 0, .slice ao n cap] 49 (0, 0))
 own : wr.ownsRow (gW + 1) 49 4 (.slice ao n cap) n (krc ks)
 len : n = ks.length
 kid : ∀ x, x ∈ ks → PIs wr (fun q => gW < q ∧ q < wr.heap.size ∧ (Value.slice ao n cap).ownBlock ≠ some q) x.1 x.2.1 x.2.2.1 x.2.2.2
 gw : w.heap.size < gW
 env : Env w
 bw : b < w.heap.size
section
variable {len : Nat} {ts : List (By × Nat)} {b bl cp : Nat} {w : World} {gW kd d : Nat} {e : Int} {wr : World} {i' : Nat} {ks : List KR} {ao : Option Addr} {n cap : Nat}
theorem St.down' {i2 d2 : Nat} {w0 w2 w3 : World} (h : St len ts w2 b bl cp i2 d2 e) (hb : w3.heap[b]? = w2.heap[b]?) (hl : w3.heap[bl]? = w2.heap[bl]?) (hE : Env w0) (hb0 : Below b w0 w3) : St len ts w3 b bl cp i2 d2 e :=
 ⟨h.rd.apart hb hl, hE.below hb0 (by have := h.low; have := h.rd.blk; omega), h.low⟩
theorem BrI.keep (h : BrI len ts b bl cp w gW kd d e wr i' ks ao n cap) {w2 : World} (hk : Kp b wr w2) : w2.ownsRow (gW + 1) 49 4 (.slice ao n cap) n (krc ks) ∧ ∀ x, x ∈ ks → PIs w2 (fun q => gW < q ∧ q < w2.heap.size ∧ (Value.slice ao n cap).ownBlock ≠ some q) x.1 x.2.1 x.2.2.1 x.2.2.2 := by
 have hg := h.gw
 have hb := h.bw
 have hsz := hk.size
 refine ⟨?_, fun x hx => ?_⟩
 ·refine h.own.kept (row := some b) ⟨hk.bel.os, hk.bel.tape, hk.bel.output, hk.size, fun k hk1 hk2 => hk.heap (fun e => hk2 (by rw [e])) hk1⟩ (Or.inr fun e => ?_)
  have := (h.own.lt b e).1
  omega
 ·exact ((h.kid x hx).next fun q hq => hk.heap (by omega) hq.2.1).wide fun q hq => ⟨hq.1, by omega, hq.2.2⟩
theorem BrI.call (h : BrI len ts b bl cp w gW kd d e wr i' ks ao n cap) {w2 : World} {i2 : Nat} (hk : Kp b wr w2) (hS : St len ts w2 b bl cp i2 (d + 1) e) : BrI len ts b bl cp w gW kd d e w2 i2 ks ao n cap := by
 have hg := h.gw
 have hb := h.bw
 exact ⟨hS, h.kp.trans hk, hk.blk h.res (by omega), hk.blk h.whl (by omega), (h.keep hk).1, h.len, (h.keep hk).2, h.gw, h.env, h.bw⟩
theorem BrI.app (h : BrI len ts b bl cp w gW kd d e wr i' ks ao n cap) {w2 : World} {i2 : Nat} (hk : Kp b wr w2) (hS : St len ts w2 b bl cp i2 (d + 1) e) (x : KR) (hx : PIs w2 (fun q => wr.heap.size ≤ q ∧ q < w2.heap.size) x.1 x.2.1 x.2.2.1 x.2.2.2)
  {W w3 : World} (hW : Below w2.heap.size w2 W) (hgrow : W.grownBy w3 (Value.slice ao n cap).ownBlock) {g cap' : Nat} (hat : (Value.slice ao n cap).ownBlock = some g ∨ g = W.heap.size)
  (hown : w3.ownsRow (gW + 1) 49 4 (.slice (some ⟨g, 0, none⟩) (n + 1) cap') (n + 1) (krc ks ++ [.int .i64 (x.1.k : Int), .string ⟨x.1.nm.toArray⟩, .int .i64 (x.1.n : Int), .slice x.2.1 x.2.2.1 x.2.2.2])) :
  BrI len ts b bl cp w gW kd d e (w3.setCell ⟨gW, 3, none⟩ (.slice (some ⟨g, 0, none⟩) (n + 1) cap')) i2 (ks ++ [x]) (some ⟨g, 0, none⟩) (n + 1) cap' := by
 have h2 := h.call hk hS
 have hg := h.gw
 have hb := h.bw
 have hsz := hk.size
 have hszW := hW.size
 have hszg := hgrow.size
 have hgwr : gW < wr.heap.size := (Array.getElem?_eq_some_iff.1 h.whl).1
 have hold : ∀ q, (Value.slice ao n cap).ownBlock = some q → gW + 1 ≤ q ∧ q < wr.heap.size := h.own.lt
 have key : ∀ q, q < w2.heap.size → (Value.slice ao n cap).ownBlock ≠ some q → q ≠ gW → (w3.setCell ⟨gW, 3, none⟩ (.slice (some ⟨g, 0, none⟩) (n + 1) cap')).heap[q]? = w2.heap[q]? := fun q hq hne hgq => by
  rw [Below.heap_setCell _ _ _ _ (by exact hgq), hgrow.block q (by omega) (fun e => hne e.symm), hW.block q hq]
 have hnb : ∀ q, q ≤ gW → (Value.slice ao n cap).ownBlock ≠ some q := fun q hq e => by have := hold q e; omega
 have hblt := h.st.rd.blk
 have hsw := h2.kp.size
 have hbel : Below b w (w3.setCell ⟨gW, 3, none⟩ (.slice (some ⟨g, 0, none⟩) (n + 1) cap')) :=
  h2.kp.bel.trans (((hW.mono (by omega)).grown hgrow (by omega) (fun k hk => by have := hold k hk; omega)).setCell (p := ⟨gW, 3, none⟩) (by show b ≤ gW; omega) _)
 have hkp : Kp b w (w3.setCell ⟨gW, 3, none⟩ (.slice (some ⟨g, 0, none⟩) (n + 1) cap')) :=
  ⟨hbel, fun q hq hqs => (key q (by omega) (hnb q (by omega)) (by omega)).trans (h2.kp.up q hq hqs)⟩
 have hbs := h2.st.rd.size
 have hgw3 : w3.heap[gW]? = w2.heap[gW]? := by rw [hgrow.block gW (by omega) (fun e => hnb gW (Nat.le_refl _) e.symm), hW.block gW (by omega)]
 have hsz4 : (w3.setCell ⟨gW, 3, none⟩ (.slice (some ⟨g, 0, none⟩) (n + 1) cap')).heap.size = w3.heap.size := by simp
 have hgq : ∀ q, q < w2.heap.size → (Value.slice ao n cap).ownBlock ≠ some q → (Value.slice (some ⟨g, 0, none⟩) (n + 1) cap').ownBlock ≠ some q := fun q hq hne e => by
  have e1 : g = q := by simpa [Value.ownBlock] using e
  rcases hat with h1 | h1
  ·exact hne (by rw [h1, e1])
  ·omega
 refine ⟨?_, hkp, ?_, ?_, ?_, ?_, fun y hy => ?_, h.gw, h.env, h.bw⟩
 ·refine h2.st.down' ?_ ?_ h.env hbel
  ·exact key b (by omega) (hnb b (by omega)) (by omega)
  ·exact key bl (by omega) (hnb bl (by omega)) (by omega)
 ·exact (key w.heap.size (by omega) (hnb _ (by omega)) (by omega)).trans h2.res
 ·rw [setCell_block (hgw3.trans h2.whl)]
  rfl
 ·rw [krc_snoc]
  exact ownsRow_setCell_below hown (by show gW < gW + 1; omega) _
 ·rw [List.length_append, h.len]
  rfl
 ·rw [List.mem_append, List.mem_singleton] at hy
  rcases hy with hy | rfl
  ·exact ((h2.kid y hy).next fun q hq => key q hq.2.1 hq.2.2 (by omega)).wide fun q hq => ⟨hq.1, by rw [hsz4]; omega, hgq q hq.2.1 hq.2.2⟩
  ·have hne : ∀ q, wr.heap.size ≤ q → (Value.slice ao n cap).ownBlock ≠ some q := fun q hq e => by have := hold q e; omega
   exact (hx.next fun q hq => key q hq.2 (hne q hq.1) (by omega)).wide fun q hq => ⟨by omega, by rw [hsz4]; omega, hgq q hq.2 (hne q hq.1)⟩
theorem BrI.fin (h : BrI len ts b bl cp w gW kd d e wr i' ks ao n cap) {wp : World} (hk : Kp b wr wp) (hn : 1 ≤ n) (v0 v1 v2 v3 : Value) (p : Pt) (hp : p.kids = ks.map (·.1)) :
  PIs ((((wp.setCell ⟨w.heap.size, 0, none⟩ v0).setCell ⟨w.heap.size, 1, none⟩ v1).setCell ⟨w.heap.size, 2, none⟩ v2).setCell ⟨w.heap.size, 3, none⟩ v3) (fun q => w.heap.size ≤ q ∧ q < ((((wp.setCell ⟨w.heap.size, 0, none⟩ v0).setCell ⟨w.heap.size, 1, none⟩ v1).setCell ⟨w.heap.size, 2, none⟩ v2).setCell ⟨w.heap.size, 3, none⟩ v3).heap.size) p ao n cap := by
 obtain ⟨hown, hkid⟩ := h.keep hk
 have hg := h.gw
 have hb := h.bw
 obtain ⟨g, cap', hv, hge, hgl⟩ := hown.form (by omega)
 simp only [Value.slice.injEq, true_and] at hv
 obtain ⟨rfl, rfl⟩ := hv
 have hlen := h.len
 subst hlen
 refine PIs.row (B := gW + 1) (ownsRow_setCell_below (ownsRow_setCell_below (ownsRow_setCell_below (ownsRow_setCell_below hown (by show w.heap.size < gW + 1; omega) _) (by show w.heap.size < gW + 1; omega) _) (by show w.heap.size < gW + 1; omega) _) (by show w.heap.size < gW + 1; omega) _) (fun x hx => ?_) ?_ p hp (fun e => by subst e; simp at hn)
 ·exact ((hkid x hx).next fun q hq => heap4 wp w.heap.size v0 v1 v2 v3 (by omega)).wide fun q hq => ⟨by omega, by rw [size4]; exact hq.2.1⟩
 ·exact ⟨by omega, by rw [size4]; exact hgl⟩
end
end
end Go.Proofs.YtihgojcfpnhelabGreatDoor
