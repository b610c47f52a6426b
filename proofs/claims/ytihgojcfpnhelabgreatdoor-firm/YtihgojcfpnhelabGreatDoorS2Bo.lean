import Derived.Test.YtihgojcfpnhelabGreatDoorS2Bl
set_option maxRecDepth 100000
set_option maxHeartbeats 4000000
set_option linter.unusedVariables false
set_option linter.unusedSimpArgs false
namespace Go.Proofs.YtihgojcfpnhelabGreatDoor
open Go.RowKit
section
theorem renP_good (x y : By) : ∀ p, Good p → Good (renP x y p)
 | .atom _ _ _, h => h
 | .un _ a, h => ⟨h.1, renP_good x y a h.2⟩
 | .bin _ a b, h => ⟨h.1, renP_good x y a h.2.1, renP_good x y b h.2.2⟩
 | .ifs a b c, h => ⟨renP_good x y a h.1, renP_good x y b h.2.1, renP_good x y c h.2.2⟩
theorem renP_shape (x y : By) : ∀ p, Shape p → Shape (renP x y p)
 | .atom _ _ _, h => h
 | .un _ a, h => ⟨h.1, renP_shape x y a h.2⟩
 | .bin _ a b, h => ⟨h.1, renP_shape x y a h.2.1, renP_shape x y b h.2.2⟩
 | .ifs a b c, h => ⟨renP_shape x y a h.1, renP_shape x y b h.2.1, renP_shape x y c h.2.2⟩
theorem renP_none (x y : By) : ∀ p, mentP x p = false → renP x y p = p
 | .atom k nm n, h => by
  simp [mentP] at h
  have : ¬ (k = 2 ∧ nm = x) := fun hh => h hh.1 hh.2
  simp only [renP, if_neg this]
 | .un k a, h => by
  simp [mentP] at h
  simp only [renP, renP_none x y a h.2]
 | .bin k a b, h => by
  simp [mentP] at h
  simp only [renP, renP_none x y a h.2.1, renP_none x y b h.2.2]
 | .ifs a b c, h => by
  simp [mentP] at h
  simp only [renP, renP_none x y a h.1, renP_none x y b h.2.1, renP_none x y c h.2.2]
theorem mentP_un (z : By) (hz : z ≠ []) (k : Nat) (a : Pt) : mentP z (.un k a) = mentP z a := by
 cases z with
 | nil => exact absurd rfl hz
 | cons t z => simp [mentP]
theorem mentP_bin (z : By) (hz : z ≠ []) (k : Nat) (a b : Pt) : mentP z (.bin k a b) = (mentP z a || mentP z b) := by
 cases z with
 | nil => exact absurd rfl hz
 | cons t z => simp [mentP]
theorem mentP_ifs (z : By) (a b c : Pt) : mentP z (.ifs a b c) = (mentP z a || (mentP z b || mentP z c)) := by
 simp [mentP]
theorem mentP_ren (x y z : By) (hx : x ≠ []) (hy : y ≠ []) (hz : z ≠ []) (hxy : y ≠ x) : ∀ p, mentP z (renP x y p) = if z = x then false else if z = y then mentP x p || mentP y p else mentP z p
 | .atom k nm n => by
  simp only [renP, mentP, List.any_nil, Bool.or_false]
  grind
 | .un k a => by
  have h1 := mentP_ren x y z hx hy hz hxy a
  simp only [renP, mentP_un _ hx, mentP_un _ hy, mentP_un _ hz, h1]
 | .bin k a b => by
  have h1 := mentP_ren x y z hx hy hz hxy a
  have h2 := mentP_ren x y z hx hy hz hxy b
  simp only [renP, mentP_bin _ hx, mentP_bin _ hy, mentP_bin _ hz, h1, h2]
  grind
 | .ifs a b c => by
  have h1 := mentP_ren x y z hx hy hz hxy a
  have h2 := mentP_ren x y z hx hy hz hxy b
  have h3 := mentP_ren x y z hx hy hz hxy c
  simp only [renP, mentP_ifs, h1, h2, h3]
  grind
theorem renP_len (x y : By) (hx : x ≠ []) : ∀ p, (txt (renP x y p)).length ≤ (txt p).length * (y.length + 1)
 | .atom k nm n => by
  have hM : ∀ q : Nat, q ≤ q * (y.length + 1) := fun q => Nat.le_mul_of_pos_right _ (by omega)
  have hn : (if k = 2 ∧ nm = x then y else nm).length ≤ nm.length * (y.length + 1) := by
   by_cases h : k = 2 ∧ nm = x
   ·rw [if_pos h, h.2]
    have : 1 ≤ x.length := List.length_pos_iff.2 hx
    have := Nat.mul_le_mul_right (y.length + 1) this
    omega
   ·rw [if_neg h]; exact hM _
  simp only [renP, txt, List.length_append, Nat.add_mul]
  have h1 := hM (ahd k).length
  have h2 := hM (numT k n).length
  have h3 := hM (jn (btw k) []).length
  have h4 := hM (bhd k).length
  omega
 | .un k a => by
  have hM : ∀ q : Nat, q ≤ q * (y.length + 1) := fun q => Nat.le_mul_of_pos_right _ (by omega)
  have ha := renP_len x y hx a
  simp only [renP, txt, jn, List.flatMap_nil, List.length_append, List.length_nil, Nat.add_mul]
  have h1 := hM (ahd k).length
  have h2 := hM (numT k 0).length
  have h4 := hM (bhd k).length
  omega
 | .bin k a b => by
  have hM : ∀ q : Nat, q ≤ q * (y.length + 1) := fun q => Nat.le_mul_of_pos_right _ (by omega)
  have ha := renP_len x y hx a
  have hb := renP_len x y hx b
  simp only [renP, txt, jn, List.flatMap_cons, List.flatMap_nil, List.length_append, List.length_nil, Nat.add_mul]
  have h1 := hM (ahd k).length
  have h2 := hM (numT k 0).length
  have h3 := hM (btw k).length
  have h4 := hM (bhd k).length
  omega
 | .ifs a b c => by
  have hM : ∀ q : Nat, q ≤ q * (y.length + 1) := fun q => Nat.le_mul_of_pos_right _ (by omega)
  have ha := renP_len x y hx a
  have hb := renP_len x y hx b
  have hc := renP_len x y hx c
  simp only [renP, txt, jn, List.flatMap_cons, List.flatMap_nil, List.length_append, List.length_nil, Nat.add_mul]
  have h1 := hM (ahd 3).length
  have h2 := hM (numT 3 0).length
  have h3 := hM (btw 3).length
  have h4 := hM (bhd 3).length
  omega
end
section
variable {S S1 O S5 : Nat → Prop} {e : Nat} {D D1 : Nat → Prop} {σ σ0 σ1 σ2 : Sta} {v1 v2 v3 v4 v5 : Value} {te : TypeId} {w w' W w1 w2 w3 w5 : World} {ws0 ws1 us : List Wr} {b N N3 : Nat} {cs cs3 : Array Value} {ar : AR} {r : Ending} {hs gs : List (Nat × Fd)}
theorem StOk.edPost {fs : List Fd} {nm : List By} (h : StOk S e D σ0 ws0 v1 v2 v3 v4 v5 te hs gs w r w') (h1 : (workP gs (hs.map fun x => x.1)).map Prod.snd = fs) (h2 : nmsF hs = nm) : EdPost S e D σ0 v1 v2 v3 v4 v5 te (.ok fs nm) w r w' := by
 obtain ⟨an, cn, N', cs', S', ws, rfl, k1, k2, k3, k4, k5, k6, k7, k8⟩ := h
 subst h2
 refine ⟨an, cn, S', D, N', cs', σ0, ws0 ++ ws, ⟨k3, fun q hq => (k4 q hq).imp id fun h => h.1, fun _ h => h, fun _ h => Or.inl h, k7, ?_, ?_⟩, ?_, fun _ _ => rfl, rfl, k5, k6, by rw [k8, h1]⟩
 ·rw [nmsF_len]; exact k1
 ·rw [nmsF_len]; exact k2
 ·rw [nmsF_len]
theorem enum_work (gs : List (Nat × Fd)) (hn : (gs.map Prod.fst).Nodup) (on : List By) : (workP (enumF (gs.map Prod.snd)) ((hangP on (enumF (gs.map Prod.snd))).map fun x => x.1)).map Prod.snd = (workP gs ((hangP on gs).map fun x => x.1)).map Prod.snd ∧ nmsF (hangP on (enumF (gs.map Prod.snd))) = nmsF (hangP on gs) := by
 rw [← re_enum gs hn, hangP_re]
 have e3 : ((hangP on gs).map (reB fun b => (gs.map Prod.fst).idxOf b)).map (fun x => x.1) = ((hangP on gs).map fun x => x.1).map (fun b => (gs.map Prod.fst).idxOf b) := by
  rw [List.map_map, List.map_map]
  rfl
 rw [e3, workP_re]
 ·refine ⟨?_, ?_⟩
  ·simp [reB, Function.comp_def]
  ·simp [nmsF, reB, Function.comp_def]
 ·intro k hk g hg h
  obtain ⟨x, hx, rfl⟩ := List.mem_map.1 hk
  exact idx_inj gs _ _ (List.mem_map_of_mem hg) (List.mem_map_of_mem (hangP_sub _ _ x hx)) h
theorem map_erase {α β : Type} (f : α → β) (l : List α) (i : Nat) : (l.eraseIdx i).map f = (l.map f).eraseIdx i := by
 rw [List.eraseIdx_eq_take_drop_succ, List.eraseIdx_eq_take_drop_succ, List.map_append, List.map_take, List.map_drop]
theorem delS (h : PhS w S e D σ v1 v2 v3 v4 v5 te) (hnd : σ.ord.Nodup) (hl : σ.ord.length ≤ 10) (x : By) :
  Calls Tryz.prog 55 #[.pointer (some ⟨e, 0, none⟩), .string ⟨x.toArray⟩] w (EdPost S e D σ v1 v2 v3 v4 v5 te (delA (σ.fs.map Prod.snd) x) w) := by
 have hfl : σ.fs.length = σ.ord.length := by simp [Sta.fs]
 unfold delA
 cases hf : findF σ.fs x with
 | none =>
  rw [findIdx_none hf]
  obtain ⟨a, c, hs, hcc, hac, hrow⟩ := h.sh
  refine (delNone c a σ.fs x hs (row6 hrow).1.1 (by omega) hf).mono ?_
  rintro r w' ⟨rfl, rfl⟩
  exact ⟨none, 0, S, ⟨fun _ h => h, fun _ h => Or.inl h, fun _ h => h, fun _ h => Or.inl h, Ks.refl _ _, World.ownsRow_nil _ _ _ _, fun q hq => by simp [Value.ownBlock] at hq⟩, rfl, h⟩
 | some f =>
  obtain ⟨i, hi1, hi2⟩ := findIdx_some hf
  obtain ⟨ho1, ho2⟩ := fs_at hi2
  rw [hi1]
  simp only
  rw [ho2] at hf
  have hn : ((σ.fs.eraseIdx i).map Prod.fst).Nodup := by
   rw [map_erase, fs_fst]
   exact hnd.sublist (List.eraseIdx_sublist _ _)
  obtain ⟨q1, q2⟩ := enum_work (σ.fs.eraseIdx i) hn [x]
  rw [map_erase] at q1 q2
  refine (delSome i x h hnd (by omega) ho1 hf).mono fun r w' hr => ?_
  exact hr.edPost q1.symm q2.symm
def renL (x y : By) (σ : Sta) (l : List Nat) : List Wr := l.flatMap fun q => if mentP x (σ.mem q).p = true then [.rl q (renP x y (σ.mem q).p)] else []
theorem renL_snoc (x y : By) (σ : Sta) (l : List Nat) (q : Nat) : renL x y σ (l ++ [q]) = renL x y σ l ++ (if mentP x (σ.mem q).p = true then [.rl q (renP x y (σ.mem q).p)] else []) := by simp [renL]
theorem renL_run (x y : By) (σ : Sta) : ∀ (l : List Nat) (τ : Sta), l.Nodup → (∀ q, q ∈ l → (τ.mem q).p = (σ.mem q).p) → (runW (renL x y σ l) τ).ord = τ.ord ∧ ∀ q, (runW (renL x y σ l) τ).mem q = if q ∈ l then ⟨(τ.mem q).nm, renP x y (σ.mem q).p, (τ.mem q).v⟩ else τ.mem q
 | [], τ, _, _ => ⟨rfl, fun q => by simp [renL, runW]⟩
 | b :: r, τ, hn, hp => by
  rw [List.nodup_cons] at hn
  have e1 : renL x y σ (b :: r) = (if mentP x (σ.mem b).p = true then [.rl b (renP x y (σ.mem b).p)] else []) ++ renL x y σ r := by simp [renL]
  by_cases hm : mentP x (σ.mem b).p = true
  ·rw [e1, if_pos hm, runW_app]
   obtain ⟨h1, h2⟩ := renL_run x y σ r (wr1 τ (.rl b (renP x y (σ.mem b).p))) hn.2 fun q hq => by
    have hne : q ≠ b := fun e' => hn.1 (e' ▸ hq)
    rw [show (wr1 τ (.rl b (renP x y (σ.mem b).p))).mem q = τ.mem q from put_mem_ne _ _ _ _ hne]
    exact hp q (by simp [hq])
   refine ⟨h1, fun q => ?_⟩
   have h3 := h2 q
   rw [show runW [Wr.rl b (renP x y (σ.mem b).p)] τ = wr1 τ (.rl b (renP x y (σ.mem b).p)) from rfl, h3]
   by_cases e' : q = b
   ·subst e'
    rw [if_neg hn.1, if_pos (by simp)]
    exact put_mem _ _ _
   ·have e2 : (wr1 τ (.rl b (renP x y (σ.mem b).p))).mem q = τ.mem q := put_mem_ne _ _ _ _ e'
    rw [e2]
    by_cases hq : q ∈ r <;> simp [hq, e']
  ·have hm' : mentP x (σ.mem b).p = false := by simpa using hm
   rw [e1, if_neg hm, List.nil_append]
   obtain ⟨h1, h2⟩ := renL_run x y σ r τ hn.2 fun q hq => hp q (by simp [hq])
   refine ⟨h1, fun q => ?_⟩
   rw [h2 q]
   by_cases e' : q = b
   ·subst e'
    rw [if_neg hn.1, if_pos (by simp), renP_none x y _ hm', ← hp q (by simp)]
   ·by_cases hq : q ∈ r <;> simp [hq, e']
theorem ren_fs (x y : By) (hnd : σ.ord.Nodup) (hnn : (σ.fs.map fun g => g.2.nm).Nodup) (hb : b ∈ σ.ord) (hx : (σ.mem b).nm = x) : (runW (.nm b y :: renL x y σ σ.ord) σ).ord = σ.ord ∧ (runW (.nm b y :: renL x y σ σ.ord) σ).fs.map Prod.snd = (σ.fs.map Prod.snd).map (renF x y) ∧ (runW (.nm b y :: renL x y σ σ.ord) σ).mem b = renF x y (σ.mem b) := by
 obtain ⟨h1, h2⟩ := renL_run x y σ σ.ord (wr1 σ (.nm b y)) hnd fun q hq => by
  by_cases e' : q = b
  ·subst e'
   rw [show (wr1 σ (.nm q y)).mem q = ⟨y, (σ.mem q).p, (σ.mem q).v⟩ from put_mem _ _ _]
  ·rw [show (wr1 σ (.nm b y)).mem q = σ.mem q from put_mem_ne _ _ _ _ e']
 have hm : ∀ q, q ∈ σ.ord → (runW (.nm b y :: renL x y σ σ.ord) σ).mem q = renF x y (σ.mem q) := fun q hq => by
  show (runW (renL x y σ σ.ord) (wr1 σ (.nm b y))).mem q = _
  rw [h2 q, if_pos hq]
  unfold renF
  by_cases e' : q = b
  ·subst e'
   rw [show (wr1 σ (.nm q y)).mem q = ⟨y, (σ.mem q).p, (σ.mem q).v⟩ from put_mem _ _ _, if_pos hx]
  ·rw [show (wr1 σ (.nm b y)).mem q = σ.mem q from put_mem_ne _ _ _ _ e']
   have hne : (σ.mem q).nm ≠ x := fun h => e' (nm_inj hnn hq hb (h.trans hx.symm))
   rw [if_neg hne]
 refine ⟨h1, ?_, hm b hb⟩
 unfold Sta.fs
 rw [show (runW (.nm b y :: renL x y σ σ.ord) σ).ord = σ.ord from h1]
 simp only [List.map_map]
 exact List.map_congr_left fun q hq => hm q hq
 where
 nm_inj {σ : Sta} (hnn : (σ.fs.map fun g => g.2.nm).Nodup) {q b : Nat} (hq : q ∈ σ.ord) (hb : b ∈ σ.ord) (h : (σ.mem q).nm = (σ.mem b).nm) : q = b := by
  have h1 := findF_nn hnn (g := (q, σ.mem q)) (List.mem_map.2 ⟨q, hq, rfl⟩)
  have h2 := findF_nn hnn (g := (b, σ.mem b)) (List.mem_map.2 ⟨b, hb, rfl⟩)
  simp only at h1 h2
  rw [h, h2] at h1
  cases h1
  rfl
end
section
def GF (fs : List Fd) : Prop := GS (enumF fs)
theorem enum_nb (fs : List Fd) : ((enumF fs).map Prod.fst).Nodup := by
 have : (enumF fs).map Prod.fst = List.range fs.length := by
  unfold enumF
  rw [List.map_map]
  apply List.ext_getElem
  ·simp
  ·intro i h1 h2
   simp
 rw [this]
 exact List.nodup_range
theorem gs_iff {gs : List (Nat × Fd)} (hn : (gs.map Prod.fst).Nodup) : GS gs ↔ GF (gs.map Prod.snd) := by
 unfold GF
 rw [← re_enum gs hn]
 have hnm : ∀ φ : Nat → Nat, (gs.map (reB φ)).map (fun g => g.2.nm) = gs.map fun g => g.2.nm := fun φ => by simp [reB, Function.comp_def]
 constructor
 ·intro h
  refine ⟨by rw [re_enum gs hn]; exact enum_nb _, by rw [hnm]; exact h.nn, ⟨?_, ?_⟩, ?_, ?_⟩
  ·exact List.pairwise_map.2 (h.topo.1.imp fun h => h)
  ·intro g hg
   obtain ⟨x, hx, rfl⟩ := List.mem_map.1 hg
   exact h.topo.2 x hx
  ·intro g hg
   obtain ⟨x, hx, rfl⟩ := List.mem_map.1 hg
   exact h.shp x hx
  ·intro g hg
   obtain ⟨x, hx, rfl⟩ := List.mem_map.1 hg
   rw [rho_re]
   exact h.val x hx
 ·intro h
  refine ⟨hn, by rw [← hnm]; exact h.nn, ⟨?_, fun g hg => h.topo.2 (reB _ g) (List.mem_map_of_mem hg)⟩, fun g hg => h.shp (reB _ g) (List.mem_map_of_mem hg), fun g hg => ?_⟩
  ·exact (List.pairwise_map.1 h.topo.1).imp fun h => h
  ·have := h.val (reB _ g) (List.mem_map_of_mem hg)
   rw [rho_re] at this
   exact this
theorem withV_snd_nm (gs : List (Nat × Fd)) (V : Nat → Vl) : ((withV gs V).map Prod.snd).map (fun f => (f.nm, f.p)) = (gs.map Prod.snd).map fun f => (f.nm, f.p) := by
 simp [withV, Function.comp_def]
theorem settle_right (A B : List Fd) (f : Fd) (fs' : List Fd) (nms : List By) (hn : ((A ++ f :: B).map fun g => g.nm).Nodup) (hp : (enumF (A ++ f :: B)).Pairwise (fun g h => g.1 = A.length ∨ h.1 = A.length ∨ NM g h)) (hs : ∀ g, g ∈ A ++ B → mentP g.nm g.p = false) (hsh : ∀ g, g ∈ A ++ f :: B → Shape g.p)
  (hv : ∀ g, g ∈ A ++ B → mentP f.nm g.p = false → g.v = valP (rho (enumF (A ++ f :: B))) g.p) (h : settleA (A ++ f :: B) A.length f = .ok fs' nms) :
  GF fs' ∧ fs'.length = (A ++ f :: B).length ∧ (fs'.map fun g => (g.nm, g.p)).Perm ((A ++ f :: B).map fun g => (g.nm, g.p)) := by
 unfold settleA at h
 cases hm : mendF (enumF (A ++ f :: B)) A.length (A.length, f) with
 | circ ch => rw [hm] at h; cases h
 | ok gs =>
  rw [hm] at h
  simp only [AR.ok.injEq] at h
  obtain ⟨h1, h2⟩ := h
  have hat : (enumF (A ++ f :: B))[A.length]? = some (A.length, f) := by
   rw [enumF_at _ _ (by simp)]
   simp
  obtain ⟨hsp, hlen⟩ := split_at hat
  have hmem : ∀ g, g ∈ (enumF (A ++ f :: B)).take A.length ++ (enumF (A ++ f :: B)).drop (A.length + 1) → g.2 ∈ A ++ B ∧ g.1 ≠ A.length ∧ g ∈ enumF (A ++ f :: B) := fun g hg => by
   rcases List.mem_append.1 hg with hg | hg
   ·obtain ⟨i, hi, e⟩ := List.getElem_of_mem hg
    have hi' : i < A.length := by simp at hi; omega
    have hil : i < (A ++ f :: B).length := by simp; omega
    rw [List.getElem_take] at e
    have e2 := enumF_at (A ++ f :: B) i hil
    rw [List.getElem?_eq_getElem (by rw [enumF_length]; exact hil), e] at e2
    simp only [Option.some.injEq] at e2
    subst e2
    refine ⟨?_, by simp only; omega, List.mem_of_mem_take hg⟩
    rw [List.getElem_append_left hi']
    simp
   ·obtain ⟨i, hi, e⟩ := List.getElem_of_mem hg
    have hil : A.length + 1 + i < (A ++ f :: B).length := by simp [enumF_length] at hi ⊢; omega
    rw [List.getElem_drop] at e
    have e2 := enumF_at (A ++ f :: B) (A.length + 1 + i) hil
    rw [List.getElem?_eq_getElem (by rw [enumF_length]; exact hil), e] at e2
    simp only [Option.some.injEq] at e2
    subst e2
    refine ⟨?_, by simp only; omega, List.mem_of_mem_drop hg⟩
    rw [List.getElem_append_right (by omega)]
    have : A.length + 1 + i - A.length = i + 1 := by omega
    simp [this]
  have hm' : mendF ((enumF (A ++ f :: B)).take A.length ++ (A.length, f) :: (enumF (A ++ f :: B)).drop (A.length + 1)) ((enumF (A ++ f :: B)).take A.length).length (A.length, f) = .ok gs := by rw [hlen, ← hsp]; exact hm
  have hnn : (((enumF (A ++ f :: B)).take A.length ++ (A.length, f) :: (enumF (A ++ f :: B)).drop (A.length + 1)).map fun g => g.2.nm).Nodup := by
   rw [← hsp]
   have : (enumF (A ++ f :: B)).map (fun g => g.2.nm) = ((enumF (A ++ f :: B)).map Prod.snd).map fun g => g.nm := by simp
   rw [this, enumF_snd]
   exact hn
  obtain ⟨V, e1, e2, e3⟩ := edit_right ((enumF (A ++ f :: B)).take A.length) ((enumF (A ++ f :: B)).drop (A.length + 1)) gs (A.length, f) (by rw [← hsp]; exact enum_nb _) hnn (by
   have hsub : List.Sublist ((enumF (A ++ f :: B)).take A.length ++ (enumF (A ++ f :: B)).drop (A.length + 1)) (enumF (A ++ f :: B)) := by
    conv => rhs; rw [hsp]
    exact List.Sublist.append (List.Sublist.refl _) (List.sublist_cons_self _ _)
   refine (hp.sublist hsub).imp_of_mem fun {a b} ha hb hab => ?_
   rcases hab with h3 | h3 | h3
   ·exact absurd h3 (hmem a ha).2.1
   ·exact absurd h3 (hmem b hb).2.1
   ·exact h3) (fun g hg => hs g.2 (hmem g hg).1) (fun g hg => by
   rw [← hsp] at hg
   refine hsh g.2 ?_
   have := List.mem_map_of_mem (f := Prod.snd) hg
   rw [enumF_snd] at this
   exact this) (fun g hg hmt => by
   rw [← hsp]
   exact hv g.2 (hmem g hg).1 hmt) hm'
  rw [e1] at h1
  subst h1
  rw [← hsp] at e3
  have hnb : ((withV gs V).map Prod.fst).Nodup := e2.nb
  refine ⟨(gs_iff hnb).1 e2, ?_, ?_⟩
  ·simp only [List.length_map, withV]
   rw [e3.length_eq, enumF_length]
  ·rw [withV_snd_nm]
   have := (e3.map Prod.snd).map fun f => (f.nm, f.p)
   rw [enumF_snd] at this
   exact this
end
section
theorem rho_enum (fs : List Fd) : rho (enumF fs) = rhoF fs := by
 funext x
 rw [rho_rhoF, enumF_snd]
theorem GF.nn {fs : List Fd} (h : GF fs) : (fs.map fun g => g.nm).Nodup := by
 have := GS.nn h
 have e : (enumF fs).map (fun g => g.2.nm) = ((enumF fs).map Prod.snd).map fun g => g.nm := by simp
 rw [e, enumF_snd] at this
 exact this
theorem enum_mem {fs : List Fd} {f : Fd} (h : f ∈ fs) : ∃ i, (i, f) ∈ enumF fs := by
 rw [← enumF_snd fs] at h
 obtain ⟨g, hg, rfl⟩ := List.mem_map.1 h
 exact ⟨g.1, hg⟩
theorem GF.self {fs : List Fd} (h : GF fs) : ∀ g, g ∈ fs → mentP g.nm g.p = false := fun g hg => by
 obtain ⟨i, hi⟩ := enum_mem hg
 exact h.topo.2 _ hi
theorem GF.shape {fs : List Fd} (h : GF fs) : ∀ g, g ∈ fs → Shape g.p := fun g hg => by
 obtain ⟨i, hi⟩ := enum_mem hg
 exact h.shp _ hi
theorem GF.vals {fs : List Fd} (h : GF fs) : ∀ g, g ∈ fs → g.v = valP (rhoF fs) g.p := fun g hg => by
 obtain ⟨i, hi⟩ := enum_mem hg
 have := h.val _ hi
 rw [rho_enum] at this
 exact this
theorem pw_but (L L' : List Fd) (k : Nat) (hl : L.length = L'.length) (ρ : Fd → Fd) (hsame : ∀ i (h : i < L.length) (h' : i < L'.length), i ≠ k → L'[i] = ρ L[i]) (hρ : ∀ i j (hi : i < L.length) (hj : j < L.length), i ≠ k → j ≠ k → i < j → mentP L[j].nm L[i].p = false → mentP (ρ L[j]).nm (ρ L[i]).p = false) (h : (enumF L).Pairwise NM) : (enumF L').Pairwise (fun g h => g.1 = k ∨ h.1 = k ∨ NM g h) := by
 rw [List.pairwise_iff_getElem] at h ⊢
 intro i j hi hj hij
 rw [enumF_length] at hi hj
 have ei : ∀ (M : List Fd) (i : Nat) (hi : i < (enumF M).length) (hi' : i < M.length), (enumF M)[i] = (i, M[i]) := fun M i hi hi' => by
  have := enumF_at M i hi'
  rw [List.getElem?_eq_getElem hi] at this
  simpa using this
 rw [ei L' i (by rw [enumF_length]; exact hi) hi, ei L' j (by rw [enumF_length]; exact hj) hj]
 by_cases h1 : i = k
 ·exact Or.inl h1
 ·by_cases h2 : j = k
  ·exact Or.inr (Or.inl h2)
  ·refine Or.inr (Or.inr ?_)
   have hiL : i < L.length := by omega
   have hjL : j < L.length := by omega
   have hnm := h i j (by rw [enumF_length]; exact hiL) (by rw [enumF_length]; exact hjL) hij
   rw [ei L i (by rw [enumF_length]; exact hiL) hiL, ei L j (by rw [enumF_length]; exact hjL) hjL] at hnm
   show mentP L'[j].nm L'[i].p = false
   rw [hsame i hiL hi h1, hsame j hjL hj h2]
   exact hρ i j hiL hjL h1 h2 hij hnm
theorem split_fd {l : List Fd} {i : Nat} {f : Fd} (h : l[i]? = some f) : l = l.take i ++ f :: l.drop (i + 1) ∧ (l.take i).length = i := by
 obtain ⟨hi, rfl⟩ := List.getElem?_eq_some_iff.1 h
 refine ⟨?_, by simp; omega⟩
 rw [List.getElem_cons_drop, List.take_append_drop]
theorem findIdx_facts {fs : List Fd} {x : By} {i : Nat} (h : fs.findIdx? (fun f => f.nm == x) = some i) : ∃ f, fs[i]? = some f ∧ f.nm = x := by
 rw [List.findIdx?_eq_some_iff_getElem] at h
 obtain ⟨hi, h1, _⟩ := h
 exact ⟨fs[i], List.getElem?_eq_getElem hi, by simpa using h1⟩
theorem rhoF_same (A B : List Fd) (f f' : Fd) (h1 : f'.nm = f.nm) (h2 : f'.v = f.v) : rhoF (A ++ f' :: B) = rhoF (A ++ f :: B) := by
 funext z
 unfold rhoF
 rw [List.find?_append, List.find?_append]
 cases A.find? (fun g => g.nm == z) with
 | some g => rfl
 | none =>
  simp only [Option.none_or, List.find?_cons, h1]
  by_cases h : (f.nm == z) = true
  ·simp [h, h2]
  ·simp [h]
theorem setA_right {fs : List Fd} {x : By} {p : Pt} {fs' : List Fd} {nms : List By} (hG : GF fs) (hsh : Shape p) (h : setA fs x p = .ok fs' nms) :
  GF fs' ∧ ((∃ A f B, fs = A ++ f :: B ∧ f.nm = x ∧ (fs'.map fun g => (g.nm, g.p)).Perm ((A ++ (⟨x, p, f.v⟩ : Fd) :: B).map fun g => (g.nm, g.p))) ∨ ((∀ f, f ∈ fs → f.nm ≠ x) ∧ fs.length ≠ 10 ∧ (fs'.map fun g => (g.nm, g.p)).Perm ((fs ++ [(⟨x, p, (0, 0)⟩ : Fd)]).map fun g => (g.nm, g.p)))) := by
 unfold setA at h
 cases hf : fs.findIdx? (fun f => f.nm == x) with
 | some i =>
  rw [hf] at h
  obtain ⟨f, hi, hx⟩ := findIdx_facts hf
  simp only [hi] at h
  obtain ⟨hsp, hlen⟩ := split_fd hi
  generalize hA : fs.take i = A at *
  generalize hB : fs.drop (i + 1) = B at *
  subst hlen
  have hset : fs.set A.length ⟨f.nm, p, f.v⟩ = A ++ ⟨f.nm, p, f.v⟩ :: B := by rw [hsp]; simp
  rw [hset] at h
  have hAB : ∀ g, g ∈ A ++ B → g ∈ fs := fun g hg => by
   rw [hsp]
   simp at hg ⊢
   rcases hg with h | h
   ·exact Or.inl h
   ·exact Or.inr (Or.inr h)
  have hnn : ((A ++ (⟨f.nm, p, f.v⟩ : Fd) :: B).map fun g => g.nm).Nodup := by
   have := hG.nn
   rw [hsp] at this
   simpa using this
  obtain ⟨r1, r2, r3⟩ := settle_right A B ⟨f.nm, p, f.v⟩ fs' nms hnn (by
   refine pw_but fs _ A.length (by rw [hsp]; simp) id (fun j hj hj' hne => ?_) (fun _ _ _ _ _ _ _ h => h) hG.topo.1
   have : (A ++ f :: B)[j]? = (A ++ (⟨f.nm, p, f.v⟩ : Fd) :: B)[j]? := by
    by_cases h3 : j < A.length
    ·rw [List.getElem?_append_left h3, List.getElem?_append_left h3]
    ·rw [List.getElem?_append_right (by omega), List.getElem?_append_right (by omega)]
     obtain ⟨m, hm⟩ : ∃ m, j - A.length = m + 1 := ⟨j - A.length - 1, by omega⟩
     rw [hm]
     rfl
   rw [← hsp, List.getElem?_eq_getElem hj, List.getElem?_eq_getElem hj'] at this
   simpa using this.symm) (fun g hg => hG.self g (hAB g hg)) (fun g hg => by
   simp at hg
   rcases hg with h3 | rfl | h3
   ·exact hG.shape g (hAB g (by simp [h3]))
   ·exact hsh
   ·exact hG.shape g (hAB g (by simp [h3]))) (fun g hg _ => by
   rw [rho_enum, rhoF_same A B f ⟨f.nm, p, f.v⟩ rfl rfl, ← hsp]
   exact hG.vals g (hAB g hg)) h
  refine ⟨r1, Or.inl ⟨A, f, B, hsp, hx, ?_⟩⟩
  rw [← hx]
  exact r3
 | none =>
  rw [hf] at h
  simp only at h
  by_cases h10 : fs.length = 10
  ·rw [if_pos h10] at h; cases h
  ·rw [if_neg h10] at h
   have hno : ∀ f, f ∈ fs → f.nm ≠ x := fun f hf' e => by
    have := List.findIdx?_eq_none_iff.1 hf f hf'
    simp [e] at this
   obtain ⟨r1, r2, r3⟩ := settle_right fs [] ⟨x, p, (0, 0)⟩ fs' nms (by
    rw [List.map_append, List.nodup_append]
    refine ⟨hG.nn, by simp, fun q hq r hr => ?_⟩
    simp at hr
    obtain ⟨y, hy, rfl⟩ := List.mem_map.1 hq
    rw [hr]
    exact hno y hy) (by
    rw [List.pairwise_iff_getElem]
    intro i j hi hj hij
    have ei : ∀ (M : List Fd) (i : Nat) (hi : i < (enumF M).length) (hi' : i < M.length), (enumF M)[i] = (i, M[i]) := fun M i hi hi' => by
     have := enumF_at M i hi'
     rw [List.getElem?_eq_getElem hi] at this
     simpa using this
    rw [enumF_length] at hi hj
    rw [ei _ i (by rw [enumF_length]; exact hi) hi, ei _ j (by rw [enumF_length]; exact hj) hj]
    simp at hi hj
    by_cases h2 : j = fs.length
    ·exact Or.inr (Or.inl h2)
    ·refine Or.inr (Or.inr ?_)
     have hiL : i < fs.length := by omega
     have hjL : j < fs.length := by omega
     have hnm := List.pairwise_iff_getElem.1 hG.topo.1 i j (by rw [enumF_length]; exact hiL) (by rw [enumF_length]; exact hjL) hij
     rw [ei _ i (by rw [enumF_length]; exact hiL) hiL, ei _ j (by rw [enumF_length]; exact hjL) hjL] at hnm
     show mentP _ _ = false
     rw [List.getElem_append_left hiL, List.getElem_append_left hjL]
     exact hnm) (fun g hg => hG.self g (by simpa using hg)) (fun g hg => by
    simp at hg
    rcases hg with h3 | rfl
    ·exact hG.shape g h3
    ·exact hsh) (fun g hg hm => by
    have hg' : g ∈ fs := by simpa using hg
    rw [rho_enum, hG.vals g hg']
    refine (valP_off x _ _ (fun z hz => ?_) g.p (hG.shape g hg') hm).symm
    unfold rhoF
    rw [List.find?_append]
    cases fs.find? (fun f => f.nm == z) with
    | some f => rfl
    | none =>
     have : ((⟨x, p, (0, 0)⟩ : Fd).nm == z) = false := by simpa using Ne.symm hz
     simp [List.find?_cons, this]) h
   exact ⟨r1, Or.inr ⟨hno, h10, r3⟩⟩
end
section
theorem delA_right {fs : List Fd} {x : By} {fs' : List Fd} {nms : List By} (hG : GF fs) (h : delA fs x = .ok fs' nms) :
  GF fs' ∧ ∃ A f B, fs = A ++ f :: B ∧ f.nm = x ∧ (fs'.map fun g => (g.nm, g.p)) = (A ++ B).map fun g => (g.nm, g.p) := by
 unfold delA at h
 cases hf : fs.findIdx? (fun f => f.nm == x) with
 | none => rw [hf] at h; cases h
 | some i =>
  rw [hf] at h
  obtain ⟨f, hi, hx⟩ := findIdx_facts hf
  obtain ⟨hsp, hlen⟩ := split_fd hi
  have her : fs.eraseIdx i = fs.take i ++ fs.drop (i + 1) := List.eraseIdx_eq_take_drop_succ _ _
  generalize hA : fs.take i = A at *
  generalize hB : fs.drop (i + 1) = B at *
  simp only [AR.ok.injEq, her] at h
  obtain ⟨h1, _⟩ := h
  have hAB : ∀ g, g ∈ A ++ B → g ∈ fs := fun g hg => by
   rw [hsp]
   simp at hg ⊢
   rcases hg with h | h
   ·exact Or.inl h
   ·exact Or.inr (Or.inr h)
  have hnb := enum_nb (A ++ B)
  obtain ⟨V, hV, hVg⟩ := withV_self (enumF (A ++ B)) hnb
  have hsub : List.Sublist (A ++ B) fs := by
   rw [hsp]
   exact List.Sublist.append (List.Sublist.refl _) (List.sublist_cons_self _ _)
  have htopo : Topo (enumF (A ++ B)) := by
   refine ⟨?_, fun g hg => ?_⟩
   ·have h2 : (fs.Pairwise fun g h => mentP h.nm g.p = false) := by
     have h3 := hG.topo.1
     rw [← enumF_snd fs]
     exact List.pairwise_map.2 (h3.imp fun h => h)
    have h4 := h2.sublist hsub
    rw [← enumF_snd (A ++ B)] at h4
    exact (List.pairwise_map.1 h4).imp fun h => h
   ·have := List.mem_map_of_mem (f := Prod.snd) hg
    rw [enumF_snd] at this
    exact hG.self g.2 (hAB _ this)
  have hshp : ∀ g, g ∈ enumF (A ++ B) → Shape g.2.p := fun g hg => by
   have := List.mem_map_of_mem (f := Prod.snd) hg
   rw [enumF_snd] at this
   exact hG.shape g.2 (hAB _ this)
  have hrho : rho (enumF (A ++ B)) = rhoV (enumF (A ++ B)) V := by
   conv => lhs; rw [← hV]
   exact rho_withV _ V
  have hright := scan_right (enumF (A ++ B)) hnb htopo hshp (enumF (A ++ B)) [] V [x] rfl (fun g hg => by simp at hg) fun g hg ha => by
   have hm : mentP x g.2.p = false := by simpa [anyM] using ha
   have hgs := List.mem_map_of_mem (f := Prod.snd) hg
   rw [enumF_snd] at hgs
   unfold RightV
   rw [hVg g hg, ← hrho, rho_enum, hG.vals g.2 (hAB _ hgs)]
   refine valP_off x _ _ (fun z hz => ?_) g.2.p (hshp g hg) hm
   rw [hsp]
   unfold rhoF
   rw [List.find?_append, List.find?_append]
   have : (f.nm == z) = false := by rw [hx]; simpa using Ne.symm hz
   simp only [List.find?_cons, this]
  have hw := workP_withV (enumF (A ++ B)) hnb (hangP [x] (enumF (A ++ B))) V fun g hg => hangP_sub _ _ g hg
  rw [hV] at hw
  rw [hw] at h1
  subst h1
  have hnn : ((A ++ B).map fun g => g.nm).Nodup := hG.nn.sublist (hsub.map _)
  have hGS : GS (withV (enumF (A ++ B)) (workV (enumF (A ++ B)) V (hangP [x] (enumF (A ++ B))))) := by
   refine ⟨?_, ?_, ⟨?_, ?_⟩, ?_, ?_⟩
   ·have : (withV (enumF (A ++ B)) (workV (enumF (A ++ B)) V (hangP [x] (enumF (A ++ B))))).map Prod.fst = (enumF (A ++ B)).map Prod.fst := by simp [withV]
    rw [this]; exact hnb
   ·have : (withV (enumF (A ++ B)) (workV (enumF (A ++ B)) V (hangP [x] (enumF (A ++ B))))).map (fun g => g.2.nm) = ((enumF (A ++ B)).map Prod.snd).map fun g => g.nm := by simp [withV]
    rw [this, enumF_snd]; exact hnn
   ·unfold withV
    exact List.pairwise_map.2 (htopo.1.imp fun h => h)
   ·intro g hg
    obtain ⟨y, hy, rfl⟩ := List.mem_map.1 hg
    exact htopo.2 y hy
   ·intro g hg
    obtain ⟨y, hy, rfl⟩ := List.mem_map.1 hg
    exact hshp y hy
   ·intro g hg
    obtain ⟨y, hy, rfl⟩ := List.mem_map.1 hg
    rw [rho_withV]
    exact hright y hy
  refine ⟨(gs_iff hGS.nb).1 hGS, A, f, B, hsp, hx, ?_⟩
  rw [withV_snd_nm, enumF_snd]
theorem rhoF_ren (fs : List Fd) (x y z : By) (hzx : z ≠ x) (hzy : z ≠ y) : rhoF (fs.map (renF x y)) z = rhoF fs z := by
 unfold rhoF
 rw [List.find?_map]
 have : ((fun f : Fd => f.nm == z) ∘ renF x y) = fun f => f.nm == z := by
  funext f
  simp only [Function.comp, renF]
  by_cases h : f.nm = x
  ·rw [if_pos h, h, beq_eq_false_iff_ne.2 (Ne.symm hzy), beq_eq_false_iff_ne.2 (Ne.symm hzx)]
  ·rw [if_neg h]
 rw [this]
 cases fs.find? (fun f => f.nm == z) <;> rfl
theorem renA_right {fs : List Fd} {x y : By} {fs' : List Fd} {nms : List By} (hG : GF fs) (hne : ∀ f, f ∈ fs → f.nm ≠ []) (hyn : y ≠ []) (h : renA fs x y = .ok fs' nms) :
  GF fs' ∧ (∃ f, f ∈ fs ∧ f.nm = x) ∧ (∀ f, f ∈ fs → f.nm ≠ y) ∧ (fs'.map fun g => (g.nm, g.p)).Perm ((fs.map (renF x y)).map fun g => (g.nm, g.p)) := by
 unfold renA at h
 cases hf : fs.findIdx? (fun f => f.nm == x) with
 | none => rw [hf] at h; cases h
 | some i =>
  rw [hf] at h
  obtain ⟨f, hi, hx⟩ := findIdx_facts hf
  simp only [hi] at h
  split at h
  ·cases h
  ·rename_i hy
   split at h
   ·cases h
   ·have hyno : ∀ g, g ∈ fs → g.nm ≠ y := fun g hg e => by
     cases hh : fs.find? (fun f => f.nm == y) with
     | some k => rw [hh] at hy; simp at hy
     | none =>
      have := List.find?_eq_none.1 hh g hg
      simp [e] at this
    have hfm : f ∈ fs := List.mem_of_getElem? hi
    have hxn : x ≠ [] := by rw [← hx]; exact hne f hfm
    have hxy : y ≠ x := fun e => hyno f hfm (by rw [hx, e])
    obtain ⟨hsp, hlen⟩ := split_fd hi
    generalize hA : fs.take i = A at *
    generalize hB : fs.drop (i + 1) = B at *
    subst hlen
    have hmapsp : fs.map (renF x y) = A.map (renF x y) ++ renF x y f :: B.map (renF x y) := by rw [hsp]; simp
    have hla : (A.map (renF x y)).length = A.length := by simp
    rw [hmapsp, ← hla] at h
    have hAB : ∀ g, g ∈ A ++ B → g ∈ fs ∧ g.nm ≠ x := fun g hg => by
     have hnn := hG.nn
     rw [hsp, List.map_append, List.map_cons] at hnn
     have h2 := (List.perm_middle (a := f.nm) (l₁ := A.map fun g => g.nm) (l₂ := B.map fun g => g.nm)).nodup_iff.1 hnn
     rw [List.nodup_cons] at h2
     refine ⟨?_, fun e => h2.1 ?_⟩
     ·rw [hsp]
      simp at hg ⊢
      rcases hg with h | h
      ·exact Or.inl h
      ·exact Or.inr (Or.inr h)
     ·rw [hx, ← e, ← List.map_append]
      exact List.mem_map_of_mem hg
    have hnm : ∀ g, g ∈ A ++ B → (renF x y g).nm = g.nm := fun g hg => by
     unfold renF
     rw [if_neg (hAB g hg).2]
    have hfn : (renF x y f).nm = y := by unfold renF; rw [if_pos hx]
    have hment : ∀ z p, z ≠ [] → z ≠ x → z ≠ y → mentP z (renP x y p) = mentP z p := fun z p h1 h2 h3 => by
     rw [mentP_ren x y z hxn hyn h1 hxy, if_neg h2, if_neg h3]
    have hmem : ∀ g', g' ∈ A.map (renF x y) ++ B.map (renF x y) → ∃ g, g ∈ A ++ B ∧ renF x y g = g' := fun g' hg => by
     rw [← List.map_append] at hg
     obtain ⟨g, h1, h2⟩ := List.mem_map.1 hg
     exact ⟨g, h1, h2⟩
    obtain ⟨r1, r2, r3⟩ := settle_right (A.map (renF x y)) (B.map (renF x y)) (renF x y f) fs' nms (by
     have hnn := hG.nn
     rw [hsp, List.map_append, List.map_cons] at hnn
     have h2 := (List.perm_middle (a := f.nm) (l₁ := A.map fun g => g.nm) (l₂ := B.map fun g => g.nm)).nodup_iff.1 hnn
     rw [List.nodup_cons] at h2
     rw [List.map_append, List.map_cons, hfn]
     have e1 : (A.map (renF x y)).map (fun g => g.nm) = A.map fun g => g.nm := by
      rw [List.map_map]
      exact List.map_congr_left fun g hg => hnm g (by simp [hg])
     have e2 : (B.map (renF x y)).map (fun g => g.nm) = B.map fun g => g.nm := by
      rw [List.map_map]
      exact List.map_congr_left fun g hg => hnm g (by simp [hg])
     rw [e1, e2]
     refine (List.perm_middle (a := y) (l₁ := A.map fun g => g.nm) (l₂ := B.map fun g => g.nm)).nodup_iff.2 ?_
     rw [List.nodup_cons]
     refine ⟨fun hm => ?_, h2.2⟩
     rw [← List.map_append] at hm
     obtain ⟨g, hg, e⟩ := List.mem_map.1 hm
     exact hyno g (hAB g hg).1 e) (by
     rw [← hmapsp, hla]
     have hnnAt : ∀ j (hj : j < fs.length), j ≠ A.length → fs[j] ∈ A ++ B := fun j hj hne' => by
      have e : fs[j]? = (A ++ f :: B)[j]? := by rw [← hsp]
      rw [List.getElem?_eq_getElem hj] at e
      by_cases h3 : j < A.length
      ·rw [List.getElem?_append_left h3] at e
       have := List.mem_of_getElem? e.symm
       simp [this]
      ·rw [List.getElem?_append_right (by omega)] at e
       obtain ⟨m, hm⟩ : ∃ m, j - A.length = m + 1 := ⟨j - A.length - 1, by omega⟩
       rw [hm, List.getElem?_cons_succ] at e
       have := List.mem_of_getElem? e.symm
       simp [this]
     refine pw_but fs _ A.length (by simp) (renF x y) (fun j hj hj' _ => by simp) (fun a b ha hb h1 h2 _ h4 => ?_) hG.topo.1
     have hbm := hnnAt b hb h2
     rw [hnm _ hbm]
     show mentP fs[b].nm (renP x y fs[a].p) = false
     rw [hment _ _ (hne _ (hAB _ hbm).1) (hAB _ hbm).2 (hyno _ (hAB _ hbm).1)]
     exact h4) (fun g' hg => by
     obtain ⟨g, h1, rfl⟩ := hmem g' hg
     rw [hnm g h1]
     show mentP g.nm (renP x y g.p) = false
     rw [hment _ _ (hne _ (hAB _ h1).1) (hAB _ h1).2 (hyno _ (hAB _ h1).1)]
     exact hG.self g (hAB g h1).1) (fun g' hg => by
     rw [← hmapsp] at hg
     obtain ⟨g, h1, rfl⟩ := List.mem_map.1 hg
     exact renP_shape x y g.p (hG.shape g h1)) (fun g' hg hm => by
     obtain ⟨g, h1, rfl⟩ := hmem g' hg
     rw [hfn] at hm
     have hm2 : mentP y (renP x y g.p) = false := hm
     rw [mentP_ren x y y hxn hyn hyn hxy, if_neg hxy, if_pos rfl] at hm2
     have hmx : mentP x g.p = false := by simp at hm2; exact hm2.1
     have hmy : mentP y g.p = false := by simp at hm2; exact hm2.2
     show g.v = valP _ (renP x y g.p)
     rw [renP_none x y g.p hmx, ← hmapsp, rho_enum, hG.vals g (hAB g h1).1]
     have hsg := hG.shape g (hAB g h1).1
     rw [valP_off x (rhoF fs) (fun z => if z = x then rhoF (fs.map (renF x y)) z else rhoF fs z) (fun z hz => by simp [hz]) g.p hsg hmx]
     refine valP_off y _ _ (fun z hz => ?_) g.p hsg hmy
     by_cases e : z = x
     ·simp [e]
     ·simp [e, rhoF_ren fs x y z e hz]) h
    refine ⟨r1, ⟨f, hfm, hx⟩, hyno, ?_⟩
    rw [hmapsp]
    exact r3
end
section
variable {S S1 O S5 : Nat → Prop} {e : Nat} {D D1 : Nat → Prop} {σ σ0 σ1 σ2 : Sta} {v1 v2 v3 v4 v5 : Value} {te : TypeId} {w w' W W' w1 w2 w3 w5 : World} {ws0 ws1 us : List Wr} {b N N3 : Nat} {cs cs3 : Array Value} {ar : AR} {r : Ending} {hs gs : List (Nat × Fd)}
structure CnI (S : Nat → Prop) (e : Nat) (D : Nat → Prop) (σ : Sta) (ws : List Wr) (v1 v2 v3 v4 v5 : Value) (te : TypeId) (w W : World) (S1 : Nat → Prop) (N : Nat) (cs : Array Value) : Prop where
 s0 : ∀ q, S q → S1 q
 s1 : ∀ q, S1 q → S q ∨ w.heap.size ≤ q
 ph : PhS W S1 e D (runW ws σ) v1 v2 v3 v4 v5 te
 bk : BkAt e D W S1 N cs (invW ws σ)
 ks : Ks (fun q => q = e ∨ D q) w W
def Long (x y : By) (p : Pt) : Bool := mentP x p && decide (100 < (txt (renP x y p)).length)
def CnPost (S : Nat → Prop) (e : Nat) (D : Nat → Prop) (σ : Sta) (b : Nat) (x y : By) (v1 v2 v3 v4 v5 : Value) (te : TypeId) (w : World) (r : Ending) (w' : World) : Prop :=
 ((∃ q, q ∈ σ.ord ∧ Long x y (σ.mem q).p = true) ∧ r = .returned (.tuple #[.nilFunc, .int .i64 7]) ∧ ∃ S1, (∀ q, S q → S1 q) ∧ (∀ q, S1 q → S q ∨ w.heap.size ≤ q) ∧ PhS w' S1 e D σ v1 v2 v3 v4 v5 te ∧ Ks (fun q => q = e ∨ D q) w w') ∨
 ((∀ q, q ∈ σ.ord → Long x y (σ.mem q).p = false) ∧ ∃ N cs S1, r = .returned (.tuple #[.func (.func N) #[] cs, .int .i64 0]) ∧ CnI S e D σ (.nm b y :: renL x y σ σ.ord) v1 v2 v3 v4 v5 te w w' S1 N cs)
theorem CnI.next {ws : List Wr} (h : CnI S e D σ ws v1 v2 v3 v4 v5 te w W S1 N cs) (hb : Below W.heap.size W W') : CnI S e D σ ws v1 v2 v3 v4 v5 te w W' S1 N cs :=
 ⟨h.s0, h.s1, h.ph.next hb, h.bk.later h.ph.still hb, h.ks.trans (Ks.of hb)⟩
theorem changeNameS (x y : By) (h : PhS w S e D σ v1 v2 v3 v4 v5 te) (hE : ∀ W, Ks (fun q => q = e ∨ D q) w W → Env W) (hnd : σ.ord.Nodup) (hl : σ.ord.length ≤ 100) (hb : b ∈ σ.ord) (hx : (σ.mem b).nm = x) (hxn : x ≠ []) (hy : y.length ≤ 100) :
  Calls Tryz.prog 80 #[.pointer (some ⟨e, 0, none⟩), .pointer (some ⟨b, 0, none⟩), .string ⟨y.toArray⟩] w (CnPost S e D σ b x y v1 v2 v3 v4 v5 te w) := by
 have hDb := h.sub b hb
 have HPH := tZ h
 have HE := tZ hE
 have HND := tZ hnd
 obtain ⟨fa, fl, fc, hFr, _⟩ := (h.fld b hDb).open
 obtain ⟨⟨j0, _⟩, _, _⟩ := row7 hFr
 rw [hx] at j0
 have HPN := tZ ((putNm h hDb y).mono (R' := fun r w1 => ∃ N cs, r = .returned (.func (.func N) #[] cs) ∧ Hid (∃ S1, CnI S e D σ [.nm b y] v1 v2 v3 v4 v5 te w w1 S1 N cs)) (by
  rintro r w1 ⟨N, cs, S1, rfl, q0, q1, q2, q3, q4⟩
  exact ⟨N, cs, rfl, S1, q0, fun q hq => (q1 q hq).imp id fun h => h.1, q2, q3, q4⟩))
 clear h hE hnd hFr
 go_enter Tryz.func80, Tryz.ntmps80
 go_wp2_with (first | (go_at_call 102; refine HPN.out.mono ?_; rintro r w1 ⟨N, cs, rfl, C1⟩; refine Hid.out ?_))
 obtain ⟨S1, hI⟩ := C1.out
 obtain ⟨a, c, r1, r2, r3, r4⟩ := hI.ph.row
 have r1' : RowAt w1 S1 a σ.ord := r1
 have r4' : w1.heap[e]? = some (.cells #[.slice a σ.ord.length c, v1, v2, v3, v4, v5] te (0, 0)) := r4
 obtain ⟨⟨h0, h1, h2, h3, h4, h5⟩, ⟨y0, y1, y2, y3, y4, y5⟩, hel1⟩ := row6 r4'
 have HI := tZ hI
 have HRA := tZ r1'
 clear C1 hI r1 r2 r3 r4 r1' r4' HPN
 refine tZ ?_
 go_wp2_with fail
 go_loopg [9, 11, 12, 13, 28] σ.ord.length (fun gk s9 _ _ _ s28 wr => ∃ (j : Nat) (S2 : Nat → Prop) (N2 : Nat) (cs2 : Array Value), j ≤ σ.ord.length ∧ σ.ord.length ≤ j + gk ∧ s28 = .int .i64 (j : Int) ∧ s9 = .func (.func N2) #[] cs2 ∧ Hid (CnI S e D σ (.nm b y :: renL x y σ (σ.ord.take j)) v1 v2 v3 v4 v5 te w wr S2 N2 cs2) ∧ Hid (RowAt wr S2 a σ.ord) ∧ Hid (∀ i (h : i < σ.ord.length), i < j → Long x y (σ.mem σ.ord[i]).p = false))
 case atStart => exact ⟨0, S1, N, cs, Nat.zero_le _, by omega, rfl, rfl, HI.out, HRA.out, fun i hi h => by omega⟩
 case round =>
  obtain ⟨j, S2, N2, cs2, hj, hgk, rfl, rfl, HC, HR, HL⟩ := hrel
  by_cases hlt : j < σ.ord.length
  ·have hltz : (j : Int) < (σ.ord.length : Int) := by omega
   obtain ⟨g, o, rfl, hgS, hp⟩ := HR.out j hlt
   have hqo : σ.ord[j] ∈ σ.ord := List.getElem_mem hlt
   have hDq : D σ.ord[j] := HPH.out.sub _ hqo
   have hrun := (renL_run x y σ (σ.ord.take j) (wr1 σ (.nm b y)) (HND.out.sublist (List.take_sublist _ _)) (fun q hq => by
    by_cases e' : q = b
    ·subst e'
     rw [show (wr1 σ (.nm q y)).mem q = ⟨y, (σ.mem q).p, (σ.mem q).v⟩ from put_mem _ _ _]
    ·rw [show (wr1 σ (.nm b y)).mem q = σ.mem q from put_mem_ne _ _ _ _ e'])).2 σ.ord[j]
   have hnt : σ.ord[j] ∉ σ.ord.take j := fun hm => by
    obtain ⟨i, hi, e'⟩ := List.getElem_of_mem hm
    have hi' : i < j := by simp at hi; omega
    rw [List.getElem_take] at e'
    exact List.pairwise_iff_getElem.1 HND.out i j (by omega) hlt hi' e'
   rw [if_neg hnt] at hrun
   have hpq : ((runW (.nm b y :: renL x y σ (σ.ord.take j)) σ).mem σ.ord[j]).p = (σ.mem σ.ord[j]).p := by
    show ((runW (renL x y σ (σ.ord.take j)) (wr1 σ (.nm b y))).mem σ.ord[j]).p = _
    rw [hrun]
    by_cases e' : σ.ord[j] = b
    ·rw [e', show (wr1 σ (.nm b y)).mem b = ⟨y, (σ.mem b).p, (σ.mem b).v⟩ from put_mem _ _ _]
    ·rw [show (wr1 σ (.nm b y)).mem σ.ord[j] = σ.mem σ.ord[j] from put_mem_ne _ _ _ _ e']
   have hF := HC.out.ph.fld _ hDq
   have hFl := hF.lt
   obtain ⟨_, hsh, hgd, htx, a2, l2, c2, hb2, hP2⟩ := hF
   rw [hpq] at hsh hgd htx hb2 hP2
   obtain ⟨⟨k0, k1, k2, k3, k4, k5, k6⟩, hfz, _⟩ := row7 hb2
   have HSTEP := tZ (renL_snoc x y σ (σ.ord.take j) σ.ord[j])
   rw [show σ.ord.take j ++ [σ.ord[j]] = σ.ord.take (j + 1) by rw [List.take_append_getElem hlt]] at HSTEP
   have HMEM := tZ hqo
   have HLj := tZ (show Long x y (σ.mem σ.ord[j]).p = false → ∀ i (h : i < σ.ord.length), i < j + 1 → Long x y (σ.mem σ.ord[i]).p = false from fun h0 i hi hij => by
    by_cases e' : i = j
    ·subst e'; exact h0
    ·exact HL.out i hi (by omega))
   clear hrun hnt hpq hqo
   generalize σ.ord[j] = q at *
   generalize hpp : (σ.mem q).p = p at *
   have HMT := tZ (ruleMentions x p a2 l2 c2 wr hP2 HC.out.ph.still)
   have HRN := tZ (fun W (hW : Below wr.heap.size wr W) => ruleRenamed x y p a2 l2 c2 W (hP2.next fun k hk => hW.block k (HC.out.ph.still k hk)) (fun k hk => Nat.lt_of_lt_of_le (HC.out.ph.still k hk) hW.size) hsh (HE.out W (HC.out.ks.trans (Ks.of hW))) (renP_good x y p hgd) (by have := renP_len x y hxn p; have h1 : (txt p).length * (y.length + 1) ≤ 100 * 101 := Nat.mul_le_mul htx (by omega); omega))
   have HB2 := tZ hb2
   by_cases hm : mentP x p = true
   ·rw [hm] at HMT
    by_cases hlong : 100 < (txt (renP x y p)).length
    ·have heg := HC.out.bk.enters
     have HRN2 := tZ (fun W (hW : Below wr.heap.size wr W) => (HRN.out W hW).mono (R' := fun r w4 => r = .returned (.tuple #[.agg #[.int .i64 0, .string ⟨#[]⟩, .int .i64 0, .slice none 0 0], .int .i64 7]) ∧ Below W.heap.size W w4) (by
      rintro r w4 ⟨h1, ⟨_, rfl⟩ | ⟨h2, _⟩⟩
      ·exact ⟨rfl, h1⟩
      ·exact absurd hlong h2))
     have HBKC := tZ (fun W (hW : Below wr.heap.size wr W) => bk_call (v1 := v1) (v2 := v2) (v3 := v3) (v4 := v4) (v5 := v5) (te := te) HC.out.bk W S2 _ (fun k hk => ⟨hk, hW.block k (HC.out.ph.still k hk)⟩) (HC.out.ph.next hW))
     have HLONG := tZ (show Long x y p = true by simp [Long, hm, hlong])
     clear hb2 hfz HRN hlong
     go_wp2_with (first | (go_at_call 98; refine HMT.out.mono ?_; rintro r w3 ⟨rfl, hb3⟩; have HB3 := tZ hb3; obtain ⟨⟨k0, k1, k2, k3, k4, k5, k6⟩, _, _⟩ := row7 ((hb3.block _ hFl).trans HB2.out); clear hb3) | (go_at_call 103; refine (HRN2.out _ HB3.out).mono ?_; rintro r w4 ⟨rfl, hb4⟩; have HB4 := tZ (HB3.out.trans (hb4.mono HB3.out.size)); clear hb4))
     refine (HBKC.out _ (HB4.out.trans ((bZ _).mono HB4.out.size))).mono ?_
     rintro r w5 ⟨N5, cs5, S5, rfl, hrest⟩
     have HR5 := tZ hrest
     clear hrest
     go_wp2
     refine bodyPost_ret (v := .tuple #[.nilFunc, .int .i64 7]) (by simp [results, Tryz.results80, go_sem]) (by simp [go_sem]) ?_
     obtain ⟨p0, p1, hp5, _, hk5⟩ := HR5.out
     rw [run_inv] at hp5
     have hsz := HC.out.ks.size
     have hs4 := HB4.out.size
     refine Or.inl ⟨⟨q, HMEM.out, by rw [hpp]; exact HLONG.out⟩, rfl, S5, fun k hk => p0 k (HC.out.s0 k hk), fun k hk => ?_, hp5, (HC.out.ks.trans (Ks.of (HB4.out.trans ((bZ _).mono HB4.out.size)))).trans hk5⟩
     rcases p1 k hk with h1 | h1
     ·exact HC.out.s1 k h1
     ·have := h1.1
      simp at this
      exact Or.inr (by omega)
    ·have HSHORT := tZ (show Long x y p = false by simp [Long, hm]; omega)
     have HFIN := tZ (show ∀ W, Below wr.heap.size wr W → Calls Tryz.prog 103 #[.agg #[.int .i64 (p.k : Int), .string ⟨p.nm.toArray⟩, .int .i64 (p.n : Int), .slice a2 l2 c2], .string ⟨x.toArray⟩, .string ⟨y.toArray⟩] W fun r w4 => ∃ k' nm' n' a4 l4 c4, r = .returned (.tuple #[.agg #[.int .i64 k', .string nm', .int .i64 n', .slice a4 l4 c4], .int .i64 0]) ∧ Hid (∀ W4, Below w4.heap.size w4 W4 → Calls Tryz.prog 74 #[.pointer (some ⟨q, 1, none⟩), .agg #[.int .i64 k', .string nm', .int .i64 n', .slice a4 l4 c4]] W4 fun r w5 => ∃ N5 cs5, r = .returned (.func (.func N5) #[] cs5) ∧ Hid (Calls Tryz.prog 31 #[.slice (some ⟨w5.heap.size, 0, none⟩) 2 2] (w5.alloc (.cells #[.func (.func N2) #[] cs2, .func (.func N5) #[] cs5] 84)) fun r w6 => ∃ N6 cs6, r = .returned (.func (.func N6) #[] cs6) ∧ Hid (∃ S6, CnI S e D σ (.nm b y :: renL x y σ (σ.ord.take (j + 1))) v1 v2 v3 v4 v5 te w w6 S6 N6 cs6 ∧ RowAt w6 S6 (some ⟨g, o, none⟩) σ.ord))) from fun W hW => by
      refine (HRN.out W hW).mono ?_
      rintro r w4 ⟨hb4, ⟨h1, _⟩ | ⟨_, a4, l4, c4, rfl, hP4⟩⟩
      ·exact absurd h1 hlong
      ·refine ⟨_, _, _, a4, l4, c4, rfl, fun W4 hW4 => ?_⟩
       have hbr : Below wr.heap.size wr W4 := (hW.trans (hb4.mono hW.size)).trans (hW4.mono (Nat.le_trans hW.size hb4.size))
       have hsz0 := HC.out.ks.size
       have hszW := hW.size
       have hsz4 := hb4.size
       have hszW4 := hW4.size
       have hel := HC.out.ph.lt
       have hp4 : PhS W4 (fun k => S2 k ∨ (W.heap.size ≤ k ∧ k < w4.heap.size)) e D (runW (.nm b y :: renL x y σ (σ.ord.take j)) σ) v1 v2 v3 v4 v5 te := (HC.out.ph.next hbr).wide (fun k hk => Or.inl hk) fun k hk => hk.imp id fun h => ⟨by omega, by omega, fun hD => by have := (HC.out.ph.fld k hD).lt; omega⟩
       refine (putRl hp4 hDq (renP x y p) a4 l4 c4 ((hP4.next fun k hk => hW4.block k hk.2).wide fun k hk => Or.inr hk) (renP_shape x y p hsh) (renP_good x y p hgd) (by omega)).mono ?_
       rintro r w5 ⟨N5, cs5, S5, rfl, q0, q1, q2, q3, q4⟩
       refine ⟨N5, cs5, rfl, ?_⟩
       have hk5 : Ks (fun k => k = e ∨ D k) w w5 := (HC.out.ks.trans (Ks.of hbr)).trans q4
       have hbu := built2 (S := S5) (O := fun k => w5.heap.size ≤ k) (w := w5) (W := w5) (N1 := N2) (cs1 := cs2) (N2 := N5) (cs2 := cs5) (fun k hk => hk) (ws1 := .nm b y :: renL x y σ (σ.ord.take j)) (ws2 := [.rl q (renP x y p)]) (σ := σ) (S1 := S5) (by rw [runW_app]; exact q2) (fun k hk => hk) (fun k hk => Or.inl hk) (((HC.out.bk.next (fun k hk => (q4.block k (Nat.lt_of_lt_of_le (HC.out.ph.still k hk) hbr.size) (HC.out.ph.notP k hk)).trans (hbr.block k (HC.out.ph.still k hk)))).wide (fun k hk => q0 k (Or.inl hk)) fun _ h => h)) q3 (Ks.refl _ _)
       refine (hbu.all (by omega) (fun k hk => by simp at hk; show w5.heap.size ≤ k; omega)).mono ?_
       rintro r w6 ⟨⟨N6, cs6, S6, rfl, p0, p1, hp6, hbk6, hk6⟩, hb6⟩
       have hws : (.nm b y :: renL x y σ (σ.ord.take j)) ++ [.rl q (renP x y p)] = .nm b y :: renL x y σ (σ.ord.take (j + 1)) := by
        rw [HSTEP.out, if_pos hm, List.cons_append]
       rw [hws] at hp6 hbk6
       refine ⟨N6, cs6, rfl, S6, ⟨fun k hk => p0 k (q0 k (Or.inl (HC.out.s0 k hk))), fun k hk => ?_, hp6, hbk6, hk5.trans hk6⟩, ?_⟩
       ·rcases p1 k hk with h1 | h1
        ·rcases q1 k h1 with (h2 | h2) | h2
         ·exact HC.out.s1 k h2
         ·exact Or.inr (by omega)
         ·exact Or.inr (by have := h2.1; omega)
        ·have h3 := h1.1
         have := hk5.size
         exact Or.inr (Nat.le_trans this h3)
       ·have hr5 : RowAt w5 S5 (some ⟨g, o, none⟩) σ.ord := (HR.out.next fun k hk => (q4.block k (Nat.lt_of_lt_of_le (HC.out.ph.still k hk) hbr.size) (HC.out.ph.notP k hk)).trans (hbr.block k (HC.out.ph.still k hk))).wide fun k hk => q0 k (Or.inl hk)
        exact (hr5.next fun k hk => hk6.block k (q2.still k hk) (q2.notP k hk)).wide p0)
     clear hb2 hfz HRN hlong
     go_wp2_with (first | (go_at_call 98; refine HMT.out.mono ?_; rintro r w3 ⟨rfl, hb3⟩; have HB3 := tZ hb3; obtain ⟨⟨k0, k1, k2, k3, k4, k5, k6⟩, _, _⟩ := row7 ((hb3.block _ hFl).trans HB2.out); clear hb3) | (go_at_call 103; refine (HFIN.out _ HB3.out).mono ?_; rintro r w4 ⟨k', nm', n', a4, l4, c4, rfl, C4⟩))
     clear HFIN HMT
     go_region_with (first | (go_at_call 74; refine (C4.out _ (bZ _).drew).mono ?_; rintro r w5 ⟨N5, cs5, rfl, C5⟩) | (go_at_call 31; refine C5.out.mono ?_; rintro r w6 ⟨N6, cs6, rfl, C6⟩))
     all_goals go_wp2
     all_goals go_roundg (σ.ord.length - (j + 1))
     all_goals try (case measure => omega)
     all_goals (
      obtain ⟨S6, h6, h7⟩ := C6.out
      exact ⟨j + 1, S6, N6, cs6, by omega, by omega, by go_num, rfl, h6, h7, HLj.out HSHORT.out⟩)
   ·have hm' : mentP x p = false := by simpa using hm
    rw [hm'] at HMT
    clear hb2 hfz HRN
    go_wp2_with (first | (go_at_call 98; refine HMT.out.mono ?_; rintro r w3 ⟨rfl, hb3⟩; have HB3 := tZ hb3; clear hb3))
    go_roundg (σ.ord.length - (j + 1))
    case measure => omega
    case rel =>
     refine ⟨j + 1, S2, N2, cs2, by omega, by omega, by go_num, rfl, ?_, HR.out.next fun k hk => HB3.out.block k (HC.out.ph.still k hk), HLj.out (by simp [Long, hm'])⟩
     rw [HSTEP.out, if_neg hm, List.append_nil]
     exact HC.out.next HB3.out
  ·have hltz : ¬ (j : Int) < (σ.ord.length : Int) := by omega
   obtain rfl : j = σ.ord.length := by omega
   go_wp2
   refine bodyPost_ret (v := .tuple #[.func (.func N2) #[] cs2, .int .i64 0]) (by simp [results, Tryz.results80, go_sem]) (by simp [go_sem]) ?_
   refine Or.inr ⟨fun q hq => ?_, N2, cs2, S2, rfl, ?_⟩
   ·obtain ⟨i, hi, rfl⟩ := List.getElem_of_mem hq
    exact HL.out i hi hi
   ·have := HC.out
    rw [List.take_length] at this
    exact this
end
section
variable {S S1 O S5 : Nat → Prop} {e : Nat} {D D1 : Nat → Prop} {σ σ0 σ1 σ2 : Sta} {v1 v2 v3 v4 v5 : Value} {te : TypeId} {w w' W W' w1 w2 w3 w5 : World} {ws0 ws1 us : List Wr} {b N N3 : Nat} {cs cs3 : Array Value} {ar : AR} {r : Ending} {hs gs : List (Nat × Fd)}
theorem renWalk (x y : By) (Q : Ending → World → Prop) (fx fy : Option Addr) (h1 : Calls Tryz.prog 58 #[.pointer (some ⟨e, 0, none⟩), .string ⟨x.toArray⟩] w fun r w' => r = .returned (.pointer fx) ∧ w = w') (h2 : Calls Tryz.prog 58 #[.pointer (some ⟨e, 0, none⟩), .string ⟨y.toArray⟩] w fun r w' => r = .returned (.pointer fy) ∧ w = w')
  (q5 : fx = none → Q (.returned (.tuple #[.slice none 0 0, .nilFunc, .int .i64 5])) w) (q6 : ∀ a b, fx = some a → fy = some b → Q (.returned (.tuple #[.slice none 0 0, .nilFunc, .int .i64 6])) w)
  (q7 : ∀ a, fx = some a → fy = none → (Calls Tryz.prog 80 #[.pointer (some ⟨e, 0, none⟩), .pointer (some a), .string ⟨y.toArray⟩] w fun r w1 => r = .returned (.tuple #[.nilFunc, .int .i64 7]) ∧ Q (.returned (.tuple #[.slice none 0 0, .nilFunc, .int .i64 7])) w1) ∨ Calls Tryz.prog 80 #[.pointer (some ⟨e, 0, none⟩), .pointer (some a), .string ⟨y.toArray⟩] w fun r w1 => ∃ N cs, r = .returned (.tuple #[.func (.func N) #[] cs, .int .i64 0]) ∧ Calls Tryz.prog 73 #[.pointer (some ⟨e, 0, none⟩), .pointer (some a), .func (.func N) #[] cs] w1 fun r w2 => ∃ (an : Option Addr) (ln cn : Nat) (bk : Value) (er : Int), r = .returned (.tuple #[.slice an ln cn, bk, .int .i64 er]) ∧ Q r w2) :
  Calls Tryz.prog 56 #[.pointer (some ⟨e, 0, none⟩), .string ⟨x.toArray⟩, .string ⟨y.toArray⟩] w Q := by
 have H1 := tZ h1
 have H2 := tZ h2
 have H7 := tZ q7
 have Q5 := tZ q5
 have Q6 := tZ q6
 clear h1 h2 q7 q5 q6
 cases fx with
 | none =>
  go_enter Tryz.func56, Tryz.ntmps56
  go_wp2_with (first | (go_at_call 58; refine H1.out.mono ?_; rintro r w1 ⟨rfl, rfl⟩))
  refine bodyPost_ret (v := .tuple #[.slice none 0 0, .nilFunc, .int .i64 5]) (by simp [results, Tryz.results56, go_sem]) (by simp [go_sem]) ?_
  first | exact Q5.out rfl | exact Q5.out trivial
 | some a =>
  cases fy with
  | some c =>
   go_enter Tryz.func56, Tryz.ntmps56
   go_wp2_with (first | (go_at_call 58; refine H1.out.mono ?_; clear H1; rintro r w1 ⟨rfl, rfl⟩) | (go_at_call 58; refine H2.out.mono ?_; clear H2; rintro r w1 ⟨rfl, rfl⟩))
   refine bodyPost_ret (v := .tuple #[.slice none 0 0, .nilFunc, .int .i64 6]) (by simp [results, Tryz.results56, go_sem]) (by simp [go_sem]) ?_
   exact Q6.out a c rfl rfl
  | none =>
   rcases H7.out a rfl rfl with h7 | h7
   ·have H7a := tZ h7
    clear H7 Q5 Q6 h7
    go_enter Tryz.func56, Tryz.ntmps56
    go_wp2_with (first | (go_at_call 58; refine H1.out.mono ?_; clear H1; rintro r w1 ⟨rfl, rfl⟩) | (go_at_call 58; refine H2.out.mono ?_; clear H2; rintro r w1 ⟨rfl, rfl⟩) | (go_at_call 80; refine H7a.out.mono ?_; clear H7a; rintro r w1 ⟨rfl, hq⟩; have HQ := tZ hq; clear hq))
    refine bodyPost_ret (v := .tuple #[.slice none 0 0, .nilFunc, .int .i64 7]) (by simp [results, Tryz.results56, go_sem]) (by simp [go_sem]) ?_
    exact HQ.out
   ·have H7a := tZ h7
    clear H7 Q5 Q6 h7
    go_enter Tryz.func56, Tryz.ntmps56
    go_wp2_with (first | (go_at_call 58; refine H1.out.mono ?_; clear H1; rintro r w1 ⟨rfl, rfl⟩) | (go_at_call 58; refine H2.out.mono ?_; clear H2; rintro r w1 ⟨rfl, rfl⟩) | (go_at_call 80; refine H7a.out.mono ?_; clear H7a; rintro r w1 ⟨N, cs, rfl, hst⟩; have HST := tZ hst; clear hst) | (go_at_call 73; refine HST.out.mono ?_; rintro r w2 ⟨an, ln, cn, bk, er, rfl, hq⟩; have HQ := tZ hq; clear hq))
    refine bodyPost_ret (v := .tuple #[.slice an ln cn, bk, .int .i64 er]) (by simp [results, Tryz.results56, go_sem]) (by simp [go_sem]) ?_
    exact HQ.out
theorem any_long (x y : By) (σ : Sta) : ((σ.fs.map Prod.snd).any fun f => mentP x f.p && decide (100 < (txt (renP x y f.p)).length)) = σ.ord.any fun q => Long x y (σ.mem q).p := by
 simp only [Sta.fs, List.any_map, Function.comp_def, Long]
theorem renS (h : PhS w S e D σ v1 v2 v3 v4 v5 te) (hE : ∀ W, Ks (fun q => q = e ∨ D q) w W → Env W) (hnd : σ.ord.Nodup) (hnn : (σ.fs.map fun g => g.2.nm).Nodup) (hl : σ.ord.length ≤ 10) (x y : By) (hxn : x ≠ []) (hy : y.length ≤ 100) :
  Calls Tryz.prog 56 #[.pointer (some ⟨e, 0, none⟩), .string ⟨x.toArray⟩, .string ⟨y.toArray⟩] w (EdPost S e D σ v1 v2 v3 v4 v5 te (renA (σ.fs.map Prod.snd) x y) w) := by
 have hfl : σ.fs.length = σ.ord.length := by simp [Sta.fs]
 obtain ⟨a, c, hs, hcc, hac, hrow⟩ := h.sh
 have plain : ∀ (n : Nat), EdPost S e D σ v1 v2 v3 v4 v5 te (.err n []) w (.returned (.tuple #[.slice none 0 0, .nilFunc, .int .i64 (n : Int)])) w := fun n =>
  ⟨none, 0, S, ⟨fun _ h => h, fun _ h => Or.inl h, fun _ h => h, fun _ h => Or.inl h, Ks.refl _ _, World.ownsRow_nil _ _ _ _, fun q hq => by simp [Value.ownBlock] at hq⟩, rfl, h⟩
 have hfy : (σ.fs.map Prod.snd).find? (fun f => f.nm == y) = (findF σ.fs y).map Prod.snd := by
  rw [List.find?_map]
  rfl
 refine renWalk x y _ (findB σ.fs x) (findB σ.fs y) (find101 x e c a σ.fs w hs (row6 hrow).1.1 (by omega)) (find101 y e c a σ.fs w hs (row6 hrow).1.1 (by omega)) (fun h5 => ?_) (fun ax ay hx hyy => ?_) fun ax hx hyn => ?_
 ·have hf : findF σ.fs x = none := by simpa [findB] using h5
  unfold renA
  rw [findIdx_none hf]
  exact plain 5
 ·obtain ⟨f, hf, _⟩ := Option.map_eq_some_iff.1 hx
  obtain ⟨g, hg, _⟩ := Option.map_eq_some_iff.1 hyy
  obtain ⟨i, hi1, hi2⟩ := findIdx_some hf
  unfold renA
  rw [hi1, hfy, hg]
  exact plain 6
 ·obtain ⟨f, hf, hfa⟩ := Option.map_eq_some_iff.1 hx
  subst hfa
  have hg : findF σ.fs y = none := by simpa [findB] using hyn
  obtain ⟨i, hi1, hi2⟩ := findIdx_some hf
  obtain ⟨ho1, ho2⟩ := fs_at hi2
  have hbo : f.1 ∈ σ.ord := List.mem_of_getElem? ho1
  have hnm : (σ.mem f.1).nm = x := by
   have := (findF_mem hf).2
   rw [ho2] at this
   exact this
  have e1 : (σ.fs.map Prod.snd)[i]? = some (σ.mem f.1) := by rw [List.getElem?_map, hi2, ho2]; rfl
  have hra : renA (σ.fs.map Prod.snd) x y = if σ.ord.any (fun q => Long x y (σ.mem q).p) then .err 7 [] else settleA ((σ.fs.map Prod.snd).map (renF x y)) i (renF x y (σ.mem f.1)) := by
   unfold renA
   rw [hi1]
   simp only [hfy, hg, any_long, e1, Option.map_none, Option.isSome_none, Bool.false_eq_true, if_false]
  rw [hra]
  have hcn := changeNameS x y h hE hnd (by omega) hbo hnm hxn hy
  by_cases hlong : σ.ord.any (fun q => Long x y (σ.mem q).p) = true
  ·refine Or.inl (hcn.mono ?_)
   rw [if_pos hlong]
   rintro r w1 (⟨_, rfl, S1, s0, s1, hp1, hk1⟩ | ⟨hno, _⟩)
   ·exact ⟨rfl, none, 0, S1, ⟨s0, s1, fun _ h => h, fun _ h => Or.inl h, hk1, World.ownsRow_nil _ _ _ _, fun q hq => by simp [Value.ownBlock] at hq⟩, rfl, hp1⟩
   ·obtain ⟨q, hq1, hq2⟩ := List.any_eq_true.1 hlong
    rw [hno q hq1] at hq2
    cases hq2
  ·refine Or.inr (hcn.mono ?_)
   rw [if_neg hlong]
   rintro r w1 (⟨⟨q, hq1, hq2⟩, _⟩ | ⟨hno, N, cs, S1, rfl, hI⟩)
   ·exact absurd (List.any_eq_true.2 ⟨q, hq1, hq2⟩) hlong
   ·refine ⟨N, cs, rfl, ?_⟩
    obtain ⟨k1, k2, k3⟩ := ren_fs x y hnd hnn hbo hnm
    have hst := settleS (b := f.1) (σ0 := σ) i N cs hI.ph rfl hI.bk (by rw [k1]; omega) (by rw [k1]; exact ho1) (by rw [k1]; exact hnd)
    rw [k2, k3] at hst
    refine hst.mono fun r w' hr => ?_
    have hlift := hr.lift (S := S) (D := D) (σ := σ) (w := w) hI.s0 hI.s1 (fun _ h => h) (fun _ h => Or.inl h) hI.ks (fun _ _ => rfl) rfl h.sub
    obtain ⟨an, ln, cn, bk, er, rfl, hq⟩ := hlift.shape
    exact ⟨an, ln, cn, bk, er, rfl, hq⟩
end
end Go.Proofs.YtihgojcfpnhelabGreatDoor
