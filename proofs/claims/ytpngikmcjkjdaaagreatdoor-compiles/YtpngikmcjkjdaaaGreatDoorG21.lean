import Derived.BigQuiet
import Derived.Deep.AppendLies
import Derived.Deep.LoopGhost
import Derived.Deep.QuietTactic
import Derived.Deep.RegionLaw
import Derived.Deep.RegionWith
import Derived.Test.YtpngikmcjkjdaaaGreatDoorG2
import Derived.Test.YtpngikmcjkjdaaaGreatDoorG20
import Derived.Test.YtpngikmcjkjdaaaGreatDoorG4
set_option linter.unusedVariables false
set_option linter.unusedSimpArgs false
namespace Go.Proofs.YtpngikmcjkjdaaaGreatDoor
set_option linter.unusedVariables false
def Eqv (M : Tab) (i j : Nat) : Prop := ∀ x, Notes x → M.acc (M.read i x) = M.acc (M.read j x)
theorem Eqv.refl (M : Tab) (i : Nat) : Eqv M i i := fun _ _ => rfl
theorem Eqv.symm {M : Tab} {i j : Nat} (h : Eqv M i j) : Eqv M j i := fun x hx => (h x hx).symm
theorem Eqv.trans {M : Tab} {i j k : Nat} (h : Eqv M i j) (h' : Eqv M j k) : Eqv M i k := fun x hx => (h x hx).trans (h' x hx)
theorem Eqv.nxt {M : Tab} {i j : Nat} (h : Eqv M i j) (c : Nat) (hc : c < 8) : Eqv M (M.nxt i c) (M.nxt j c) := fun x hx => h (c :: x) (by
  intro d hd
  simp only [List.mem_cons] at hd
  rcases hd with rfl | hd
  · exact hc
  · exact hx d hd)
theorem Eqv.acc {M : Tab} {i j : Nat} (h : Eqv M i j) : M.acc i = M.acc j := h [] (by intro d hd; simp at hd)
theorem eqv_iff {M : Tab} {i j : Nat} : Eqv M i j ↔ ¬ Apart M i j := by
  constructor
  · rintro h ⟨x, hx, hd⟩; exact hd (h x hx)
  · intro h x hx
    apply Classical.byContradiction
    intro hd; exact h ⟨x, hx, hd⟩
noncomputable def crTo (M : Tab) (s : Nat) : Nat → Nat
  | 0 => s
  | k + 1 => @ite _ (Eqv M (s - (k + 1)) s) (Classical.propDecidable _) (min (s - (k + 1)) (crTo M s k)) (crTo M s k)
noncomputable def cr (M : Tab) (s : Nat) : Nat := crTo M s s
theorem crTo_spec (M : Tab) (s : Nat) : ∀ k, k ≤ s → crTo M s k ≤ s ∧ Eqv M (crTo M s k) s ∧ ∀ t, s - k ≤ t → t ≤ s → Eqv M t s → crTo M s k ≤ t := by
  intro k
  induction k with
  | zero => intro _; exact ⟨Nat.le_refl _, Eqv.refl _ _, fun t h1 h2 _ => h1⟩
  | succ k ih =>
    intro hk
    obtain ⟨a, b, c⟩ := ih (by omega)
    simp only [crTo]
    by_cases e : Eqv M (s - (k + 1)) s
    · rw [if_pos e]
      refine ⟨by omega, ?_, fun t h1 h2 h3 => ?_⟩
      · by_cases h : s - (k + 1) ≤ crTo M s k
        · rw [Nat.min_eq_left h]; exact e
        · rw [Nat.min_eq_right (by omega)]; exact b
      · by_cases h : t = s - (k + 1)
        · subst h; exact Nat.min_le_left _ _
        · have := c t (by omega) h2 h3; exact Nat.le_trans (Nat.min_le_right _ _) this
    · rw [if_neg e]
      refine ⟨a, b, fun t h1 h2 h3 => ?_⟩
      by_cases h : t = s - (k + 1)
      · subst h; exact absurd h3 e
      · exact c t (by omega) h2 h3
theorem cr_le (M : Tab) (s : Nat) : cr M s ≤ s := (crTo_spec M s s (Nat.le_refl _)).1
theorem cr_eqv (M : Tab) (s : Nat) : Eqv M (cr M s) s := (crTo_spec M s s (Nat.le_refl _)).2.1
theorem cr_min (M : Tab) (s t : Nat) (h : t ≤ s) (he : Eqv M t s) : cr M s ≤ t := (crTo_spec M s s (Nat.le_refl _)).2.2 t (by omega) h he
theorem cr_of_eqv {M : Tab} {s t : Nat} (h : Eqv M s t) : cr M s = cr M t := by
  have h1 := cr_eqv M s
  have h2 := cr_eqv M t
  have l1 := cr_le M s
  have l2 := cr_le M t
  apply Nat.le_antisymm
  · by_cases hh : cr M t ≤ s
    · exact cr_min M s _ hh (h2.trans h.symm)
    · omega
  · by_cases hh : cr M s ≤ t
    · exact cr_min M t _ hh (h1.trans h)
    · omega
theorem eqv_of_cr {M : Tab} {s t : Nat} (h : cr M s = cr M t) : Eqv M s t := by
  have h1 := cr_eqv M s
  rw [h] at h1
  exact h1.symm.trans (cr_eqv M t)
theorem cr_cr (M : Tab) (s : Nat) : cr M (cr M s) = cr M s := cr_of_eqv (cr_eqv M s)
noncomputable def crS (M : Tab) (q c : Nat) : Nat := cr M (M.nxt q c)
noncomputable def quotTab (M : Tab) (ps : List Nat) : Tab where
  n := ps.length
  acc k := M.acc (ps.getD k 0)
  nxt := pn (crS M) ps
def goodC (M : Tab) (q : Nat) : Prop := q < M.n ∧ cr M q = q
theorem quot_numbered {M : Tab} {ps : List Nat} (h : PRel (goodC M) (crS M) ps (8 * ps.length)) : Numbered (quotTab M ps) where
  pos := h.len
  nx i c hi hc := by
    have := (h.clo (8 * i + c) (by have : i < ps.length := hi; omega)).2
    rw [show (8 * i + c) / 8 = i by omega, show (8 * i + c) % 8 = c by omega] at this
    exact List.idxOf_lt_length_of_mem this
  step p hp := h.num p hp
  row i hi := h.row i (by have : i < ps.length := hi; omega)
  all := h.cm
theorem quot_read {M : Tab} {ps : List Nat} (h : PRel (goodC M) (crS M) ps (8 * ps.length)) (k : Nat) (hk : k < ps.length) (x : List Nat) (hx : Notes x) :
    (quotTab M ps).read k x < ps.length ∧ Eqv M (ps.getD ((quotTab M ps).read k x) 0) (M.read (ps.getD k 0) x) := by
  induction x generalizing k with
  | nil => exact ⟨hk, Eqv.refl _ _⟩
  | cons c x ih =>
    have hc : c < 8 := hx c (by simp)
    have hx' : Notes x := fun d hd => hx d (by simp [hd])
    have hcl := (h.clo (8 * k + c) (by omega)).2
    rw [show (8 * k + c) / 8 = k by omega, show (8 * k + c) % 8 = c by omega] at hcl
    have hlt : (quotTab M ps).nxt k c < ps.length := List.idxOf_lt_length_of_mem hcl
    have he : ps.getD ((quotTab M ps).nxt k c) 0 = crS M (ps.getD k 0) c := getD_idxOf ps _ hcl
    simp only [Tab.read, List.foldl_cons]
    have := ih _ hlt hx'
    rw [he] at this
    refine ⟨this.1, this.2.trans ?_⟩
    intro y hy
    have hq : Eqv M (crS M (ps.getD k 0) c) (M.nxt (ps.getD k 0) c) := cr_eqv M _
    have := hq (x ++ y) (by
      intro d hd
      simp only [List.mem_append] at hd
      rcases hd with hd | hd
      · exact hx' d hd
      · exact hy d hd)
    rw [Tab.read_append, Tab.read_append] at this
    exact this
theorem quot_least {M : Tab} {ps : List Nat} (h : PRel (goodC M) (crS M) ps (8 * ps.length)) : IsLeast (quotTab M ps) M.accepts where
  num := quot_numbered h
  apart i j hi hj hij := by
    have hi' : i < ps.length := hi
    have hj' : j < ps.length := hj
    have g1 := h.inr _ (getD_mem ps i hi')
    have g2 := h.inr _ (getD_mem ps j hj')
    have hne : ps.getD i 0 ≠ ps.getD j 0 := by
      intro e
      apply hij
      have hnd := h.nd
      rw [List.Nodup, List.pairwise_iff_getElem] at hnd
      rw [List.getD_eq_getElem?_getD, List.getElem?_eq_getElem hi', List.getD_eq_getElem?_getD, List.getElem?_eq_getElem hj'] at e
      simp only [Option.getD_some] at e
      rcases Nat.lt_trichotomy i j with hlt | heq | hlt
      · exact absurd e (hnd i j hi' hj' hlt)
      · exact heq
      · exact absurd e.symm (hnd j i hj' hi' hlt)
    have hap : ¬ Eqv M (ps.getD i 0) (ps.getD j 0) := by
      intro e
      have := cr_of_eqv e
      rw [g1.2, g2.2] at this
      exact hne this
    apply Classical.byContradiction
    intro hn
    apply hap
    intro x hx
    have r1 := (quot_read h i hi' x hx).2.acc
    have r2 := (quot_read h j hj' x hx).2.acc
    rw [← r1, ← r2]
    apply Classical.byContradiction
    intro hd
    exact hn ⟨x, hx, hd⟩
  lang x hx := by
    have := (quot_read h 0 h.len x hx).2.acc
    rw [h.hd] at this
    exact this
theorem idxOf_le_at : ∀ (l : List Nat) (a k : Nat) (h : k < l.length), l[k] = a → l.idxOf a ≤ k := by
  intro l
  induction l with
  | nil => intro a k h; simp at h
  | cons x l ih =>
    intro a k h e
    rw [List.idxOf_cons]
    by_cases hx : x = a
    · simp [hx]
    · cases k with
      | zero => exact absurd e hx
      | succ k =>
        have := ih a k (by simpa using h) (by simpa using e)
        have hb : (x == a) = false := by simp [hx]
        rw [hb]
        simpa using this
theorem crmap_getD (M : Tab) (fs : List Nat) (k : Nat) (h : k < fs.length) : (fs.map (cr M)).getD k 0 = cr M (fs.getD k 0) := by
  simp [List.getD_eq_getElem?_getD, h]
theorem crS_map (M : Tab) (fs : List Nat) (k c : Nat) (h : k < fs.length) (hc : c < 8) : crS M ((fs.map (cr M)).getD k 0) c = cr M (M.nxt (fs.getD k 0) c) := by
  rw [crmap_getD M fs k h]
  exact cr_of_eqv ((cr_eqv M _).nxt c hc)
theorem place_mem {M : Tab} {fs : List Nat} {D : Nat → Nat → Bool} {s : Nat} (hD : ∀ x y, x < M.n → y < M.n → (D x y = true ↔ Apart M x y)) (hfs : ∀ i, i < fs.length → fs.getD i 0 < M.n) (hs : s < M.n) :
    (∀ k, k < fs.length → D (fs.getD k 0) s = false → (∀ j, j < k → D (fs.getD j 0) s = true) → cr M s ∈ fs.map (cr M) ∧ (fs.map (cr M)).idxOf (cr M s) = k) ∧
    ((∀ j, j < fs.length → D (fs.getD j 0) s = true) → cr M s ∉ fs.map (cr M)) := by
  have hiff : ∀ j, j < fs.length → (D (fs.getD j 0) s = false ↔ (fs.map (cr M)).getD j 0 = cr M s) := by
    intro j hj
    rw [crmap_getD M fs j hj]
    have h1 := hD _ _ (hfs j hj) hs
    constructor
    · intro hd
      apply cr_of_eqv
      rw [eqv_iff]
      intro ha
      rw [h1.2 ha] at hd; cases hd
    · intro he
      have := eqv_iff.1 (eqv_of_cr he)
      cases hd : D (fs.getD j 0) s with
      | false => rfl
      | true => exact absurd (h1.1 hd) this
  refine ⟨fun k hk hd hno => ?_, fun hno hmem => ?_⟩
  · have hk' : k < (fs.map (cr M)).length := by simpa using hk
    have hg := (hiff k hk).1 hd
    have hge : (fs.map (cr M))[k] = cr M s := by
      rw [List.getD_eq_getElem?_getD, List.getElem?_eq_getElem hk'] at hg; simpa using hg
    have hmem : cr M s ∈ fs.map (cr M) := by rw [← hge]; exact List.getElem_mem hk'
    refine ⟨hmem, ?_⟩
    have hil := List.idxOf_lt_length_of_mem hmem
    have hix := getD_idxOf (fs.map (cr M)) (cr M s) hmem
    apply Nat.le_antisymm
    · apply Nat.le_of_not_lt
      intro hlt
      have : List.idxOf (cr M s) (fs.map (cr M)) ≤ k := by
        exact idxOf_le_at _ _ k hk' hge
      omega
    · apply Nat.le_of_not_lt
      intro hlt
      have h2 := hno _ hlt
      have h3 := (hiff _ (by simpa using hil)).2 hix
      rw [h2] at h3; cases h3
  · obtain ⟨j, hj, he⟩ := mem_getD hmem
    have hj' : j < fs.length := by simpa using hj
    have := (hiff j hj').2 he
    rw [hno j hj'] at this; cases this
end Go.Proofs.YtpngikmcjkjdaaaGreatDoor
namespace Go.Proofs.YtpngikmcjkjdaaaGreatDoor
open Go.RowKit
set_option linter.unusedVariables false
structure InvD (M : Tab) (D : Nat → Nat → Bool) : Prop where
  sound : ∀ x y, x < M.n → y < M.n → D x y = true → Apart M x y
  symm : ∀ x y, x < M.n → y < M.n → D x y = D y x
  base : ∀ x y, x < M.n → y < M.n → M.acc x ≠ M.acc y → D x y = true
structure RelD (M : Tab) (D0 D : Nat → Nat → Bool) (av : Bool) (i j c : Nat) : Prop where
  mono : ∀ x y, x < M.n → y < M.n → D0 x y = true → D x y = true
  less : av = true → falses M.n D < falses M.n D0
  same : av = false → ∀ x y, x < M.n → y < M.n → D x y = D0 x y
  clo : av = false → ∀ x y c', y < x → x < M.n → c' < 8 → (x < i ∨ (x = i ∧ (y < j ∨ (y = j ∧ c' < c)))) → D (M.nxt x c') (M.nxt y c') = true → D x y = true
theorem apart_step {M : Tab} {x y c : Nat} (hc : c < 8) (h : Apart M (M.nxt x c) (M.nxt y c)) : Apart M x y := by
  obtain ⟨z, hz, hd⟩ := h
  refine ⟨c :: z, ?_, hd⟩
  intro d hd'
  simp only [List.mem_cons] at hd'
  rcases hd' with rfl | hd'
  · exact hc
  · exact hz d hd'
theorem InvD.all {M : Tab} {D : Nat → Nat → Bool} (h : InvD M D) (hnx : ∀ i c, i < M.n → c < 8 → M.nxt i c < M.n) (hcl : ∀ x y c', y < x → x < M.n → c' < 8 → D (M.nxt x c') (M.nxt y c') = true → D x y = true) :
    ∀ x y, x < M.n → y < M.n → (D x y = true ↔ Apart M x y) := by
  have key : ∀ (z : List Nat), Notes z → ∀ x y, x < M.n → y < M.n → M.acc (M.read x z) ≠ M.acc (M.read y z) → D x y = true := by
    intro z
    induction z with
    | nil => intro _ x y hx hy hd; exact h.base x y hx hy hd
    | cons c z ih =>
      intro hz x y hx hy hd
      have hc : c < 8 := hz c (by simp)
      have hD := ih (fun d hd => hz d (by simp [hd])) (M.nxt x c) (M.nxt y c) (hnx x c hx hc) (hnx y c hy hc) hd
      rcases Nat.lt_trichotomy x y with hlt | heq | hlt
      · rw [h.symm x y hx hy]
        rw [h.symm _ _ (hnx x c hx hc) (hnx y c hy hc)] at hD
        exact hcl y x c hlt hy hc hD
      · subst heq; exact absurd rfl hd
      · exact hcl x y c hlt hx hc hD
  intro x y hx hy
  exact ⟨h.sound x y hx hy, fun ⟨z, hz, hd⟩ => key z hz x y hx hy hd⟩
theorem InvD.put {M : Tab} {D : Nat → Nat → Bool} (h : InvD M D) {i j : Nat} (ha : Apart M i j) : InvD M (upd (upd D i j true) j i true) where
  sound x y hx hy hd := by
    unfold upd at hd
    by_cases e1 : x = j ∧ y = i
    · obtain ⟨rfl, rfl⟩ := e1
      obtain ⟨z, hz, hd⟩ := ha
      exact ⟨z, hz, fun e => hd e.symm⟩
    · rw [if_neg e1] at hd
      by_cases e2 : x = i ∧ y = j
      · obtain ⟨rfl, rfl⟩ := e2; exact ha
      · rw [if_neg e2] at hd; exact h.sound x y hx hy hd
  symm x y hx hy := by
    unfold upd
    have := h.symm x y hx hy
    by_cases e1 : x = j ∧ y = i
    · obtain ⟨rfl, rfl⟩ := e1; simp
    · by_cases e2 : x = i ∧ y = j
      · obtain ⟨rfl, rfl⟩ := e2; simp
      · rw [if_neg e1, if_neg e2, if_neg (fun e => e2 ⟨e.2, e.1⟩), if_neg (fun e => e1 ⟨e.2, e.1⟩)]; exact this
  base x y hx hy hd := by
    unfold upd
    split
    · rfl
    · split
      · rfl
      · exact h.base x y hx hy hd
theorem RelD.put {M : Tab} {D0 D : Nat → Nat → Bool} {av : Bool} {i j c : Nat} (h : RelD M D0 D av i j c) (hi : i < M.n) (hj : j < M.n) (h0 : D i j = false) (c2 : Nat) : RelD M D0 (upd (upd D i j true) j i true) true i j c2 := by
  have hm : ∀ x y, x < M.n → y < M.n → D0 x y = true → upd (upd D i j true) j i true x y = true := by
    intro x y hx hy hd
    unfold upd
    split
    · rfl
    · split
      · rfl
      · exact h.mono x y hx hy hd
  refine ⟨hm, fun _ => falses_lt hm hi hj ?_ ?_, (fun e => by cases e), (fun e => by cases e)⟩
  · cases hd : D0 i j with
    | false => rfl
    | true => rw [h.mono i j hi hj hd] at h0; cases h0
  · unfold upd
    split
    · rfl
    · simp
theorem RelD.pass {M : Tab} {D0 D : Nat → Nat → Bool} {av : Bool} {i j c : Nat} (h : RelD M D0 D av i j c) (hn : D (M.nxt i c) (M.nxt j c) = false) : RelD M D0 D av i j (c + 1) :=
  ⟨h.mono, h.less, h.same, fun e x y c' hyx hx hc hp hd => by
    by_cases e2 : x = i ∧ y = j ∧ c' = c
    · obtain ⟨rfl, rfl, rfl⟩ := e2; rw [hn] at hd; cases hd
    · exact h.clo e x y c' hyx hx hc (by omega) hd⟩
theorem RelD.done8 {M : Tab} {D0 D : Nat → Nat → Bool} {av : Bool} {i j : Nat} (h : RelD M D0 D av i j 8) : RelD M D0 D av i (j + 1) 0 :=
  ⟨h.mono, h.less, h.same, fun e x y c' hyx hx hc hp hd => h.clo e x y c' hyx hx hc (by omega) hd⟩
theorem RelD.doneT {M : Tab} {D0 D : Nat → Nat → Bool} {av : Bool} {i j c : Nat} (h : RelD M D0 D av i j c) (ht : D i j = true) : RelD M D0 D av i (j + 1) 0 :=
  ⟨h.mono, h.less, h.same, fun e x y c' hyx hx hc hp hd => by
    by_cases e2 : x = i ∧ y = j
    · obtain ⟨rfl, rfl⟩ := e2; exact ht
    · exact h.clo e x y c' hyx hx hc (by omega) hd⟩
theorem RelD.row {M : Tab} {D0 D : Nat → Nat → Bool} {av : Bool} {i : Nat} (h : RelD M D0 D av i i 0) : RelD M D0 D av (i + 1) 0 0 :=
  ⟨h.mono, h.less, h.same, fun e x y c' hyx hx hc hp hd => h.clo e x y c' hyx hx hc (by omega) hd⟩
def DiffPost (M : Tab) (w : World) (e : Ending) (w' : World) : Prop :=
  Below w.heap.size w w' ∧ ∃ (g : Nat) (rb : Nat → Nat) (D : Nat → Nat → Bool), e = .returned (.slice (some ⟨g, 0, none⟩) M.n M.n) ∧ MatTo w' (w.heap.size + 1) g M.n M.n rb D ∧ ∀ x y, x < M.n → y < M.n → (D x y = true ↔ Apart M x y)
set_option maxRecDepth 20000 in
set_option maxHeartbeats 4000000 in
theorem differing_ok (V : Lay) (M : Tab) (w : World) (hlo : 1 ≤ M.n) (hhi : M.n ≤ 100000000) (hnx : ∀ i c, i < M.n → c < 8 → M.nxt i c < M.n) (hV : TabAt w V M) :
    Calls Tryz.prog 103 #[.agg #[.slice (some ⟨V.ba, V.oa, none⟩) M.n V.ca, .slice (some ⟨V.bn, V.on, none⟩) M.n V.cn]] w
      (DiffPost M w) := by
  have mk1 := run_make_row' (P := Tryz.prog) 108 38 (.slice none 0 0) 24 Tryz.underlying108 Tryz.infoB rfl .i64 .i64 M.n (by omega) (by omega)
  have mk2 := run_make_row' (P := Tryz.prog) 38 4 (.bool false) 1 Tryz.underlying38 Tryz.info4 rfl .i64 .i64 M.n (by omega) (by omega)
  obtain ⟨W, hW⟩ : ∃ W, W = w.alloc (.cells #[.slice (some ⟨V.ba, V.oa, none⟩) M.n V.ca, .slice (some ⟨V.bn, V.on, none⟩) M.n V.cn] 41) := ⟨_, rfl⟩
  have BW : Below w.heap.size w W := by rw [hW]; exact (Below.refl _ _).alloc (Nat.le_refl _) _
  have hWs : W.heap.size = w.heap.size + 1 := by rw [hW]; simp
  have b0 : W.heap[w.heap.size]? = some (.cells #[.slice (some ⟨V.ba, V.oa, none⟩) M.n V.ca, .slice (some ⟨V.bn, V.on, none⟩) M.n V.cn] 41 (0, 0)) := by rw [hW]; exact heap_at_new (by simp)
  have P0 : MatTo (W.alloc (.cells (madeCells #[.slice none 0 0] M.n) 38)) (w.heap.size + 1) (w.heap.size + 1) M.n 0 (fun _ => 0) (fun _ _ => false) :=
    ⟨(madeCells_rowIs (heap_at_new hWs.symm)).congr (fun i _ => by simp), fun i hi => absurd hi (by omega), fun i j hi => absurd hi (by omega), Nat.le_refl _, fun i hi => absurd hi (by omega)⟩
  have B0 : Below (w.heap.size + 1) W (W.alloc (.cells (madeCells #[.slice none 0 0] M.n) 38)) := (Below.refl _ _).alloc (by omega) _
  go_enter Tryz.func103, Tryz.ntmps103
  go_wp2_with fail
  rw [← hW]
  clear hW mk1
  go_loopw [5, 6] (fun i' _ wr => ∃ (k : Nat) (rb : Nat → Nat) (D : Nat → Nat → Bool), k ≤ M.n ∧ i' = .int .i64 k ∧ Below (w.heap.size + 1) W wr ∧ MatTo wr (w.heap.size + 1) (w.heap.size + 1) M.n k rb D ∧ ∀ x y, x < k → y < M.n → D x y = (M.acc x != M.acc y))
    (fun i' _ _ => M.n - (intOf i').toNat)
  case atStart => exact ⟨0, _, _, by omega, rfl, B0, P0, fun x y hx => absurd hx (by omega)⟩
  case round =>
    obtain ⟨k, rb, D, hk, rfl, hb, hP, hD⟩ := hrel
    clear P0 B0
    by_cases hlt : k < M.n
    · have t0 := hP.top.cell hlt
      have t1 := hP.top.frozen k
      rw [if_neg (Nat.lt_irrefl k)] at t0
      have HP : Hid _ := hP
      have HB : Hid _ := hb
      have hts := hP.top.lt
      have hbs := hb.size
      clear hP hb
      go_wp2_with fail
      clear mk2 t0 t1
      rename World => wo
      have hN1 : MatTo ((wo.alloc (.cells (madeCells #[.bool false] M.n) 4)).setCell ⟨w.heap.size + 1, k, none⟩ (.slice (some ⟨wo.heap.size, 0, none⟩) M.n M.n)) (w.heap.size + 1) (w.heap.size + 1) M.n (k + 1) (fun i => if i = k then wo.heap.size else rb i) (fun i j => if i = k then false else D i j) :=
        (HP.out.below ((Below.refl _ _).alloc (Nat.le_refl _) _)).next (f := fun _ => false) (madeCells_rowIs (heap_at_new rfl)) (fun i hi => by have := (HP.out.row i hi).lt; omega) (by omega)
      have hB1 : Below (w.heap.size + 1) W ((wo.alloc (.cells (madeCells #[.bool false] M.n) 4)).setCell ⟨w.heap.size + 1, k, none⟩ (.slice (some ⟨wo.heap.size, 0, none⟩) M.n M.n)) := (HB.out.alloc (by omega) _).setCell (p := ⟨w.heap.size + 1, k, none⟩) (Nat.le_refl _) _
      rw [World.setCell_alloc_past _ _ _ _ hts] at hN1 hB1
      generalize (fun i => if i = k then wo.heap.size else rb i) = rb' at hN1
      have HD0 : Hid (∀ x y, x < k → y < M.n → (fun i j => if i = k then false else D i j) x y = (M.acc x != M.acc y)) := fun x y hx hy => by simp only [if_neg (show x ≠ k by omega)]; exact hD x y hx hy
      have HD1 : Hid (∀ y, y < M.n → (fun i j => if i = k then false else D i j) k y = false) := fun y hy => by simp
      generalize (fun i j => if i = k then false else D i j) = Dn at hN1 HD0 HD1
      clear HP HB hD
      go_loopw [6] (fun j' wi => ∃ (j : Nat) (D' : Nat → Nat → Bool), j ≤ M.n ∧ j' = .int .i64 j ∧ Below (w.heap.size + 1) W wi ∧ MatTo wi (w.heap.size + 1) (w.heap.size + 1) M.n (k + 1) rb' D' ∧ (∀ x y, x < k → y < M.n → D' x y = (M.acc x != M.acc y)) ∧ ∀ y, y < M.n → D' k y = if y < j then (M.acc k != M.acc y) else false)
        (fun j' _ => M.n - (intOf j').toNat)
      case atStart => exact ⟨0, Dn, by omega, rfl, hB1, hN1, HD0.out, fun y hy => by simp [HD1.out y hy]⟩
      case round =>
        clear hN1 hB1 HD0 HD1
        obtain ⟨j, D', hj, rfl, hb, hP, hD1, hD2⟩ := hrel
        have hbw : Below w.heap.size w wr := BW.trans (hb.mono (by omega))
        obtain ⟨x0, x1, _, _⟩ := cell_two ((hb.block _ (by omega)).trans b0)
        by_cases hltj : j < M.n
        · have a0 := (hV.below hbw).acc k hlt
          have a1 := (hV.below hbw).acc j hltj
          have t0 := hP.top.cell hlt
          rw [if_pos (show k < k + 1 by omega)] at t0
          have r0 := (hP.row k (by omega)).cell hltj
          have r1 := (hP.row k (by omega)).frozen j
          obtain ⟨dv, HDV⟩ : ∃ x, Hid (D' k j = x) := ⟨_, rfl⟩
          rw [HDV.out] at r0
          have HP : Hid _ := hP
          have HB : Hid _ := hb
          have HE : Hid _ := hD1
          have HF : Hid _ := hD2
          have hrl := hP.lr k (by omega)
          clear hP hb hD1 hD2 hbw
          go_wp2_with fail
          go_region
          go_wp2_with fail
          go_roundw
          case rel =>
            refine ⟨j + 1, upd D' k j (M.acc k != M.acc j), by omega, by go_num, HB.out.drew.setCell (p := ⟨rb' k, j, none⟩) hrl _, (HP.out.below ((Below.refl _ _).drew)).set (by omega) _, fun x y hx hy => ?_, fun y hy => ?_⟩
            · unfold upd; rw [if_neg (by omega)]; exact HE.out x y hx hy
            · unfold upd
              by_cases e : y = j
              · subst e; simp
              · rw [if_neg (by omega), HF.out y hy]
                by_cases h' : y < j
                · rw [if_pos h', if_pos (by omega)]
                · rw [if_neg h', if_neg (by omega)]
          case measure => simp [intOf]; omega
        · have he : j = M.n := by omega
          subst he
          have HP : Hid _ := hP
          have HB : Hid _ := hb
          have HE : Hid _ := hD1
          have HF : Hid _ := hD2
          clear hP hb hD1 hD2
          go_wp2_with fail
          go_roundw
          case rel =>
            refine ⟨k + 1, rb', D', by omega, by go_num, HB.out, HP.out, fun x y hx hy => ?_⟩
            by_cases e : x = k
            · subst e; rw [HF.out y hy, if_pos hy]
            · exact HE.out x y (by omega) hy
          case measure => simp [intOf]; omega
    · have he : k = M.n := by omega
      subst he
      have hI : InvD M D := by
        refine ⟨fun x y hx hy hd => ?_, fun x y hx hy => ?_, fun x y hx hy hd => ?_⟩
        · rw [hD x y hx hy] at hd
          exact ⟨[], by intro c hc; simp at hc, by simpa [Tab.read] using hd⟩
        · rw [hD x y hx hy, hD y x hy hx]
          cases M.acc x <;> cases M.acc y <;> rfl
        · rw [hD x y hx hy]; simpa using hd
      clear mk2 hD
      go_wp2_with fail
      go_loopg [7, 8, 9, 10] (falses M.n D + 1) (fun gk a _ _ _ wr => ∃ (av : Bool) (D : Nat → Nat → Bool), a = .bool av ∧ Below (w.heap.size + 1) W wr ∧ MatTo wr (w.heap.size + 1) (w.heap.size + 1) M.n M.n rb D ∧ InvD M D ∧ gk = falses M.n D + (if av then 1 else 0) ∧ (av = false → ∀ x y c', y < x → x < M.n → c' < 8 → D (M.nxt x c') (M.nxt y c') = true → D x y = true))
      case atStart => exact ⟨true, D, rfl, hb, hP, hI, rfl, fun e => by cases e⟩
      case round =>
        clear hI hb hP
        obtain ⟨av, D1, rfl, hb, hP, hI, rfl, hcl⟩ := hrel
        have HP1 : Hid _ := hP
        have HB1 : Hid _ := hb
        have HI1 : Hid _ := hI
        have HC1 : Hid _ := hcl
        clear hP hb hI hcl
        cases av
        · go_wp2_with fail
          go_ret
          exact ⟨BW.trans (HB1.out.mono (by omega)), w.heap.size + 1, rb, D1, rfl, HP1.out, HI1.out.all hnx (HC1.out (by trivial))⟩
        · go_wp2_with fail
          rename World => wo
          go_loopw [7, 8, 9, 10] (fun a i' _ _ wi => ∃ (av : Bool) (i : Nat) (D : Nat → Nat → Bool), a = .bool av ∧ i ≤ M.n ∧ i' = .int .i64 i ∧ Below (w.heap.size + 1) W wi ∧ MatTo wi (w.heap.size + 1) (w.heap.size + 1) M.n M.n rb D ∧ InvD M D ∧ RelD M D1 D av i 0 0)
            (fun _ i' _ _ _ => M.n - (intOf i').toNat)
          case atStart => exact ⟨false, 0, D1, rfl, by omega, rfl, HB1.out, HP1.out, HI1.out, ⟨fun _ _ _ _ h => h, (fun e => by cases e), fun _ _ _ _ _ => rfl, fun _ x y c' h1 h2 h3 h4 => by omega⟩⟩
          case round =>
            obtain ⟨av, i, D2, rfl, hi, rfl, hb, hP, hI, hR⟩ := hrel
            have HP2 : Hid _ := hP
            have HB2 : Hid _ := hb
            have HI2 : Hid _ := hI
            have HR2 : Hid _ := hR
            clear hP hb hI hR
            by_cases hlti : i < M.n
            · go_wp2_with fail
              go_loopw [7, 9, 10] (fun a j' _ wi => ∃ (av : Bool) (j : Nat) (D : Nat → Nat → Bool), a = .bool av ∧ j ≤ i ∧ j' = .int .i64 j ∧ Below (w.heap.size + 1) W wi ∧ MatTo wi (w.heap.size + 1) (w.heap.size + 1) M.n M.n rb D ∧ InvD M D ∧ RelD M D1 D av i j 0)
                (fun _ j' _ _ => i - (intOf j').toNat)
              case atStart => exact ⟨av, 0, D2, rfl, by omega, rfl, HB2.out, HP2.out, HI2.out, HR2.out⟩
              case round =>
                clear HP2 HB2 HI2 HR2
                obtain ⟨av, j, D3, rfl, hj, rfl, hb, hP, hI, hR⟩ := hrel
                have HP3 : Hid _ := hP
                have HB3 : Hid _ := hb
                have HI3 : Hid _ := hI
                have HR3 : Hid _ := hR
                clear hP hb hI hR
                by_cases hltj : j < i
                · go_wp2_with fail
                  go_loopw [7, 10] (fun a c' wi => ∃ (av : Bool) (c : Nat) (D : Nat → Nat → Bool), a = .bool av ∧ c ≤ 8 ∧ c' = .int .i64 c ∧ Below (w.heap.size + 1) W wi ∧ MatTo wi (w.heap.size + 1) (w.heap.size + 1) M.n M.n rb D ∧ InvD M D ∧ RelD M D1 D av i j c)
                    (fun _ c' _ => 8 - (intOf c').toNat)
                  case atStart => exact ⟨av, 0, D3, rfl, by omega, rfl, HB3.out, HP3.out, HI3.out, HR3.out⟩
                  case round =>
                    clear HP3 HB3 HI3 HR3
                    obtain ⟨av, c, D4, rfl, hc, rfl, hb, hP, hI, hR⟩ := hrel
                    have hbw : Below w.heap.size w wr := BW.trans (hb.mono (by omega))
                    have hjn : j < M.n := by omega
                    have ti := hP.top.cell hlti
                    have tj := hP.top.cell hjn
                    rw [if_pos hlti] at ti
                    rw [if_pos hjn] at tj
                    have rij := (hP.row i hlti).cell hjn
                    obtain ⟨dv, HDV⟩ : ∃ x, Hid (D4 i j = x) := ⟨_, rfl⟩
                    rw [HDV.out] at rij
                    have HP4 : Hid _ := hP
                    have HB4 : Hid _ := hb
                    have HI4 : Hid _ := hI
                    have HR4 : Hid _ := hR
                    obtain ⟨x0, x1, _, _⟩ := cell_two ((hb.block _ (by omega)).trans b0)
                    by_cases hl8 : c < 8
                    · cases dv
                      · have y0 := (hV.below hbw).row i hlti
                        have y1 := (hV.below hbw).cel i c hlti hl8
                        have y2 := (hV.below hbw).row j hjn
                        have y3 := (hV.below hbw).cel j c hjn hl8
                        have n1 := hnx i c hlti hl8
                        have n2 := hnx j c hjn hl8
                        obtain ⟨ni, HNI⟩ : ∃ x, Hid (M.nxt i c = x) := ⟨_, rfl⟩
                        obtain ⟨nj, HNJ⟩ : ∃ x, Hid (M.nxt j c = x) := ⟨_, rfl⟩
                        rw [HNI.out] at y1 n1
                        rw [HNJ.out] at y3 n2
                        have tn := hP.top.cell n1
                        rw [if_pos n1] at tn
                        have rn := (hP.row ni n1).cell n2
                        obtain ⟨nv, HNV⟩ : ∃ x, Hid (D4 ni nj = x) := ⟨_, rfl⟩
                        rw [HNV.out] at rn
                        have rji := (hP.row j hjn).cell hlti
                        have fij := (hP.row i hlti).frozen j
                        have fji := (hP.row j hjn).frozen i
                        have dij : ¬ rb i = rb j := hP.inj i j hlti hjn (by omega)
                        have dji : ¬ rb j = rb i := fun e => dij e.symm
                        have dgi : ¬ w.heap.size + 1 = rb i := rowIs_ne hP.top (hP.row i hlti) (by decide)
                        have dgj : ¬ w.heap.size + 1 = rb j := rowIs_ne hP.top (hP.row j hjn) (by decide)
                        have lri := hP.lr i hlti
                        have lrj := hP.lr j hjn
                        clear hP hb hI hR hbw
                        cases nv
                        · go_wp2_with fail
                          go_quiet (fail)
                          go_wp2_with fail
                          go_roundw
                          case rel => exact ⟨av, c + 1, D4, rfl, by omega, by go_num, below_drewN HB4.out _, HP4.out.below (below_drewN (Below.refl _ _) _), HI4.out, HR4.out.pass (by rw [HNI.out, HNJ.out]; exact HNV.out)⟩
                          case measure => simp [intOf]; omega
                        · go_wp2_with fail
                          go_quiet (fail)
                          go_wp2_with fail
                          go_roundw
                          case rel =>
                            have hA : Apart M i j := apart_step hl8 (HI4.out.sound _ _ (by rw [HNI.out]; exact n1) (by rw [HNJ.out]; exact n2) (by rw [HNI.out, HNJ.out]; exact HNV.out))
                            refine ⟨true, c + 1, upd (upd D4 i j true) j i true, rfl, by omega, by go_num, ?_, ?_, HI4.out.put hA, HR4.out.put hlti hjn HDV.out _⟩
                            · exact ((below_drewN HB4.out _).setCell (p := ⟨rb i, j, none⟩) lri _).setCell (p := ⟨rb j, i, none⟩) lrj _
                            · exact ((HP4.out.below (below_drewN (Below.refl _ _) _)).set hlti true).set hjn true
                          case measure => simp [intOf]; omega
                      · clear hP hb hI hR hbw
                        go_wp2_with fail
                        go_roundw
                        case rel => exact ⟨av, j + 1, D4, rfl, by omega, by go_num, HB4.out, HP4.out, HI4.out, HR4.out.doneT HDV.out⟩
                        case measure => simp [intOf]; omega
                    · have he : c = 8 := by omega
                      subst he
                      clear hP hb hI hR hbw
                      go_wp2_with fail
                      go_roundw
                      case rel => exact ⟨av, j + 1, D4, rfl, by omega, by go_num, HB4.out, HP4.out, HI4.out, HR4.out.done8⟩
                      case measure => simp [intOf]; omega
                · have he : j = i := by omega
                  subst he
                  go_wp2_with fail
                  go_roundw
                  case rel => exact ⟨av, j + 1, D3, rfl, by omega, by go_num, HB3.out, HP3.out, HI3.out, HR3.out.row⟩
                  case measure => simp [intOf]; omega
            · have he : i = M.n := by omega
              subst he
              go_wp2_with fail
              go_roundg (falses M.n D2 + (if av then 1 else 0))
              case measure =>
                cases av
                · have : falses M.n D2 = falses M.n D1 := by
                    unfold falses
                    congr 1
                    apply List.filter_congr
                    intro q hq
                    have hq' : q < M.n * M.n := by simpa using hq
                    have hn : 0 < M.n := by omega
                    rw [HR2.out.same rfl _ _ (Nat.div_lt_of_lt_mul hq') (Nat.mod_lt _ hn)]
                  simp; omega
                · have := HR2.out.less rfl
                  simp; omega
              case rel =>
                refine ⟨av, D2, rfl, HB2.out, HP2.out, HI2.out, rfl, fun e x y c' hyx hx hc hd => HR2.out.clo e x y c' hyx hx hc (.inl hx) hd⟩
end Go.Proofs.YtpngikmcjkjdaaaGreatDoor
namespace Go.Proofs.YtpngikmcjkjdaaaGreatDoor
open Go.RowKit
set_option linter.unusedVariables false
def PlacePost (l : Nat) (fs : Nat → Nat) (D : Nat → Nat → Bool) (s : Nat) (w : World) (e : Ending) (w' : World) : Prop :=
  w' = w ∧ ((∃ k, k < l ∧ e = .returned (.int .i64 k) ∧ D (fs k) s = false ∧ ∀ j, j < k → D (fs j) s = true) ∨ (e = .returned (.int .i64 (-1)) ∧ ∀ j, j < l → D (fs j) s = true))
set_option maxRecDepth 20000 in
set_option maxHeartbeats 1000000 in
theorem place_ok (ao : Option Addr) (gl l cl : Nat) (fs : Nat → Nat) (B g n : Nat) (rb : Nat → Nat) (D : Nat → Nat → Bool) (s : Nat) (w : World) (ha : 0 < l → ao = some ⟨gl, 0, none⟩) (hl : ∀ i, i < l → w.cell? ⟨gl, i, none⟩ = some (.int .i64 (fs i))) (hfs : ∀ i, i < l → fs i < n)
    (hm : MatTo w B g n n rb D) (hs : s < n) (hl0 : l ≤ 100000000) (hn : n ≤ 100000000) :
    Calls Tryz.prog 104 #[.slice ao l cl, .slice (some ⟨g, 0, none⟩) n n, .int .i64 s] w (PlacePost l fs D s w) := by
  go_enter Tryz.func104, Tryz.ntmps104
  go_wp2_with fail
  go_loop [7] (fun k' => ∃ k : Nat, k ≤ l ∧ k' = .int .i64 k ∧ ∀ j, j < k → D (fs j) s = true) (fun k' => l - (intOf k').toNat)
  case atStart => exact ⟨0, by omega, rfl, fun j hj => absurd hj (by omega)⟩
  case round =>
    obtain ⟨k, hk, rfl, hno⟩ := hrel
    by_cases hlt : k < l
    · obtain rfl := ha (by omega)
      have c0 := hl k hlt
      have hf := hfs k hlt
      obtain ⟨fk, HFK⟩ : ∃ x, Hid (fs k = x) := ⟨_, rfl⟩
      rw [HFK.out] at c0 hf
      have t0 := hm.top.cell hf
      rw [if_pos hf] at t0
      have r0 := (hm.row fk hf).cell hs
      obtain ⟨dv, HDV⟩ : ∃ x, Hid (D fk s = x) := ⟨_, rfl⟩
      rw [HDV.out] at r0
      have HNO : Hid _ := hno
      have HM : Hid _ := hm
      clear hno hm hl
      cases dv
      · go_wp2_with fail
        go_ret
        exact ⟨rfl, .inl ⟨k, hlt, rfl, by rw [HFK.out]; exact HDV.out, HNO.out⟩⟩
      · go_wp2_with fail
        go_round
        case rel =>
          refine ⟨k + 1, by omega, by go_num, fun j hj => ?_⟩
          by_cases e : j = k
          · subst e; rw [HFK.out]; exact HDV.out
          · exact HNO.out j (by omega)
        case measure => simp [intOf]; omega
    · have he : k = l := by omega
      subst he
      have HNO : Hid _ := hno
      clear hno hm hl
      go_wp2_with fail
      go_ret
      exact ⟨rfl, .inr ⟨rfl, HNO.out⟩⟩
end Go.Proofs.YtpngikmcjkjdaaaGreatDoor
namespace Go.Proofs.YtpngikmcjkjdaaaGreatDoor
open Go.RowKit
set_option linter.unusedVariables false
theorem PRel.bnd {M : Tab} {S : Nat → Nat → Nat} {ps : List Nat} {p : Nat} (h : PRel (goodC M) S ps p) : ps.length ≤ M.n := nodup_bound M.n ps h.nd (fun x hx => (h.inr x hx).1)
structure FoundMem (W : World) (B : Nat) (w : World) (g n : Nat) (rb : Nat → Nat) (D : Nat → Nat → Bool) (vf : Value) (fs : List Nat) : Prop where
  blw : Below B W w
  siz : B ≤ w.heap.size
  mat : MatTo w B g n n rb D
  own : w.ownsRow B 3 1 vf fs.length (ints fs)
theorem FoundMem.below {W w w2 : World} {B g n : Nat} {rb : Nat → Nat} {D : Nat → Nat → Bool} {vf : Value} {fs : List Nat} (h : FoundMem W B w g n rb D vf fs) (hb : Below w.heap.size w w2) : FoundMem W B w2 g n rb D vf fs :=
  ⟨h.blw.trans (hb.mono h.siz), Nat.le_trans h.siz hb.size, h.mat.below hb, ownsRow_below h.own hb⟩
theorem rowIs_own {w w2 : World} {b t n base e s k : Nat} {f : Nat → Value} {v : Value} {x : List Value} (h : w.rowIs b t n f) (ho : w.ownsRow base e s v k x) (hne : t ≠ e) (hg : w.grownBy w2 v.ownBlock) : w2.rowIs b t n f := by
  refine h.of_block (hg.block b h.lt (fun e' => ?_))
  rcases ho.2 with ⟨rfl, _⟩ | ⟨g, cap, cur, rfl, _, hg', _⟩
  · simp [Value.ownBlock] at e'
  · simp only [Value.ownBlock, Option.some.injEq] at e'
    subst e'
    obtain ⟨c, hb, _, _⟩ := h
    rw [hb] at hg'
    simp only [Option.some.injEq, Obj.cells.injEq] at hg'
    exact hne hg'.2.1
theorem MatTo.grown {w w2 : World} {B g n k base s m : Nat} {rb : Nat → Nat} {D : Nat → Nat → Bool} {v : Value} {x : List Value} (h : MatTo w B g n k rb D) (ho : w.ownsRow base 3 s v m x) (hg : w.grownBy w2 v.ownBlock) : MatTo w2 B g n k rb D :=
  ⟨rowIs_own h.top ho (by decide) hg, fun i hi => rowIs_own (h.row i hi) ho (by decide) hg, h.inj, h.lg, h.lr⟩
theorem FoundMem.app {W w w2 : World} {B g n : Nat} {rb : Nat → Nat} {D : Nat → Nat → Bool} {vf : Value} {fs : List Nat} (h : FoundMem W B w g n rb D vf fs) {s gg cap : Nat}
    (hown : w2.ownsRow B 3 1 (.slice (some ⟨gg, 0, none⟩) (fs.length + 1) cap) (fs.length + 1) (ints fs ++ [.int .i64 (s : Int)])) (hg : w.grownBy w2 vf.ownBlock) : FoundMem W B w2 g n rb D (.slice (some ⟨gg, 0, none⟩) (fs.length + 1) cap) (fs ++ [s]) :=
  ⟨h.blw.grown hg h.siz (fun x e => (h.own.lt x e).1), Nat.le_trans h.siz hg.size, h.mat.grown h.own hg, by rw [ints_snoc] at hown; simpa using hown⟩
def RLeastPost (L : List Nat → Bool) (w : World) (e : Ending) (w' : World) : Prop :=
  Below w.heap.size w w' ∧ ∃ (U : Lay) (R : Tab), IsLeast R L ∧ e = .returned (.agg #[.slice (some ⟨U.ba, U.oa, none⟩) R.n U.ca, .slice (some ⟨U.bn, U.on, none⟩) R.n U.cn]) ∧ TabAt w' U R ∧ U.From w.heap.size R.n
theorem place_found {M : Tab} {fs : List Nat} {D : Nat → Nat → Bool} (hD : ∀ x y, x < M.n → y < M.n → (D x y = true ↔ Apart M x y)) (hfs : ∀ i, i < fs.length → fs.getD i 0 < M.n) {s : Nat} (hs : s < M.n) (hmem : cr M s ∈ fs.map (cr M)) {w w' : World} {e : Ending} (h : PlacePost fs.length (fun i => fs.getD i 0) D s w e w') :
    e = .returned (.int .i64 ((fs.map (cr M)).idxOf (cr M s) : Nat)) ∧ w' = w := by
  have hp := place_mem (M := M) (fs := fs) hD hfs hs
  obtain ⟨h0, h1⟩ := h
  refine ⟨?_, h0⟩
  rcases h1 with ⟨k, hk, rfl, hd, hno⟩ | ⟨rfl, hno⟩
  · rw [(hp.1 k hk hd hno).2]
  · exact absurd hmem (hp.2 hno)
set_option maxRecDepth 20000 in
set_option maxHeartbeats 4000000 in
theorem rleast_ok (V : Lay) (M : Tab) (w : World) (hlo : 1 ≤ M.n) (hhi : M.n ≤ 100000000) (hnx : ∀ i c, i < M.n → c < 8 → M.nxt i c < M.n) (hV : TabAt w V M) :
    Calls Tryz.prog 67 #[.agg #[.slice (some ⟨V.ba, V.oa, none⟩) M.n V.ca, .slice (some ⟨V.bn, V.on, none⟩) M.n V.cn]] w
      (RLeastPost M.accepts w) := by
  obtain ⟨i3, hi3, hz3, hz31, hz32⟩ := info_parts Tryz.info3
  obtain ⟨i4, hi4, hz4, hz41, hz42⟩ := info_parts Tryz.info4
  obtain ⟨iR, hiR, hzR, hzR1, hzR2⟩ := info_parts Tryz.infoR
  obtain ⟨W, hW⟩ : ∃ W, W = (w.alloc (.cells #[.slice (some ⟨V.ba, V.oa, none⟩) M.n V.ca, .slice (some ⟨V.bn, V.on, none⟩) M.n V.cn] 41)).alloc (.cells #[.slice none 0 0, .slice none 0 0] 41) := ⟨_, rfl⟩
  have BW : Below w.heap.size w W := by rw [hW]; exact ((Below.refl _ _).alloc (Nat.le_refl _) _).alloc (by simp) _
  have hWs : W.heap.size = w.heap.size + 1 + 1 := by rw [hW]; simp
  have b0 : W.heap[w.heap.size]? = some (.cells #[.slice (some ⟨V.ba, V.oa, none⟩) M.n V.ca, .slice (some ⟨V.bn, V.on, none⟩) M.n V.cn] 41 (0, 0)) := by rw [hW]; exact heap_at_old (heap_at_new (by simp))
  have b1 : W.heap[w.heap.size + 1]? = some (.cells #[.slice none 0 0, .slice none 0 0] 41 (0, 0)) := by rw [hW]; exact heap_at_new (by simp)
  have hV0 := hV.below BW
  go_enter Tryz.func67, Tryz.ntmps67
  go_wp2_with fail
  rw [← hW]
  clear hW
  refine (differing_ok V M W hlo hhi hnx hV0).mono ?_
  rintro e w1 ⟨hB1, g, rb, D, rfl, hm, hD⟩
  have hs1 := hB1.size
  have hm1 : MatTo w1 (w.heap.size + 1 + 1) g M.n M.n rb D := ⟨hm.top, hm.row, hm.inj, by have := hm.lg; omega, fun i hi => by have := hm.lr i hi; omega⟩
  have hbW1 : Below (w.heap.size + 1 + 1) W w1 := hB1.mono (by omega)
  have P0 : FoundMem W (w.heap.size + 1 + 1) (w1.alloc (.cells #[.int .i64 0] 3)) g M.n rb D (.slice (some ⟨w1.heap.size, 0, none⟩) 1 1) [0] := by
    refine ⟨hbW1.alloc (by omega) _, by simp; omega, hm1.below ((Below.refl _ _).alloc (Nat.le_refl _) _), ?_⟩
    exact World.ownsRow_lit (base := w.heap.size + 1 + 1) (e := 3) (size := 1) w1 #[.int .i64 0] 1 (by omega) (by decide) rfl
  have hg0 : goodC M 0 := ⟨by omega, by have := cr_le M 0; omega⟩
  have Q0 : PRel (goodC M) (crS M) (([0] : List Nat).map (cr M)) 0 := by
    have : ([0] : List Nat).map (cr M) = [0] := by simp [hg0.2]
    rw [this]; exact PRel.start hg0
  go_wp2_with fail
  clear hm hm1 hB1 hbW1 hV0
  go_loopw [4, 5, 6, 7, 8] (fun vf k' _ _ _ wr => ∃ (k : Nat) (fs : List Nat), k ≤ fs.length ∧ k' = .int .i64 k ∧ FoundMem W (w.heap.size + 1 + 1) wr g M.n rb D vf fs ∧ PRel (goodC M) (crS M) (fs.map (cr M)) (8 * k) ∧ ∀ i, i < fs.length → fs.getD i 0 < M.n)
    (fun _ k' _ _ _ _ => M.n + 1 - (intOf k').toNat)
  case atStart => exact ⟨0, [0], by simp, rfl, P0, Q0, fun i hi => by
      have h0 : i = 0 := by simpa using hi
      rw [h0]; simp; omega⟩
  case round =>
    obtain ⟨k, fs, hk, rfl, hF, hR, hfs⟩ := hrel
    clear P0 Q0
    have hbd := hR.bnd
    rw [List.length_map] at hbd
    obtain ⟨af, cf, rfl, haf⟩ := ownsRow_shape hF.own
    have hbw : Below w.heap.size w wr := BW.trans (hF.blw.mono (by omega))
    obtain ⟨x0, x1, _, _⟩ := cell_two ((hF.blw.block _ (by omega)).trans b0)
    have hlen : 0 < fs.length := by have := hR.len; rw [List.length_map] at this; omega
    by_cases hlt : k < fs.length
    · have HF : Hid _ := hF
      have HR : Hid _ := hR
      have HFS : Hid _ := hfs
      clear hF hR hfs haf
      go_wp2_with fail
      go_loopw [4, 6, 7, 8] (fun vf c' _ _ wr => ∃ (c : Nat) (fs : List Nat), c ≤ 8 ∧ c' = .int .i64 c ∧ k < fs.length ∧ FoundMem W (w.heap.size + 1 + 1) wr g M.n rb D vf fs ∧ PRel (goodC M) (crS M) (fs.map (cr M)) (8 * k + c) ∧ ∀ i, i < fs.length → fs.getD i 0 < M.n)
        (fun _ c' _ _ _ => 8 - (intOf c').toNat)
      case atStart => exact ⟨0, fs, by omega, rfl, hlt, HF.out, HR.out, HFS.out⟩
      case round =>
        clear HF HR HFS hlt hbd hlen
        obtain ⟨c, fs, hc, rfl, hlt, hF, hR, hfs⟩ := hrel
        have hbd := hR.bnd
        rw [List.length_map] at hbd
        obtain ⟨af, cf, rfl, haf⟩ := ownsRow_shape hF.own
        obtain ⟨gf, rfl, hcf⟩ := haf (by omega)
        have hbw : Below w.heap.size w wr := BW.trans (hF.blw.mono (by omega))
        obtain ⟨x0, x1, _, _⟩ := cell_two ((hF.blw.block _ (by omega)).trans b0)
        have hnats := ints_at rfl hcf
        have HNT : Hid (NatsAt wr gf fs.length (fun i => fs.getD i 0)) := hnats
        have HF : Hid _ := hF
        have HR : Hid _ := hR
        have HFS : Hid _ := hfs
        by_cases hl8 : c < 8
        · have c0 := hnats k hlt
          have hfk := hfs k hlt
          obtain ⟨fk, HFK⟩ : ∃ x, Hid (fs.getD k 0 = x) := ⟨_, rfl⟩
          simp only at c0
          rw [HFK.out] at c0 hfk
          have y0 := (hV.below hbw).row fk hfk
          have y1 := (hV.below hbw).cel fk c hfk hl8
          have hs := hnx fk c hfk hl8
          obtain ⟨s, HS⟩ : ∃ x, Hid (M.nxt fk c = x) := ⟨_, rfl⟩
          rw [HS.out] at y1 hs
          have HSC : Hid (crS M ((fs.map (cr M)).getD ((8 * k + c) / 8) 0) ((8 * k + c) % 8) = cr M s) := by
            unfold Hid
            rw [show (8 * k + c) / 8 = k by omega, show (8 * k + c) % 8 = c by omega, crS_map M fs k c hlt hl8, HFK.out, HS.out]
          have hsz := hF.siz
          clear hF hR hfs haf hcf hnats
          go_wp2_with fail
          go_quiet (fail)
          have hFq := HF.out.below (below_drewN (Below.refl _ _) nq)
          have HC := place_ok (some ⟨gf, 0, none⟩) gf fs.length cf (fun i => fs.getD i 0) (w.heap.size + 1 + 1) g M.n rb D s (wr.drewN nq) (fun _ => rfl) (fun i hi => HNT.out i hi) (fun i hi => HFS.out i hi) hFq.mat hs (by omega) hhi
          have HFQ : Hid _ := hFq
          have HPM := place_mem (M := M) (fs := fs) hD HFS.out hs
          clear hFq
          go_wp2_with fail
          refine HC.mono ?_
          clear HC
          rintro e w2 ⟨hw2, hcase⟩
          obtain rfl : wr.drewN nq = w2 := hw2.symm
          rcases hcase with ⟨kk, hkk, rfl, hd, hno⟩ | ⟨rfl, hno⟩
          · have hmem := (HPM.1 kk hkk hd hno).1
            have hnn : ¬ ((kk : Int) < 0) := by omega
            have HMM : Hid _ := hmem
            clear HPM hd hno hmem
            go_wp2_with fail
            go_roundw
            case rel => exact ⟨c + 1, fs, by omega, by go_num, hlt, HFQ.out, HR.out.old (by rw [List.length_map]; omega) (by rw [HSC.out]; exact HMM.out), HFS.out⟩
            case measure => simp [intOf]; omega
          · have hnm := HPM.2 hno
            have HNM : Hid _ := hnm
            have hna := (HFQ.out.below ((Below.refl _ _).alloc (Nat.le_refl _) (.cells #[.int .i64 (s : Int)] 3))).own
            have HFA : Hid _ := HFQ.out.below ((Below.refl _ _).alloc (Nat.le_refl _) (.cells #[.int .i64 (s : Int)] 3))
            clear HPM hno hnm
            go_wp2_with (at_builtin; refine wpList_append_fresh _ rfl _ _ 24 rfl (w.heap.size + 1 + 1) 3 i3 (.int .i64 0) 1 8 Tryz.underlying24 hi3 hz3 hz31 hz32 rfl (by decide) _ fs.length (ints fs) rfl hna ⟨wr.heap.size, 0, none⟩ 1 1 [.int .i64 (s : Int)] rfl rfl (cell_one_new _ _ _) (by intro u hu; simp at hu; subst hu; rfl) (by decide) (by unfold maxLen; omega) (by omega) (by simp; omega) ?_; intro gg cap w3 hown hgr hfr; have HO : Hid _ := hown; have HG : Hid _ := hgr; clear hown hgr hfr)
            go_roundw
            case rel =>
              have hgd : goodC M (cr M s) := ⟨by have := cr_le M s; omega, cr_cr M s⟩
              have hnew := HR.out.new (by rw [List.length_map]; omega) (by rw [HSC.out]; exact HNM.out) (by rw [HSC.out]; exact hgd)
              rw [HSC.out] at hnew
              refine ⟨c + 1, fs ++ [s], by omega, by go_num, by simp; omega, by simpa using HFA.out.app HO.out HG.out, by rw [← Nat.add_assoc]; simpa using hnew, fun i hi => ?_⟩
              by_cases e : i < fs.length
              · rw [getD_app _ _ _ e]; exact HFS.out i e
              · have : i = fs.length := by simp at hi; omega
                subst this; simp [List.getD_eq_getElem?_getD, hs]
            case measure => simp [intOf]; omega
        · have he : c = 8 := by omega
          subst he
          clear hF hR hfs haf hcf hnats
          go_wp2_with fail
          go_roundw
          case rel => exact ⟨k + 1, fs, by omega, by go_num, HF.out, by rw [show 8 * (k + 1) = 8 * k + 8 by omega]; exact HR.out, HFS.out⟩
          case measure => simp [intOf]; omega
    · have he : k = fs.length := by omega
      subst he
      obtain ⟨ps, HPS⟩ : ∃ x, Hid (fs.map (cr M) = x) := ⟨_, rfl⟩
      rw [HPS.out] at hR
      have hpl : ps.length = fs.length := by rw [← HPS.out]; simp
      rw [← hpl] at hR
      have hL := quot_least hR
      obtain ⟨A, HA⟩ : ∃ A : Nat → Bool, Hid (A = fun k => M.acc (fs.getD k 0)) := ⟨_, rfl⟩
      obtain ⟨X, HX⟩ : ∃ X : Nat → Nat → Nat, Hid (X = (quotTab M ps).nxt) := ⟨_, rfl⟩
      have HQA : Hid (∀ k, k < fs.length → (quotTab M ps).acc k = A k) := by
        intro k hk
        rw [HA.out]
        show M.acc (ps.getD k 0) = M.acc (fs.getD k 0)
        rw [← HPS.out, crmap_getD M fs k hk]
        exact (cr_eqv M _).acc
      have HXC : Hid (∀ k c, k < fs.length → c < 8 → cr M (M.nxt (fs.getD k 0) c) ∈ ps ∧ ps.idxOf (cr M (M.nxt (fs.getD k 0) c)) = X k c) := by
        intro k c hk hc
        have h1 := (hR.clo (8 * k + c) (by omega)).2
        rw [show (8 * k + c) / 8 = k by omega, show (8 * k + c) % 8 = c by omega] at h1
        have h2 := crS_map M fs k c hk hc
        rw [HPS.out] at h2
        rw [h2] at h1
        refine ⟨h1, ?_⟩
        rw [HX.out]
        show _ = pn (crS M) ps k c
        unfold pn
        rw [h2]
      have HL : Hid _ := hL
      have HFS : Hid _ := hfs
      obtain ⟨gf, rfl, hcf⟩ := haf hlen
      have hnats := ints_at rfl hcf
      rename World => wo
      obtain ⟨W2, hW2⟩ : ∃ W2, W2 = wo.alloc (.cells #[.slice none 0 0, .slice none 0 0] 41) := ⟨_, rfl⟩
      have hB2 : Below wo.heap.size wo W2 := by rw [hW2]; exact (Below.refl _ _).alloc (Nat.le_refl _) _
      have hs2 : wo.heap.size < W2.heap.size := by rw [hW2]; simp
      have d0 : W2.heap[wo.heap.size]? = some (.cells #[.slice none 0 0, .slice none 0 0] 41 (0, 0)) := by rw [hW2]; exact heap_at_new rfl
      have d1 : W2.heap[w.heap.size]? = some (.cells #[.slice (some ⟨V.ba, V.oa, none⟩) M.n V.ca, .slice (some ⟨V.bn, V.on, none⟩) M.n V.cn] 41 (0, 0)) := (hB2.block _ (by have := hF.siz; omega)).trans ((hF.blw.block _ (by omega)).trans b0)
      have d2 : W2.heap[w.heap.size + 1]? = some (.cells #[.slice none 0 0, .slice none 0 0] 41 (0, 0)) := (hB2.block _ (by have := hF.siz; omega)).trans ((hF.blw.block _ (by omega)).trans b1)
      have hF2 := hF.below hB2
      have hbw2 : Below w.heap.size w W2 := hbw.trans (hB2.mono (by have := hF.siz; omega))
      have hnats2 := hnats.below hB2
      have hsz := hF.siz
      have B0 : BuildMem W2 wo.heap.size W2 (.slice none 0 0) (.slice none 0 0) 0 0 A (fun _ => 0) (fun _ => 0) X := BuildMem.start (Below.refl _ _) d0
      have HF2 : Hid _ := hF2
      have HGF : Hid (gf < wo.heap.size) := (hF.own.lt gf rfl).2
      have HGG : Hid (g < wo.heap.size) := hF.mat.top.lt
      have HGR : Hid (∀ i, i < M.n → rb i < wo.heap.size) := fun i hi => (hF.mat.row i hi).lt
      have HNT2 : Hid (NatsAt W2 gf fs.length (fun i => fs.getD i 0)) := hnats2
      clear hF hR hL hfs haf hcf hnats hbw hnats2 hF2
      go_upto_region 14 with fail
      rw [← hW2]
      clear hW2
      go_wp2_with fail
      go_loopw [10, 11, 12, 13] (fun k' _ _ _ wi => ∃ (k : Nat) (va vn : Value) (R C : Nat → Nat), k ≤ fs.length ∧ k' = .int .i64 k ∧ BuildMem W2 wo.heap.size wi va vn k k A R C X)
        (fun k' _ _ _ _ => fs.length - (intOf k').toNat)
      case atStart => exact ⟨0, _, _, _, _, by omega, rfl, B0⟩
      case round =>
        obtain ⟨k, va, vn, R, C, hk2, rfl, hB⟩ := hrel
        clear B0
        have hbm := hB.two.blw
        have hbw : Below w.heap.size w wr := hbw2.trans (hbm.mono (by omega))
        obtain ⟨x0, x1, _, _⟩ := cell_two ((hbm.block _ (by omega)).trans d1)
        obtain ⟨y0, y1, z0, z1⟩ := cell_two hB.two.blk
        have hszb := heap_lt hB.two.blk
        by_cases hltk : k < fs.length
        · have hgfl : gf < wo.heap.size := HGF.out
          have c0 : wr.cell? ⟨gf, k, none⟩ = some (.int .i64 (fs.getD k 0)) := by
            rw [hbm.cell (p := ⟨gf, k, none⟩) hgfl]; exact HNT2.out k hltk
          have hfk := HFS.out k hltk
          have HAK : Hid (A k = M.acc (fs.getD k 0)) := by unfold Hid; rw [HA.out]
          have hXk := fun c => HXC.out k c hltk
          obtain ⟨fk, HFK⟩ : ∃ x, Hid (fs.getD k 0 = x) := ⟨_, rfl⟩
          rw [HFK.out] at c0 hfk HAK
          have a0 := (hV.below hbw).acc fk hfk
          obtain ⟨bb, HBB⟩ : ∃ x, Hid (M.acc fk = x) := ⟨_, rfl⟩
          rw [HBB.out] at a0 HAK
          have HXK : Hid _ := hXk
          have HBa : Hid (BuildMem W2 wo.heap.size ((wr.alloc (.cells #[.bool bb] 4)).drew) va vn k k A R C X) := hB.below (((Below.refl _ _).alloc (Nat.le_refl _) _).drew)
          have hna := HBa.out.two.own0
          have HACC : Hid (∀ g cap' w2, w2.ownsRow (wo.heap.size + 1) 4 1 (.slice (some ⟨g, 0, none⟩) (k + 1) cap') (k + 1) (acells A k ++ [.bool bb]) →
              ((wr.alloc (.cells #[.bool bb] 4)).drew).grownBy w2 va.ownBlock → (va.ownBlock = some g ∨ g = wr.heap.size + 1) →
              BuildMem W2 wo.heap.size (w2.setCell ⟨wo.heap.size, 0, none⟩ (.slice (some ⟨g, 0, none⟩) (k + 1) cap')) (.slice (some ⟨g, 0, none⟩) (k + 1) cap') vn (k + 1) k A R C X) := by
            intro g cap' w2 ho hg hf
            rw [← HAK.out] at ho
            refine HBa.out.acc ho hg ?_
            rcases hf with hf | hf
            · exact .inl hf
            · right; rw [hf]; simp
          clear hB hXk
          go_upto_region 17 with fail
          go_cut [65] (fun _ wc => ∃ va', Hid (BuildMem W2 wo.heap.size wc va' vn (k + 1) k A R C X))
          case first =>
            go_region_law
              ((refine step_append_lies _ (by rfl) _ _ _ (by rfl) (wo.heap.size + 1) 4 i4 (.bool false) 1 1 Tryz.underlying38 hi4 hz4 hz41 hz42 rfl (by decide) va k (acells A k) (by rfl) hna ⟨wr.heap.size, 0, none⟩ 1 1 [.bool bb] (by rfl) (by rfl) (cell_one_new _ _ _) (by intro u hu; simp at hu; subst hu; rfl) (by decide) (by unfold maxLen; omega) (by omega) (by simp; omega) (wr.heap.size + 1) (by simp) ?_; intro g cap' w2 hown hgr hfr hlt2; obtain ⟨f0', f1', f2', f3'⟩ := cell_two (HBa.out.two.grown0 hgr); have HFR : Hid _ := hfr; clear hfr))
            all_goals go_wp2_with fail
            all_goals go_meet
            all_goals exact ⟨_, HACC.out g cap' w2 hown hgr HFR.out⟩
          case rest =>
            obtain ⟨va', hB'⟩ := hcut
            clear HACC HBa hna x0 x1 y0 y1 z0 z1 hbw hbm c0 a0
            go_wp2_with fail
            go_loopw [11, 12, 13] (fun vr c' _ wi => ∃ c : Nat, c ≤ 8 ∧ c' = .int .i64 c ∧ BuildMem W2 wo.heap.size wi va' vn (k + 1) k A R C X ∧
                wi.ownsRow (wo.heap.size + 1) 3 1 vr c (icells (X k) c) ∧ ∀ j, j < k → vr.ownBlock ≠ some (R j))
              (fun _ c' _ _ => 8 - (intOf c').toNat)
            case atStart => exact ⟨0, by omega, rfl, hB'.out, World.ownsRow_nil _ _ _ _, by intro j _ h; simp [Value.ownBlock] at h⟩
            case round =>
              clear hB'
              obtain ⟨c, hc, rfl, hBi, hr, hd⟩ := hrel
              have hbm := hBi.two.blw
              have hbw : Below w.heap.size w wr := hbw2.trans (hbm.mono (by omega))
              obtain ⟨x0, x1, _, _⟩ := cell_two ((hbm.block _ (by omega)).trans d1)
              have hsz2 := heap_lt hBi.two.blk
              by_cases hl8 : c < 8
              · have c0 : wr.cell? ⟨gf, k, none⟩ = some (.int .i64 fk) := by
                  rw [← HFK.out, hbm.cell (p := ⟨gf, k, none⟩) hgfl]; exact HNT2.out k hltk
                have y0 := (hV.below hbw).row fk hfk
                have y1 := (hV.below hbw).cel fk c hfk hl8
                have hs := hnx fk c hfk hl8
                have hxc := HXK.out c hl8
                rw [HFK.out] at hxc
                obtain ⟨s, HS⟩ : ∃ x, Hid (M.nxt fk c = x) := ⟨_, rfl⟩
                rw [HS.out] at y1 hs hxc
                obtain ⟨pv, HPV⟩ : ∃ x, Hid (X k c = x) := ⟨_, rfl⟩
                rw [HPV.out] at hxc
                have HMq : MatTo wr (w.heap.size + 1 + 1) g M.n M.n rb D := by
                  refine ⟨HF2.out.mat.top.of_block (hbm.block _ HGG.out), fun i hi => (HF2.out.mat.row i hi).of_block (hbm.block _ (HGR.out i hi)), HF2.out.mat.inj, HF2.out.mat.lg, HF2.out.mat.lr⟩
                have HC : ∀ q : Nat, Calls Tryz.prog 104 #[.slice (some ⟨gf, 0, none⟩) fs.length cf, .slice (some ⟨g, 0, none⟩) M.n M.n, .int .i64 s] (wr.drewN q) fun e w' => e = .returned (.int .i64 (pv : Nat)) ∧ w' = wr.drewN q := by
                  intro q
                  have hq : Below wr.heap.size wr (wr.drewN q) := below_drewN (Below.refl _ _) q
                  have := (place_ok (some ⟨gf, 0, none⟩) gf fs.length cf (fun i => fs.getD i 0) (w.heap.size + 1 + 1) g M.n rb D s (wr.drewN q) (fun _ => rfl) (fun i hi => by rw [hq.cell (p := ⟨gf, i, none⟩) (show gf < wr.heap.size by omega), hbm.cell (p := ⟨gf, i, none⟩) hgfl]; exact HNT2.out i hi) (fun i hi => HFS.out i hi) (HMq.below hq) hs (by omega) hhi).mono (fun e w' h => place_found hD HFS.out hs (by rw [HPS.out]; exact hxc.1) h)
                  rw [HPS.out, hxc.2] at this
                  exact this
                have HBi : Hid _ := hBi
                have HD : Hid (∀ j, j < k → (u11 : Value).ownBlock ≠ some (R j)) := hd
                have HRR : Hid _ := hr
                clear hBi hd hr hbw hbm HMq hxc
                go_wp2_with fail
                go_quiet ((go_at_call 104; exact Calls.quiet_of_same (HC _)))
                clear HC x0 x1 c0 y0 y1
                have hq : Below wr.heap.size wr (wr.drewN nq) := below_drewN (Below.refl _ _) nq
                have HBq : Hid (BuildMem W2 wo.heap.size ((wr.drewN nq).alloc (.cells #[.int .i64 (pv : Int)] 3)) va' vn (k + 1) k A R C X) := (HBi.out.below hq).below ((Below.refl _ _).alloc (Nat.le_refl _) _)
                have hna := (ownsRow_below HRR.out hq).alloc (.cells #[.int .i64 (pv : Int)] 3)
                have HRO : Hid (∀ j, j < k → R j < wr.heap.size) := fun j hj => ((HBi.out.rows j hj).lt (R j) rfl).2
                clear hq
                go_wp2_with (at_builtin; refine wpList_append_fresh _ rfl _ _ 24 rfl (wo.heap.size + 1) 3 i3 (.int .i64 0) 1 8 Tryz.underlying24 hi3 hz3 hz31 hz32 rfl (by decide) _ c (icells (X k) c) rfl hna ⟨wr.heap.size, 0, none⟩ 1 1 [.int .i64 (pv : Int)] rfl rfl (cell_one_new _ _ _) (by intro u hu; simp at hu; subst hu; rfl) (by decide) (by unfold maxLen; omega) (by omega) (by simp; omega) ?_; intro g2 cap2 w2 hown hgr hfr; have HO : Hid _ := hown; have HG : Hid _ := hgr; have HFR : Hid _ := hfr; clear hown hgr hfr)
                go_roundw
                case rel =>
                  have ho := HO.out
                  rw [show icells (X k) c ++ [.int .i64 (pv : Int)] = icells (X k) (c + 1) by rw [icells_succ, HPV.out]] at ho
                  refine ⟨c + 1, by omega, by go_num, HBq.out.grown hna HD.out HG.out, ho, ?_⟩
                  intro j hj e
                  simp only [Value.ownBlock, Option.some.injEq] at e
                  rcases HFR.out with h' | h'
                  · exact HD.out j hj (by subst e; exact h')
                  · have := HRO.out j hj; simp at h'; omega
                case measure => simp [intOf]; omega
              · have he : c = 8 := by omega
                subst he
                obtain ⟨ar, cr', rfl, har⟩ := ownsRow_shape hr
                obtain ⟨gr, rfl, _⟩ := har (by omega)
                obtain ⟨y0, y1, _, _⟩ := cell_two hBi.two.blk
                have HBi : Hid (BuildMem W2 wo.heap.size (wr.alloc (.cells #[.slice (some ⟨gr, 0, none⟩) 8 cr'] 24)) va' vn (k + 1) k A R C X) := hBi.below ((Below.refl _ _).alloc (Nat.le_refl _) _)
                have hna := HBi.out.two.own1
                have HR : Hid ((wr.alloc (.cells #[.slice (some ⟨gr, 0, none⟩) 8 cr'] 24)).ownsRow (wo.heap.size + 1) 3 1 (.slice (some ⟨gr, 0, none⟩) 8 cr') 8 (icells (X k) 8)) := hr.alloc _
                clear hBi hd hr hbw har
                go_wp2_with (at_builtin; refine wpList_append_fresh _ rfl _ _ 39 rfl (wo.heap.size + 1) 24 iR (.slice none 0 0) 1 24 Tryz.underlying39 hiR hzR hzR1 hzR2 rfl (by decide) _ k (scells R C k) rfl hna ⟨wr.heap.size, 0, none⟩ 1 1 [.slice (some ⟨gr, 0, none⟩) 8 cr'] rfl rfl (cell_one_new _ _ _) (by intro u hu; simp at hu; subst hu; rfl) (by decide) (by unfold maxLen; omega) (by omega) (by simp; omega) ?_; intro g2 cap2 w2 hown hgr hfr; obtain ⟨f0', f1', f2', f3'⟩ := cell_two (HBi.out.two.grown1 hgr); have HO : Hid _ := hown; have HG : Hid _ := hgr; have HFR : Hid _ := hfr; clear hown hgr hfr)
                go_roundw
                case rel =>
                  exact ⟨k + 1, _, _, _, _, by omega, by go_num, HBi.out.nxt HR.out HO.out HG.out HFR.out⟩
                case measure => simp [intOf]; omega
        · have he : k = fs.length := by omega
          subst he
          obtain ⟨U, rfl, rfl, hT, hFr⟩ := hB.done (N := quotTab M ps) (by omega) hpl HQA.out (fun i c hi hc => by rw [HX.out])
          have hq : wr.heap[w.heap.size + 1]? = some (.cells #[.slice none 0 0, .slice none 0 0] 41 (0, 0)) := (hbm.block _ (by omega)).trans d2
          obtain ⟨q0, q1, p0, p1⟩ := cell_two hq
          have HT : Hid (TabAt wr U (quotTab M ps)) := hT
          have HB : Hid _ := hbw
          clear hB hT
          go_wp2_with fail
          obtain ⟨r1, r2, r3⟩ := res_two (u := .slice (some ⟨U.ba, U.oa, none⟩) fs.length U.ca) (v := .slice (some ⟨U.bn, U.on, none⟩) fs.length U.cn) hq
          refine bodyPost_ret (v := .agg #[.slice (some ⟨U.ba, U.oa, none⟩) fs.length U.ca, .slice (some ⟨U.bn, U.on, none⟩) fs.length U.cn]) (by simp [results, Tryz.results67, go_sem, r1, r2]) rfl ?_
          have hn : (quotTab M ps).n = fs.length := hpl
          have hF' : U.From (wo.heap.size + 1) (quotTab M ps).n := by rw [hn]; exact hFr
          refine ⟨below_res HB.out (by omega) _ _, U, quotTab M ps, HL.out, by rw [hn], HT.out.res hF' (by omega) _ _, hF'.mono (by omega)⟩
end Go.Proofs.YtpngikmcjkjdaaaGreatDoor
