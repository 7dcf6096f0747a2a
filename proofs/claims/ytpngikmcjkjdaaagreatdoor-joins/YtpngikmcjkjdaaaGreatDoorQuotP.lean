import Derived.Test.YtpngikmcjkjdaaaGreatDoorPairP
namespace Go.Proofs.YtpngikmcjkjdaaaGreatDoor
set_option linter.unusedVariables false

/-- States that mean the same. -/
def Eqv (M : Tab) (i j : Nat) : Prop := ∀ x, Notes x → M.acc (M.read i x) = M.acc (M.read j x)
theorem Eqv.refl (M : Tab) (i : Nat) : Eqv M i i := fun _ _ => rfl
theorem Eqv.symm {M : Tab} {i j : Nat} (h : Eqv M i j) : Eqv M j i := fun x hx => (h x hx).symm
theorem Eqv.trans {M : Tab} {i j k : Nat} (h : Eqv M i j) (h' : Eqv M j k) : Eqv M i k := fun x hx => (h x hx).trans (h' x hx)
theorem Eqv.nxt {M : Tab} {i j : Nat} (h : Eqv M i j) (c : Nat) (hc : c < 8) : Eqv M (M.nxt i c) (M.nxt j c) := fun x hx => h (c :: x) (by
  intro d hd
  simp only [List.mem_cons] at hd
  rcases hd with rfl | hd
  · exact hc
  · exact hx d hd)
theorem Eqv.acc {M : Tab} {i j : Nat} (h : Eqv M i j) : M.acc i = M.acc j := h [] (by intro d hd; simp at hd)
theorem eqv_iff {M : Tab} {i j : Nat} : Eqv M i j ↔ ¬ Apart M i j := by
  constructor
  · rintro h ⟨x, hx, hd⟩; exact hd (h x hx)
  · intro h x hx
    apply Classical.byContradiction
    intro hd; exact h ⟨x, hx, hd⟩
/-- The first state that means the same. -/
noncomputable def crTo (M : Tab) (s : Nat) : Nat → Nat
  | 0 => s
  | k + 1 => @ite _ (Eqv M (s - (k + 1)) s) (Classical.propDecidable _) (min (s - (k + 1)) (crTo M s k)) (crTo M s k)
noncomputable def cr (M : Tab) (s : Nat) : Nat := crTo M s s
theorem crTo_spec (M : Tab) (s : Nat) : ∀ k, k ≤ s → crTo M s k ≤ s ∧ Eqv M (crTo M s k) s ∧ ∀ t, s - k ≤ t → t ≤ s → Eqv M t s → crTo M s k ≤ t := by
  intro k
  induction k with
  | zero => intro _; exact ⟨Nat.le_refl _, Eqv.refl _ _, fun t h1 h2 _ => h1⟩
  | succ k ih =>
    intro hk
    obtain ⟨a, b, c⟩ := ih (by omega)
    simp only [crTo]
    by_cases e : Eqv M (s - (k + 1)) s
    · rw [if_pos e]
      refine ⟨by omega, ?_, fun t h1 h2 h3 => ?_⟩
      · by_cases h : s - (k + 1) ≤ crTo M s k
        · rw [Nat.min_eq_left h]; exact e
        · rw [Nat.min_eq_right (by omega)]; exact b
      · by_cases h : t = s - (k + 1)
        · subst h; exact Nat.min_le_left _ _
        · have := c t (by omega) h2 h3; exact Nat.le_trans (Nat.min_le_right _ _) this
    · rw [if_neg e]
      refine ⟨a, b, fun t h1 h2 h3 => ?_⟩
      by_cases h : t = s - (k + 1)
      · subst h; exact absurd h3 e
      · exact c t (by omega) h2 h3
theorem cr_le (M : Tab) (s : Nat) : cr M s ≤ s := (crTo_spec M s s (Nat.le_refl _)).1
theorem cr_eqv (M : Tab) (s : Nat) : Eqv M (cr M s) s := (crTo_spec M s s (Nat.le_refl _)).2.1
theorem cr_min (M : Tab) (s t : Nat) (h : t ≤ s) (he : Eqv M t s) : cr M s ≤ t := (crTo_spec M s s (Nat.le_refl _)).2.2 t (by omega) h he
theorem cr_of_eqv {M : Tab} {s t : Nat} (h : Eqv M s t) : cr M s = cr M t := by
  have h1 := cr_eqv M s
  have h2 := cr_eqv M t
  have l1 := cr_le M s
  have l2 := cr_le M t
  apply Nat.le_antisymm
  · by_cases hh : cr M t ≤ s
    · exact cr_min M s _ hh (h2.trans h.symm)
    · omega
  · by_cases hh : cr M s ≤ t
    · exact cr_min M t _ hh (h1.trans h)
    · omega
theorem eqv_of_cr {M : Tab} {s t : Nat} (h : cr M s = cr M t) : Eqv M s t := by
  have h1 := cr_eqv M s
  rw [h] at h1
  exact h1.symm.trans (cr_eqv M t)
theorem cr_cr (M : Tab) (s : Nat) : cr M (cr M s) = cr M s := cr_of_eqv (cr_eqv M s)
noncomputable def crS (M : Tab) (q c : Nat) : Nat := cr M (M.nxt q c)
/-- The table of the classes. -/
noncomputable def quotTab (M : Tab) (ps : List Nat) : Tab where
  n := ps.length
  acc k := M.acc (ps.getD k 0)
  nxt := pn (crS M) ps
def goodC (M : Tab) (q : Nat) : Prop := q < M.n ∧ cr M q = q
theorem quot_numbered {M : Tab} {ps : List Nat} (h : PRel (goodC M) (crS M) ps (8 * ps.length)) : Numbered (quotTab M ps) where
  pos := h.len
  nx i c hi hc := by
    have := (h.clo (8 * i + c) (by have : i < ps.length := hi; omega)).2
    rw [show (8 * i + c) / 8 = i by omega, show (8 * i + c) % 8 = c by omega] at this
    exact List.idxOf_lt_length_of_mem this
  step p hp := h.num p hp
  row i hi := h.row i (by have : i < ps.length := hi; omega)
  all := h.cm
theorem quot_read {M : Tab} {ps : List Nat} (h : PRel (goodC M) (crS M) ps (8 * ps.length)) (k : Nat) (hk : k < ps.length) (x : List Nat) (hx : Notes x) :
    (quotTab M ps).read k x < ps.length ∧ Eqv M (ps.getD ((quotTab M ps).read k x) 0) (M.read (ps.getD k 0) x) := by
  induction x generalizing k with
  | nil => exact ⟨hk, Eqv.refl _ _⟩
  | cons c x ih =>
    have hc : c < 8 := hx c (by simp)
    have hx' : Notes x := fun d hd => hx d (by simp [hd])
    have hcl := (h.clo (8 * k + c) (by omega)).2
    rw [show (8 * k + c) / 8 = k by omega, show (8 * k + c) % 8 = c by omega] at hcl
    have hlt : (quotTab M ps).nxt k c < ps.length := List.idxOf_lt_length_of_mem hcl
    have he : ps.getD ((quotTab M ps).nxt k c) 0 = crS M (ps.getD k 0) c := getD_idxOf ps _ hcl
    simp only [Tab.read, List.foldl_cons]
    have := ih _ hlt hx'
    rw [he] at this
    refine ⟨this.1, this.2.trans ?_⟩
    intro y hy
    have hq : Eqv M (crS M (ps.getD k 0) c) (M.nxt (ps.getD k 0) c) := cr_eqv M _
    have := hq (x ++ y) (by
      intro d hd
      simp only [List.mem_append] at hd
      rcases hd with hd | hd
      · exact hx' d hd
      · exact hy d hd)
    rw [Tab.read_append, Tab.read_append] at this
    exact this
theorem quot_least {M : Tab} {ps : List Nat} (h : PRel (goodC M) (crS M) ps (8 * ps.length)) : IsLeast (quotTab M ps) M.accepts where
  num := quot_numbered h
  apart i j hi hj hij := by
    have hi' : i < ps.length := hi
    have hj' : j < ps.length := hj
    have g1 := h.inr _ (getD_mem ps i hi')
    have g2 := h.inr _ (getD_mem ps j hj')
    have hne : ps.getD i 0 ≠ ps.getD j 0 := by
      intro e
      apply hij
      have hnd := h.nd
      rw [List.Nodup, List.pairwise_iff_getElem] at hnd
      rw [List.getD_eq_getElem?_getD, List.getElem?_eq_getElem hi', List.getD_eq_getElem?_getD, List.getElem?_eq_getElem hj'] at e
      simp only [Option.getD_some] at e
      rcases Nat.lt_trichotomy i j with hlt | heq | hlt
      · exact absurd e (hnd i j hi' hj' hlt)
      · exact heq
      · exact absurd e.symm (hnd j i hj' hi' hlt)
    have hap : ¬ Eqv M (ps.getD i 0) (ps.getD j 0) := by
      intro e
      have := cr_of_eqv e
      rw [g1.2, g2.2] at this
      exact hne this
    apply Classical.byContradiction
    intro hn
    apply hap
    intro x hx
    have r1 := (quot_read h i hi' x hx).2.acc
    have r2 := (quot_read h j hj' x hx).2.acc
    rw [← r1, ← r2]
    apply Classical.byContradiction
    intro hd
    exact hn ⟨x, hx, hd⟩
  lang x hx := by
    have := (quot_read h 0 h.len x hx).2.acc
    rw [h.hd] at this
    exact this


theorem idxOf_le_at : ∀ (l : List Nat) (a k : Nat) (h : k < l.length), l[k] = a → l.idxOf a ≤ k := by
  intro l
  induction l with
  | nil => intro a k h; simp at h
  | cons x l ih =>
    intro a k h e
    rw [List.idxOf_cons]
    by_cases hx : x = a
    · simp [hx]
    · cases k with
      | zero => exact absurd e hx
      | succ k =>
        have := ih a k (by simpa using h) (by simpa using e)
        have hb : (x == a) = false := by simp [hx]
        rw [hb]
        simpa using this
theorem crmap_getD (M : Tab) (fs : List Nat) (k : Nat) (h : k < fs.length) : (fs.map (cr M)).getD k 0 = cr M (fs.getD k 0) := by
  simp [List.getD_eq_getElem?_getD, h]
theorem crS_map (M : Tab) (fs : List Nat) (k c : Nat) (h : k < fs.length) (hc : c < 8) : crS M ((fs.map (cr M)).getD k 0) c = cr M (M.nxt (fs.getD k 0) c) := by
  rw [crmap_getD M fs k h]
  exact cr_of_eqv ((cr_eqv M _).nxt c hc)
/-- What place tells of the classes. -/
theorem place_mem {M : Tab} {fs : List Nat} {D : Nat → Nat → Bool} {s : Nat} (hD : ∀ x y, x < M.n → y < M.n → (D x y = true ↔ Apart M x y)) (hfs : ∀ i, i < fs.length → fs.getD i 0 < M.n) (hs : s < M.n) :
    (∀ k, k < fs.length → D (fs.getD k 0) s = false → (∀ j, j < k → D (fs.getD j 0) s = true) → cr M s ∈ fs.map (cr M) ∧ (fs.map (cr M)).idxOf (cr M s) = k) ∧
    ((∀ j, j < fs.length → D (fs.getD j 0) s = true) → cr M s ∉ fs.map (cr M)) := by
  have hiff : ∀ j, j < fs.length → (D (fs.getD j 0) s = false ↔ (fs.map (cr M)).getD j 0 = cr M s) := by
    intro j hj
    rw [crmap_getD M fs j hj]
    have h1 := hD _ _ (hfs j hj) hs
    constructor
    · intro hd
      apply cr_of_eqv
      rw [eqv_iff]
      intro ha
      rw [h1.2 ha] at hd; cases hd
    · intro he
      have := eqv_iff.1 (eqv_of_cr he)
      cases hd : D (fs.getD j 0) s with
      | false => rfl
      | true => exact absurd (h1.1 hd) this
  refine ⟨fun k hk hd hno => ?_, fun hno hmem => ?_⟩
  · have hk' : k < (fs.map (cr M)).length := by simpa using hk
    have hg := (hiff k hk).1 hd
    have hge : (fs.map (cr M))[k] = cr M s := by
      rw [List.getD_eq_getElem?_getD, List.getElem?_eq_getElem hk'] at hg; simpa using hg
    have hmem : cr M s ∈ fs.map (cr M) := by rw [← hge]; exact List.getElem_mem hk'
    refine ⟨hmem, ?_⟩
    have hil := List.idxOf_lt_length_of_mem hmem
    have hix := getD_idxOf (fs.map (cr M)) (cr M s) hmem
    apply Nat.le_antisymm
    · apply Nat.le_of_not_lt
      intro hlt
      have : List.idxOf (cr M s) (fs.map (cr M)) ≤ k := by
        exact idxOf_le_at _ _ k hk' hge
      omega
    · apply Nat.le_of_not_lt
      intro hlt
      have h2 := hno _ hlt
      have h3 := (hiff _ (by simpa using hil)).2 hix
      rw [h2] at h3; cases h3
  · obtain ⟨j, hj, he⟩ := mem_getD hmem
    have hj' : j < fs.length := by simpa using hj
    have := (hiff j hj').2 he
    rw [hno j hj'] at this; cases this
end Go.Proofs.YtpngikmcjkjdaaaGreatDoor
