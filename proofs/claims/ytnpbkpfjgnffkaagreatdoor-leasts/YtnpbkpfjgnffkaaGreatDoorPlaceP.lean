import Derived.Test.YtnpbkpfjgnffkaaGreatDoorQuotP
namespace Go.Proofs.YtnpbkpfjgnffkaaGreatDoor
set_option linter.unusedVariables false

theorem idxOf_le_at : ∀ (l : List Nat) (a k : Nat) (h : k < l.length), l[k] = a → l.idxOf a ≤ k := by
  intro l
  induction l with
  | nil => intro a k h; simp at h
  | cons x l ih =>
    intro a k h e
    rw [List.idxOf_cons]
    by_cases hx : x = a
    · simp [hx]
    · cases k with
      | zero => exact absurd e hx
      | succ k =>
        have := ih a k (by simpa using h) (by simpa using e)
        have hb : (x == a) = false := by simp [hx]
        rw [hb]
        simpa using this
theorem crmap_getD (M : Tab) (fs : List Nat) (k : Nat) (h : k < fs.length) : (fs.map (cr M)).getD k 0 = cr M (fs.getD k 0) := by
  simp [List.getD_eq_getElem?_getD, h]
theorem crS_map (M : Tab) (fs : List Nat) (k c : Nat) (h : k < fs.length) (hc : c < 8) : crS M ((fs.map (cr M)).getD k 0) c = cr M (M.nxt (fs.getD k 0) c) := by
  rw [crmap_getD M fs k h]
  exact cr_of_eqv ((cr_eqv M _).nxt c hc)
/-- What place tells of the classes. -/
theorem place_mem {M : Tab} {fs : List Nat} {D : Nat → Nat → Bool} {s : Nat} (hD : ∀ x y, x < M.n → y < M.n → (D x y = true ↔ Apart M x y)) (hfs : ∀ i, i < fs.length → fs.getD i 0 < M.n) (hs : s < M.n) :
    (∀ k, k < fs.length → D (fs.getD k 0) s = false → (∀ j, j < k → D (fs.getD j 0) s = true) → cr M s ∈ fs.map (cr M) ∧ (fs.map (cr M)).idxOf (cr M s) = k) ∧
    ((∀ j, j < fs.length → D (fs.getD j 0) s = true) → cr M s ∉ fs.map (cr M)) := by
  have hiff : ∀ j, j < fs.length → (D (fs.getD j 0) s = false ↔ (fs.map (cr M)).getD j 0 = cr M s) := by
    intro j hj
    rw [crmap_getD M fs j hj]
    have h1 := hD _ _ (hfs j hj) hs
    constructor
    · intro hd
      apply cr_of_eqv
      rw [eqv_iff]
      intro ha
      rw [h1.2 ha] at hd; cases hd
    · intro he
      have := eqv_iff.1 (eqv_of_cr he)
      cases hd : D (fs.getD j 0) s with
      | false => rfl
      | true => exact absurd (h1.1 hd) this
  refine ⟨fun k hk hd hno => ?_, fun hno hmem => ?_⟩
  · have hk' : k < (fs.map (cr M)).length := by simpa using hk
    have hg := (hiff k hk).1 hd
    have hge : (fs.map (cr M))[k] = cr M s := by
      rw [List.getD_eq_getElem?_getD, List.getElem?_eq_getElem hk'] at hg; simpa using hg
    have hmem : cr M s ∈ fs.map (cr M) := by rw [← hge]; exact List.getElem_mem hk'
    refine ⟨hmem, ?_⟩
    have hil := List.idxOf_lt_length_of_mem hmem
    have hix := getD_idxOf (fs.map (cr M)) (cr M s) hmem
    apply Nat.le_antisymm
    · apply Nat.le_of_not_lt
      intro hlt
      have : List.idxOf (cr M s) (fs.map (cr M)) ≤ k := by
        exact idxOf_le_at _ _ k hk' hge
      omega
    · apply Nat.le_of_not_lt
      intro hlt
      have h2 := hno _ hlt
      have h3 := (hiff _ (by simpa using hil)).2 hix
      rw [h2] at h3; cases h3
  · obtain ⟨j, hj, he⟩ := mem_getD hmem
    have hj' : j < fs.length := by simpa using hj
    have := (hiff j hj').2 he
    rw [hno j hj'] at this; cases this
end Go.Proofs.YtnpbkpfjgnffkaaGreatDoor
