import Derived.Test.YtpngikmcjkjdaabKnotB
namespace Go.Proofs.Ytpngikmcjkjdaab
open Go.RowKit
set_option linter.unusedVariables false
set_option linter.unusedSimpArgs false

theorem SameT.drop {L1 L2 : List ByteArray} {t : Nat → ByteArray} {n p : Nat} {x : ByteArray} (h : SameT (L1 ++ x :: L2) t n) (hp : IsPl t n x p) : (p < n ∧ t p = x) ∧ SameT (L1 ++ L2) (del t p) (n - 1) := by
  have hx : x ∈ L1 ++ x :: L2 := by simp
  have hst : p < n ∧ t p = x := (hp.stands h.srt).1 ((h.mem x).1 hx)
  have hnd := h.nd
  have hxn : x ∉ L1 ++ L2 := by
    have := (List.perm_middle (a := x) (l₁ := L1) (l₂ := L2)).nodup_iff.1 hnd
    exact (List.nodup_cons.1 this).1
  have hmem : ∀ s, s ∈ L1 ++ x :: L2 ↔ s = x ∨ s ∈ L1 ++ L2 := fun s => by simp only [List.mem_append, List.mem_cons]; constructor <;> (rintro (h | h | h) <;> simp [h])
  refine ⟨hst, del_srt h.srt hst.1, by have := h.len; simp at this ⊢; omega, fun s => ?_, fun s hs => h.tun s ((hmem s).2 (.inr hs)), ?_⟩
  · constructor
    · intro hs
      obtain ⟨j, hj, e⟩ := (h.mem s).1 ((hmem s).2 (.inr hs))
      have hne : j ≠ p := by
        rintro rfl
        rw [hst.2] at e
        subst e
        exact hxn hs
      by_cases hjp : j < p
      · exact ⟨j, by omega, by unfold del; rw [if_pos hjp]; exact e⟩
      · exact ⟨j - 1, by omega, by unfold del; rw [if_neg (by omega), Nat.sub_add_cancel (by omega)]; exact e⟩
    · rintro ⟨j, hj, e⟩
      unfold del at e
      by_cases hjp : j < p
      · rw [if_pos hjp] at e
        have := (hmem s).1 ((h.mem s).2 ⟨j, by omega, e⟩)
        rcases this with rfl | hs
        · exact absurd (e.trans hst.2.symm) (less_ne (h.srt j p hjp hst.1))
        · exact hs
      · rw [if_neg hjp] at e
        have := (hmem s).1 ((h.mem s).2 ⟨j + 1, by omega, e⟩)
        rcases this with rfl | hs
        · exact absurd (hst.2.trans e.symm) (less_ne (h.srt p (j + 1) (by omega) (by omega)))
        · exact hs
  · have := (List.perm_middle (a := x) (l₁ := L1) (l₂ := L2)).nodup_iff.1 hnd
    exact (List.nodup_cons.1 this).2
/-- What the first i texts, each with those ahead of it and itself, begin with alike; of the i-th the first k. -/
def WantM (L : List ByteArray) (i k : Nat) (s : ByteArray) : Prop := s = ByteArray.empty ∨ ∃ a b x y, L[a]? = some x ∧ L[b]? = some y ∧ b ≤ a ∧ (a < i ∨ (a = i ∧ b < k)) ∧ s = begins x y
theorem wantM_all {L : List ByteArray} {t : Nat → ByteArray} {n : Nat} (h : SameT L t n) (s : ByteArray) : WantM L L.length 0 s ↔ s ∈ knots t n n := by
  rw [mem_knots_iff h.srt]
  constructor
  · rintro (h' | ⟨a, b, x, y, ha, hb, _, _, rfl⟩)
    · exact .inl h'
    · right
      obtain ⟨j, hj, rfl⟩ := (h.mem x).1 (List.mem_of_getElem? ha)
      obtain ⟨k, hk, rfl⟩ := (h.mem y).1 (List.mem_of_getElem? hb)
      by_cases hjk : j ≤ k
      · exact ⟨j, k, hjk, hk, rfl⟩
      · exact ⟨k, j, by omega, hj, begins_comm _ _⟩
  · rintro (h' | ⟨j, k, hjk, hk, rfl⟩)
    · exact .inl h'
    · right
      obtain ⟨a, ha⟩ := List.mem_iff_getElem?.1 ((h.mem (t j)).2 ⟨j, by omega, rfl⟩)
      obtain ⟨b, hb⟩ := List.mem_iff_getElem?.1 ((h.mem (t k)).2 ⟨k, hk, rfl⟩)
      have la := (List.getElem?_eq_some_iff.1 ha).1
      have lb := (List.getElem?_eq_some_iff.1 hb).1
      by_cases hba : b ≤ a
      · exact ⟨a, b, _, _, ha, hb, hba, .inl la, rfl⟩
      · exact ⟨b, a, _, _, hb, ha, by omega, .inl lb, begins_comm _ _⟩
theorem wantM_step {L : List ByteArray} {i k : Nat} {x y : ByteArray} (hx : L[i]? = some x) (hy : L[k]? = some y) (hk : k ≤ i) (s : ByteArray) : WantM L i (k + 1) s ↔ WantM L i k s ∨ s = begins x y := by
  constructor
  · rintro (h | ⟨a, b, x', y', ha, hb, hba, hc, rfl⟩)
    · exact .inl (.inl h)
    · by_cases e : a = i ∧ b = k
      · obtain ⟨rfl, rfl⟩ := e
        rw [hx] at ha; rw [hy] at hb
        injection ha with ha; injection hb with hb
        subst ha; subst hb
        exact .inr rfl
      · exact .inl (.inr ⟨a, b, x', y', ha, hb, hba, by omega, rfl⟩)
  · rintro ((h | ⟨a, b, x', y', ha, hb, hba, hc, rfl⟩) | rfl)
    · exact .inl h
    · exact .inr ⟨a, b, x', y', ha, hb, hba, by omega, rfl⟩
    · exact .inr ⟨i, k, x, y, hx, hy, hk, .inr ⟨rfl, by omega⟩, rfl⟩
theorem wantM_next {L : List ByteArray} {i : Nat} (s : ByteArray) : WantM L (i + 1) 0 s ↔ WantM L i (i + 1) s := by
  constructor
  · rintro (h | ⟨a, b, x', y', ha, hb, hba, hc, rfl⟩)
    · exact .inl h
    · exact .inr ⟨a, b, x', y', ha, hb, hba, by omega, rfl⟩
  · rintro (h | ⟨a, b, x', y', ha, hb, hba, hc, rfl⟩)
    · exact .inl h
    · exact .inr ⟨a, b, x', y', ha, hb, hba, by omega, rfl⟩
/-- Each text once. -/
theorem once_add {W O : List ByteArray} {i : Nat} (hi : i < W.length) (hW : LeS W) (hO : O.Pairwise (fun a b => less a b = true)) (hm : ∀ s, s ∈ O ↔ s ∈ W.take i) (hd : i = 0 ∨ W[i - 1]? ≠ some W[i]) :
    (O ++ [W[i]]).Pairwise (fun a b => less a b = true) ∧ ∀ s, s ∈ O ++ [W[i]] ↔ s ∈ W.take (i + 1) := by
  have ht : W.take (i + 1) = W.take i ++ [W[i]] := by rw [List.take_add_one, List.getElem?_eq_getElem hi]; rfl
  refine ⟨?_, fun s => by rw [ht, List.mem_append, List.mem_append, hm]⟩
  rw [List.pairwise_append]
  refine ⟨hO, by simp, fun a ha b hb => ?_⟩
  rw [List.mem_singleton] at hb
  subst hb
  obtain ⟨j, hj, rfl⟩ := List.getElem_of_mem ((hm a).1 ha)
  rw [List.length_take] at hj
  rw [List.getElem_take]
  have hle := List.pairwise_iff_getElem.1 hW
  have hi0 : i ≠ 0 := by omega
  have h1 := hle (i - 1) i (by omega) hi (by omega)
  have hne : W[i - 1]'(by omega) ≠ W[i] := fun e => by
    rcases hd with h | h
    · exact hi0 h
    · exact h (by rw [List.getElem?_eq_getElem (by omega), e])
  have hlt : less (W[i - 1]'(by omega)) W[i] = true := less_tri h1 (fun e => hne e.symm)
  by_cases e : j = i - 1
  · subst e; exact hlt
  · have h2 := hle j (i - 1) (by omega) (by omega) (by omega)
    by_cases e2 : W[j]'(by omega) = W[i - 1]'(by omega)
    · rw [e2]; exact hlt
    · exact less_trans (less_tri h2 (fun e' => e2 e'.symm)) hlt
theorem once_skip {W O : List ByteArray} {i : Nat} (hi : i < W.length) (hm : ∀ s, s ∈ O ↔ s ∈ W.take i) (h0 : i ≠ 0) (he : W[i - 1]? = some W[i]) : ∀ s, s ∈ O ↔ s ∈ W.take (i + 1) := by
  intro s
  have ht : W.take (i + 1) = W.take i ++ [W[i]] := by rw [List.take_add_one, List.getElem?_eq_getElem hi]; rfl
  rw [ht, List.mem_append, hm]
  constructor
  · exact .inl
  · rintro (h | h)
    · exact h
    · rw [List.mem_singleton] at h
      subst h
      refine List.mem_of_getElem? (i := i - 1) ?_
      rw [List.getElem?_take, if_pos (by omega)]
      exact he
end Go.Proofs.Ytpngikmcjkjdaab
