import Derived.Test.YtpngikmcjkjdaabFind
namespace Go.Proofs.Ytpngikmcjkjdaab
set_option linter.unusedVariables false

/-- f parts the numbers below n into classes, numbered in the order of their least members, which hs lists. -/
structure Cls (n : Nat) (f : Nat → Nat) (hs : List Nat) : Prop where
  lt : ∀ i, i < n → f i < hs.length
  le : ∀ i, i < n → hs.getD (f i) 0 ≤ i
  hd : ∀ c, c < hs.length → hs.getD c 0 < n ∧ f (hs.getD c 0) = c
  inc : hs.Pairwise (· < ·)

theorem alikeB_refl (M : Tab) (f : Nat → Nat) (i : Nat) : alikeB M f i i = true := by rw [alikeB_iff]; exact ⟨rfl, fun _ _ => rfl⟩
theorem alikeB_symm {M : Tab} {f : Nat → Nat} {i j : Nat} (h : alikeB M f i j = true) : alikeB M f j i = true := by
  rw [alikeB_iff] at h ⊢; exact ⟨h.1.symm, fun c hc => (h.2 c hc).symm⟩
theorem alikeB_trans {M : Tab} {f : Nat → Nat} {i j k : Nat} (h : alikeB M f i j = true) (h' : alikeB M f j k = true) : alikeB M f i k = true := by
  rw [alikeB_iff] at h h' ⊢; exact ⟨h.1.trans h'.1, fun c hc => (h.2 c hc).trans (h'.2 c hc)⟩

/-- Behind s states of a split. -/
structure SplitRel (M : Tab) (f : Nat → Nat) (s : Nat) (os hs : List Nat) : Prop where
  len : os.length = s
  cls : Cls s (fun i => os.getD i 0) hs
  yes : ∀ i, i < s → alikeB M f (hs.getD (os.getD i 0) 0) i = true
  no : ∀ i c, i < s → c < os.getD i 0 → alikeB M f (hs.getD c 0) i = false

theorem SplitRel.nil (M : Tab) (f : Nat → Nat) : SplitRel M f 0 [] [] := by
  refine ⟨rfl, ⟨?_, ?_, ?_, by simp⟩, ?_, ?_⟩ <;> intros <;> first | omega | simp_all

theorem getD_snoc_lt (l : List Nat) (x i : Nat) (h : i < l.length) : (l ++ [x]).getD i 0 = l.getD i 0 := by
  simp [List.getD_eq_getElem?_getD, List.getElem?_append_left h]
theorem getD_snoc_eq (l : List Nat) (x : Nat) : (l ++ [x]).getD l.length 0 = x := by
  simp [List.getD_eq_getElem?_getD]

theorem SplitRel.old {M : Tab} {f : Nat → Nat} {s : Nat} {os hs : List Nat} (h : SplitRel M f s os hs) (r : Nat) (hr : r < hs.length) (hy : alikeB M f (hs.getD r 0) s = true) (hn : ∀ c, c < r → alikeB M f (hs.getD c 0) s = false) :
    SplitRel M f (s + 1) (os ++ [r]) hs := by
  have hl := h.len
  have e1 : ∀ i, i < s → (os ++ [r]).getD i 0 = os.getD i 0 := fun i hi => getD_snoc_lt os r i (by omega)
  have e2 : (os ++ [r]).getD s 0 = r := by rw [← hl]; exact getD_snoc_eq os r
  refine ⟨by simp [hl], ⟨?_, ?_, ?_, h.cls.inc⟩, ?_, ?_⟩
  · intro i hi
    show (os ++ [r]).getD i 0 < _
    by_cases e : i = s
    · subst e; rw [e2]; exact hr
    · rw [e1 i (by omega)]; exact h.cls.lt i (by omega)
  · intro i hi
    show hs.getD ((os ++ [r]).getD i 0) 0 ≤ i
    by_cases e : i = s
    · subst e; rw [e2]; have := (h.cls.hd r hr).1; omega
    · rw [e1 i (by omega)]; exact h.cls.le i (by omega)
  · intro c hc
    have := h.cls.hd c hc
    refine ⟨by omega, ?_⟩
    show (os ++ [r]).getD (hs.getD c 0) 0 = c
    rw [e1 _ this.1]; exact this.2
  · intro i hi
    by_cases e : i = s
    · subst e; rw [e2]; exact hy
    · rw [e1 i (by omega)]; exact h.yes i (by omega)
  · intro i c hi hc
    by_cases e : i = s
    · subst e; rw [e2] at hc; exact hn c hc
    · rw [e1 i (by omega)] at hc; exact h.no i c (by omega) hc

theorem SplitRel.new {M : Tab} {f : Nat → Nat} {s : Nat} {os hs : List Nat} (h : SplitRel M f s os hs) (hn : ∀ c, c < hs.length → alikeB M f (hs.getD c 0) s = false) :
    SplitRel M f (s + 1) (os ++ [hs.length]) (hs ++ [s]) := by
  have hl := h.len
  have e1 : ∀ i, i < s → (os ++ [hs.length]).getD i 0 = os.getD i 0 := fun i hi => getD_snoc_lt os _ i (by omega)
  have e2 : (os ++ [hs.length]).getD s 0 = hs.length := by rw [← hl]; exact getD_snoc_eq os _
  have e3 : ∀ c, c < hs.length → (hs ++ [s]).getD c 0 = hs.getD c 0 := fun c hc => getD_snoc_lt hs s c hc
  have e4 : (hs ++ [s]).getD hs.length 0 = s := getD_snoc_eq hs s
  refine ⟨by simp [hl], ⟨?_, ?_, ?_, ?_⟩, ?_, ?_⟩
  · intro i hi
    show (os ++ [hs.length]).getD i 0 < _
    by_cases e : i = s
    · subst e; rw [e2]; simp
    · rw [e1 i (by omega), List.length_append]; have : os.getD i 0 < hs.length := h.cls.lt i (by omega); simp only [List.length_singleton]; omega
  · intro i hi
    show (hs ++ [s]).getD ((os ++ [hs.length]).getD i 0) 0 ≤ i
    by_cases e : i = s
    · subst e; rw [e2, e4]; exact Nat.le_refl _
    · rw [e1 i (by omega), e3 _ (h.cls.lt i (by omega))]; exact h.cls.le i (by omega)
  · intro c hc
    by_cases e : c = hs.length
    · subst e; rw [e4]; exact ⟨by omega, e2⟩
    · have hc' : c < hs.length := by simp at hc; omega
      have := h.cls.hd c hc'
      rw [e3 c hc']
      exact ⟨by omega, (e1 _ this.1).trans this.2⟩
  · rw [List.pairwise_append]
    refine ⟨h.cls.inc, by simp, ?_⟩
    intro a ha b hb
    simp at hb
    subst hb
    obtain ⟨c, hc, rfl⟩ := List.getElem_of_mem ha
    have := (h.cls.hd c hc).1
    rw [List.getD_eq_getElem?_getD, List.getElem?_eq_getElem hc] at this
    exact this
  · intro i hi
    by_cases e : i = s
    · subst e; rw [e2, e4]; exact alikeB_refl M f i
    · rw [e1 i (by omega), e3 _ (h.cls.lt i (by omega))]; exact h.yes i (by omega)
  · intro i c hi hc
    by_cases e : i = s
    · subst e; rw [e2] at hc; rw [e3 c hc]; exact hn c hc
    · rw [e1 i (by omega)] at hc; rw [e3 c (by have := h.cls.lt i (by omega); omega)]; exact h.no i c (by omega) hc

/-- Two states are in one class where they are alike. -/
theorem SplitRel.same {M : Tab} {f : Nat → Nat} {s : Nat} {os hs : List Nat} (h : SplitRel M f s os hs) (i j : Nat) (hi : i < s) (hj : j < s) : os.getD i 0 = os.getD j 0 ↔ alikeB M f i j = true := by
  constructor
  · intro e
    have h1 := h.yes i hi
    have h2 := h.yes j hj
    rw [e] at h1
    exact alikeB_trans (alikeB_symm h1) h2
  · intro e
    rcases Nat.lt_trichotomy (os.getD i 0) (os.getD j 0) with hlt | heq | hgt
    · have := h.no j _ hj hlt
      rw [alikeB_trans (h.yes i hi) e] at this; cases this
    · exact heq
    · have := h.no i _ hi hgt
      rw [alikeB_trans (h.yes j hj) (alikeB_symm e)] at this; cases this

theorem SplitRel.heads {M : Tab} {f : Nat → Nat} {s : Nat} {os hs : List Nat} (h : SplitRel M f s os hs) (c d : Nat) (hcd : c < d) (hd : d < hs.length) : alikeB M f (hs.getD c 0) (hs.getD d 0) = false := by
  have := h.cls.hd d hd
  exact h.no _ c this.1 (by rw [this.2]; exact hcd)
end Go.Proofs.Ytpngikmcjkjdaab
