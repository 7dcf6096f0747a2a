import Derived.Test.YtpngikmcjkjdaaaGreatDoorPairP
namespace Go.Proofs.YtpngikmcjkjdaaaGreatDoor
set_option linter.unusedVariables false

/-- Ahead, of two texts that are of one length. -/
def lexlt : List Nat → List Nat → Prop
  | x :: a, y :: b => x < y ∨ (x = y ∧ lexlt a b)
  | _, _ => False
/-- Shorter, or as long and ahead. -/
def sl (a b : List Nat) : Prop := a.length < b.length ∨ (a.length = b.length ∧ lexlt a b)
def sle (a b : List Nat) : Prop := a = b ∨ sl a b

theorem lexlt_trans : ∀ {a b c : List Nat}, lexlt a b → lexlt b c → lexlt a c
  | [], _, _, h, _ => by cases h
  | _ :: _, [], _, h, _ => by cases h
  | _ :: _, _ :: _, [], _, h => by cases h
  | x :: a, y :: b, z :: c, h, h' => by
    simp only [lexlt] at h h' ⊢
    rcases h with h | ⟨rfl, h⟩
    · rcases h' with h' | ⟨rfl, h'⟩
      · left; omega
      · left; exact h
    · rcases h' with h' | ⟨rfl, h'⟩
      · left; exact h'
      · exact .inr ⟨rfl, lexlt_trans h h'⟩
theorem sl_trans {a b c : List Nat} (h : sl a b) (h' : sl b c) : sl a c := by
  rcases h with h | ⟨e, h⟩
  · rcases h' with h' | ⟨e', h'⟩
    · left; omega
    · left; omega
  · rcases h' with h' | ⟨e', h'⟩
    · left; omega
    · exact .inr ⟨by omega, lexlt_trans h h'⟩
theorem lexlt_irrefl : ∀ a : List Nat, ¬ lexlt a a
  | [], h => h
  | x :: a, h => by
    simp only [lexlt] at h
    rcases h with h | ⟨_, h⟩
    · omega
    · exact lexlt_irrefl a h
theorem sl_irrefl (a : List Nat) : ¬ sl a a := by
  rintro (h | ⟨_, h⟩)
  · omega
  · exact lexlt_irrefl a h
theorem sle_trans {a b c : List Nat} (h : sle a b) (h' : sle b c) : sle a c := by
  rcases h with rfl | h
  · exact h'
  · rcases h' with rfl | h'
    · exact .inr h
    · exact .inr (sl_trans h h')
theorem lexlt_app : ∀ {a b : List Nat} (c d : Nat), a.length = b.length → lexlt a b → lexlt (a ++ [c]) (b ++ [d])
  | [], _, _, _, _, h => by cases h
  | _ :: _, [], _, _, _, h => by cases h
  | x :: a, y :: b, c, d, hl, h => by
    simp only [lexlt, List.cons_append] at h ⊢
    rcases h with h | ⟨rfl, h⟩
    · exact .inl h
    · exact .inr ⟨rfl, lexlt_app c d (by simpa using hl) h⟩
theorem lexlt_last : ∀ (a : List Nat) (c d : Nat), c < d → lexlt (a ++ [c]) (a ++ [d])
  | [], c, d, h => .inl h
  | x :: a, c, d, h => .inr ⟨rfl, lexlt_last a c d h⟩
theorem sl_app {a b : List Nat} (c d : Nat) (h : sl a b) : sl (a ++ [c]) (b ++ [d]) := by
  rcases h with h | ⟨e, h⟩
  · left; simp; exact h
  · exact .inr ⟨by simp [e], lexlt_app c d e h⟩
theorem sl_last (a : List Nat) (c d : Nat) (h : c < d) : sl (a ++ [c]) (a ++ [d]) := .inr ⟨by simp, lexlt_last a c d h⟩
theorem sle_app {a b : List Nat} (c d : Nat) (h : sle a b) (hcd : c ≤ d) : sle (a ++ [c]) (b ++ [d]) := by
  rcases h with rfl | h
  · by_cases e : c = d
    · subst e; exact .inl rfl
    · exact .inr (sl_last a c d (by omega))
  · exact .inr (sl_app c d h)
theorem sl_snoc (a : List Nat) (c : Nat) : sl a (a ++ [c]) := .inl (by simp)

/-- The queue: beside each state the text on which it was come to. -/
structure QRel (M : Tab) (ps : List Nat) (tx : List (List Nat)) (p : Nat) : Prop where
  rel : PRel (fun q => q < M.n) M.nxt ps p
  len : tx.length = ps.length
  t0 : tx.getD 0 [] = []
  rd : ∀ j, j < ps.length → Notes (tx.getD j []) ∧ M.read 0 (tx.getD j []) = ps.getD j 0 ∧ (tx.getD j []).length ≤ j
  inc : ∀ i j, i < j → j < ps.length → sl (tx.getD i []) (tx.getD j [])
  /- a place that has been looked at: its state has a text that is not behind this one -/
  low : ∀ r, r < p → sle (tx.getD (pn M.nxt ps (r / 8) (r % 8)) []) (tx.getD (r / 8) [] ++ [r % 8])
  /- the last texts come from the places looked at -/
  org : ∀ j, 0 < j → j < ps.length → ∃ r, r < p ∧ tx.getD j [] = tx.getD (r / 8) [] ++ [r % 8] ∧ r / 8 < ps.length

theorem tgetD_app (l : List (List Nat)) (x : List Nat) (i : Nat) (h : i < l.length) : (l ++ [x]).getD i [] = l.getD i [] := by
  simp [List.getD_eq_getElem?_getD, List.getElem?_append_left h]
theorem tgetD_new (l : List (List Nat)) (x : List Nat) : (l ++ [x]).getD l.length [] = x := by
  simp [List.getD_eq_getElem?_getD]

theorem QRel.start {M : Tab} (hM : M.Ok) : QRel M [0] [[]] 0 := by
  refine ⟨PRel.start hM.lo, rfl, rfl, ?_, ?_, fun r hr => absurd hr (by omega), ?_⟩
  · intro j hj
    have : j = 0 := by simp at hj; omega
    subst this; exact ⟨by intro c hc; simp at hc, rfl, by simp⟩
  · intro i j hij hj; simp at hj; omega
  · intro j h0 hj; simp at hj; omega

/-- The text of the last state stands ahead of what may come now. -/
theorem QRel.ahead {M : Tab} {ps : List Nat} {tx : List (List Nat)} {p : Nat} (h : QRel M ps tx p) (hk : p / 8 < ps.length) (j : Nat) (hj : j < ps.length) : sl (tx.getD j []) (tx.getD (p / 8) [] ++ [p % 8]) := by
  by_cases h0 : j = 0
  · subst h0; rw [h.t0]; left; simp
  · obtain ⟨r, hr, e, hr8⟩ := h.org j (by omega) hj
    rw [e]
    by_cases e8 : r / 8 = p / 8
    · rw [e8]; exact sl_last _ _ _ (by omega)
    · exact sl_app _ _ (h.inc _ _ (by omega) hk)

theorem QRel.old {M : Tab} {ps : List Nat} {tx : List (List Nat)} {p : Nat} (h : QRel M ps tx p) (hk : p / 8 < ps.length) (hq : M.nxt (ps.getD (p / 8) 0) (p % 8) ∈ ps) : QRel M ps tx (p + 1) where
  rel := h.rel.old hk hq
  len := h.len
  t0 := h.t0
  rd := h.rd
  inc := h.inc
  low r hr := by
    by_cases e : r = p
    · subst e; exact .inr (h.ahead hk _ (List.idxOf_lt_length_of_mem hq))
    · exact h.low r (by omega)
  org j h0 hj := by
    obtain ⟨r, hr, e⟩ := h.org j h0 hj
    exact ⟨r, by omega, e⟩

theorem QRel.new {M : Tab} (hM : M.Ok) {ps : List Nat} {tx : List (List Nat)} {p : Nat} (h : QRel M ps tx p) (hk : p / 8 < ps.length) (hq : M.nxt (ps.getD (p / 8) 0) (p % 8) ∉ ps) :
    QRel M (ps ++ [M.nxt (ps.getD (p / 8) 0) (p % 8)]) (tx ++ [tx.getD (p / 8) [] ++ [p % 8]]) (p + 1) := by
  have hl := h.len
  have hpk := h.rel.inr _ (getD_mem ps _ hk)
  have hrd := h.rd _ hk
  have hgood := hM.nx _ _ hpk (show p % 8 < 8 by omega)
  have hst : ∀ r, r < p → pn M.nxt (ps ++ [M.nxt (ps.getD (p / 8) 0) (p % 8)]) (r / 8) (r % 8) = pn M.nxt ps (r / 8) (r % 8) := by
    intro r hr
    have hc := h.rel.clo r hr
    simp only [pn]
    rw [getD_app _ _ _ hc.1, List.idxOf_append, if_pos hc.2]
  have hnew : pn M.nxt (ps ++ [M.nxt (ps.getD (p / 8) 0) (p % 8)]) (p / 8) (p % 8) = ps.length := by
    simp only [pn]
    rw [getD_app _ _ _ hk, List.idxOf_append, if_neg hq]; simp
  have ht : ∀ j, j < ps.length → (tx ++ [tx.getD (p / 8) [] ++ [p % 8]]).getD j [] = tx.getD j [] := fun j hj => tgetD_app _ _ _ (by omega)
  have htn : (tx ++ [tx.getD (p / 8) [] ++ [p % 8]]).getD ps.length [] = tx.getD (p / 8) [] ++ [p % 8] := by rw [← hl]; exact tgetD_new _ _
  refine ⟨h.rel.new hk hq hgood, by simp [hl], ?_, ?_, ?_, ?_, ?_⟩
  · rw [ht 0 h.rel.len]; exact h.t0
  · intro j hj
    by_cases e : j = ps.length
    · subst e
      rw [htn]
      refine ⟨?_, ?_, ?_⟩
      · intro c hc
        rcases List.mem_append.1 hc with h' | h'
        · exact hrd.1 c h'
        · simp at h'; omega
      · rw [Tab.read_snoc, hrd.2.1]
        have := getD_snoc_eq ps (M.nxt (ps.getD (p / 8) 0) (p % 8))
        rw [this]
      · have h3 := hrd.2.2; rw [List.length_append, List.length_singleton]; omega
    · have hj' : j < ps.length := by simp at hj; omega
      rw [ht j hj', getD_app _ _ _ hj']; exact h.rd j hj'
  · intro i j hij hj
    by_cases e : j = ps.length
    · subst e; rw [htn, ht i hij]; exact h.ahead hk i hij
    · have hj' : j < ps.length := by simp at hj; omega
      rw [ht i (by omega), ht j hj']; exact h.inc i j hij hj'
  · intro r hr
    by_cases e : r = p
    · subst e; rw [hnew, htn, ht _ hk]; exact .inl rfl
    · have hc := h.rel.clo r (by omega)
      rw [hst r (by omega), ht (pn M.nxt ps (r / 8) (r % 8)) (List.idxOf_lt_length_of_mem hc.2), ht _ hc.1]; exact h.low r (by omega)
  · intro j h0 hj
    by_cases e : j = ps.length
    · subst e; exact ⟨p, by omega, by rw [htn, ht _ hk], by simp; omega⟩
    · have hj' : j < ps.length := by simp at hj; omega
      obtain ⟨r, hr, e1, e2⟩ := h.org j h0 hj'
      exact ⟨r, by omega, by rw [ht j hj', ht _ e2]; exact e1, by simp; omega⟩

/-- Of each text: its state is in the queue with a text that is not behind it; or it is not ahead of the k-th. -/
theorem QRel.cover {M : Tab} {ps : List Nat} {tx : List (List Nat)} {k : Nat} (h : QRel M ps tx (8 * k)) (y : List Nat) (hy : Notes y) :
    (∃ j, j < ps.length ∧ M.read 0 y = ps.getD j 0 ∧ sle (tx.getD j []) y) ∨ (k < ps.length ∧ sle (tx.getD k []) y) := by
  have : ∀ n (y : List Nat), y.length = n → Notes y → (∃ j, j < ps.length ∧ M.read 0 y = ps.getD j 0 ∧ sle (tx.getD j []) y) ∨ (k < ps.length ∧ sle (tx.getD k []) y) := by
    intro n
    induction n with
    | zero =>
      intro y hl _
      have : y = [] := List.length_eq_zero_iff.1 hl
      subst this
      exact .inl ⟨0, h.rel.len, by rw [h.rel.hd]; rfl, .inl h.t0⟩
    | succ n ih =>
      intro y hl hy
      obtain ⟨y', c, rfl⟩ : ∃ y' c, y = y' ++ [c] := by
        have hne : y ≠ [] := by intro e; subst e; simp at hl
        exact ⟨y.dropLast, y.getLast hne, (List.dropLast_concat_getLast hne).symm⟩
      have hy' : Notes y' := fun d hd => hy d (List.mem_append_left _ hd)
      have hc : c < 8 := hy c (by simp)
      rcases ih y' (by simp at hl; exact hl) hy' with ⟨j, hj, hr, hs⟩ | ⟨hk, hs⟩
      · by_cases hjk : j < k
        · have hcl := h.rel.clo (8 * j + c) (by omega)
          have hlow := h.low (8 * j + c) (by omega)
          rw [show (8 * j + c) / 8 = j by omega, show (8 * j + c) % 8 = c by omega] at hcl hlow
          refine .inl ⟨pn M.nxt ps j c, List.idxOf_lt_length_of_mem hcl.2, ?_, sle_trans hlow (sle_app c c hs (Nat.le_refl _))⟩
          rw [Tab.read_snoc, hr]; exact (getD_idxOf ps _ hcl.2).symm
        · have h1 : sle (tx.getD k []) (tx.getD j []) := by
            by_cases e : k = j
            · subst e; exact .inl rfl
            · exact .inr (h.inc k j (by omega) hj)
          exact .inr ⟨by omega, sle_trans h1 (sle_trans hs (.inr (sl_snoc _ _)))⟩
      · exact .inr ⟨hk, sle_trans hs (.inr (sl_snoc _ _))⟩
  exact this y.length y rfl hy

/-- The first that accepts. -/
theorem QRel.found {M : Tab} {ps : List Nat} {tx : List (List Nat)} {k : Nat} (h : QRel M ps tx (8 * k)) (hk : k < ps.length) (hno : ∀ j, j < k → M.acc (ps.getD j 0) = false) (y : List Nat) (hy : Notes y) (ha : M.accepts y = true) : sle (tx.getD k []) y := by
  rcases h.cover y hy with ⟨j, hj, hr, hs⟩ | ⟨_, hs⟩
  · rw [Tab.accepts, hr] at ha
    have hjk : ¬ j < k := fun hjk => by rw [hno j hjk] at ha; cases ha
    by_cases e : k = j
    · subst e; exact hs
    · exact sle_trans (.inr (h.inc k j (by omega) hj)) hs
  · exact hs
theorem QRel.none {M : Tab} {ps : List Nat} {tx : List (List Nat)} (h : QRel M ps tx (8 * ps.length)) (hno : ∀ j, j < ps.length → M.acc (ps.getD j 0) = false) (y : List Nat) (hy : Notes y) : M.accepts y = false := by
  rcases h.cover y hy with ⟨j, hj, hr, hs⟩ | ⟨hk, _⟩
  · rw [Tab.accepts, hr]; exact hno j hj
  · omega
end Go.Proofs.YtpngikmcjkjdaaaGreatDoor
