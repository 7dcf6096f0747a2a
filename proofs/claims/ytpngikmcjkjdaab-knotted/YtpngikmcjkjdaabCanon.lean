import Derived.Test.YtpngikmcjkjdaabMoore
namespace Go.Proofs.Ytpngikmcjkjdaab
set_option linter.unusedVariables false

/-- How many states have been come to ahead of row i, note c: one more than the greatest. -/
def come (X : Nat → Nat → Nat) : Nat → Nat
  | 0 => 1
  | p + 1 => max (come X p) (X (p / 8) (p % 8) + 1)

theorem come_mono (X : Nat → Nat → Nat) {p q : Nat} (h : p ≤ q) : come X p ≤ come X q := by
  induction q with
  | zero => have : p = 0 := by omega
            subst this; exact Nat.le_refl _
  | succ q ih =>
    by_cases e : p = q + 1
    · subst e; exact Nat.le_refl _
    · exact Nat.le_trans (ih (by omega)) (by simp only [come]; exact Nat.le_max_left _ _)
theorem lt_come (X : Nat → Nat → Nat) {p q : Nat} (h : p < q) : X (p / 8) (p % 8) < come X q := by
  have : come X (p + 1) ≤ come X q := come_mono X h
  simp only [come] at this
  have := Nat.le_max_right (come X p) (X (p / 8) (p % 8) + 1)
  omega
theorem come_pos (X : Nat → Nat → Nat) (p : Nat) : 1 ≤ come X p := come_mono X (Nat.zero_le p)

/-- The states are numbered in the order in which one comes to them, and one comes to all. -/
structure Numbered (M : Tab) : Prop where
  pos : 1 ≤ M.n
  nx : ∀ i c, i < M.n → c < 8 → M.nxt i c < M.n
  step : ∀ p, p < 8 * M.n → M.nxt (p / 8) (p % 8) ≤ come M.nxt p
  row : ∀ i, i < M.n → i < come M.nxt (8 * i)
  all : come M.nxt (8 * M.n) = M.n

theorem come_le {M : Tab} (h : Numbered M) : ∀ p, p ≤ 8 * M.n → come M.nxt p ≤ M.n := by
  intro p hp
  rw [← h.all]; exact come_mono _ hp

/-- Where a state is come to for the first time. -/
theorem Numbered.first {M : Tab} (h : Numbered M) (s : Nat) (h0 : 0 < s) (hs : s < M.n) : ∃ p, p < 8 * s ∧ M.nxt (p / 8) (p % 8) = s ∧ come M.nxt p = s := by
  have hrow := h.row s hs
  have : ∀ q, q ≤ 8 * s → s < come M.nxt q → ∃ p, p < q ∧ M.nxt (p / 8) (p % 8) = s ∧ come M.nxt p = s := by
    intro q
    induction q with
    | zero => intro _ hc; simp [come] at hc; omega
    | succ q ih =>
      intro hq hc
      by_cases hlt : s < come M.nxt q
      · obtain ⟨p, hp, h1, h2⟩ := ih (by omega) hlt
        exact ⟨p, by omega, h1, h2⟩
      · have hst := h.step q (by omega)
        simp only [come] at hc
        have : M.nxt (q / 8) (q % 8) = s ∧ come M.nxt q = s := by omega
        exact ⟨q, by omega, this.1, this.2⟩
  exact this (8 * s) (Nat.le_refl _) hrow

/-- Each state is come to by a text. -/
theorem Numbered.reach {M : Tab} (h : Numbered M) : ∀ s, s < M.n → ∃ x, Notes x ∧ M.read 0 x = s := by
  intro s
  induction s using Nat.strongRecOn with
  | _ s ih =>
    intro hs
    by_cases h0 : s = 0
    · subst h0; exact ⟨[], by intro c hc; simp at hc, rfl⟩
    · obtain ⟨p, hp, h1, _⟩ := h.first s (by omega) hs
      obtain ⟨x, hx, hr⟩ := ih (p / 8) (by omega) (by omega)
      refine ⟨x ++ [p % 8], ?_, ?_⟩
      · intro c hc
        rcases List.mem_append.1 hc with h' | h'
        · exact hx c h'
        · simp at h'; omega
      · rw [Tab.read_snoc, hr, h1]

theorem Numbered.read_lt {M : Tab} (h : Numbered M) (s : Nat) (hs : s < M.n) (x : List Nat) (hx : Notes x) : M.read s x < M.n := by
  induction x generalizing s with
  | nil => exact hs
  | cons c x ih =>
    simp only [Tab.read, List.foldl_cons]
    exact ih (M.nxt s c) (h.nx s c hs (hx c (by simp))) (fun d hd => hx d (by simp [hd]))

/-- The least table of a language. -/
structure IsLeast (M : Tab) (L : List Nat → Bool) : Prop where
  num : Numbered M
  apart : ∀ i j, i < M.n → j < M.n → i ≠ j → Apart M i j
  lang : ∀ x, Notes x → M.accepts x = L x

/-- The same states. -/
structure SameTab (M N : Tab) : Prop where
  n : M.n = N.n
  acc : ∀ i, i < M.n → M.acc i = N.acc i
  nxt : ∀ i c, i < M.n → c < 8 → M.nxt i c = N.nxt i c

theorem come_congr {X Y : Nat → Nat → Nat} (q : Nat) (h : ∀ p, p < q → X (p / 8) (p % 8) = Y (p / 8) (p % 8)) : come X q = come Y q := by
  induction q with
  | zero => rfl
  | succ q ih => simp only [come]; rw [ih (fun p hp => h p (by omega)), h q (by omega)]

section
variable {M N : Tab} {L : List Nat → Bool}

/-- States that texts lead to alike mean the same. -/
theorem alike_mean (hM : IsLeast M L) (hN : IsLeast N L) (x : List Nat) (hx : Notes x) (y : List Nat) (hy : Notes y) : M.acc (M.read (M.read 0 x) y) = N.acc (N.read (N.read 0 x) y) := by
  have hxy : Notes (x ++ y) := fun c hc => by
    rcases List.mem_append.1 hc with h | h
    · exact hx c h
    · exact hy c h
  have h1 := hM.lang _ hxy
  have h2 := hN.lang _ hxy
  simp only [Tab.accepts, Tab.read_append] at h1 h2
  rw [h1, h2]

/-- Two texts that lead to one state of the one lead to one of the other. -/
theorem meet (hM : IsLeast M L) (hN : IsLeast N L) (x y : List Nat) (hx : Notes x) (hy : Notes y) (h : M.read 0 x = M.read 0 y) : N.read 0 x = N.read 0 y := by
  apply Classical.byContradiction
  intro hne
  obtain ⟨z, hz, hd⟩ := hN.apart _ _ (hN.num.read_lt 0 hN.num.pos x hx) (hN.num.read_lt 0 hN.num.pos y hy) hne
  apply hd
  rw [← alike_mean hM hN x hx z hz, ← alike_mean hM hN y hy z hz, h]

theorem numbers_alike (hM : IsLeast M L) (hN : IsLeast N L) : ∀ s, s < M.n → s < N.n ∧ ∀ x, Notes x → M.read 0 x = s → N.read 0 x = s := by
  intro s
  induction s using Nat.strongRecOn with
  | _ s ih =>
    intro hs
    by_cases h0 : s = 0
    · subst h0
      exact ⟨hN.num.pos, fun x hx h => meet hM hN x [] hx (by intro c hc; simp at hc) h⟩
    · obtain ⟨p, hp, h1, h2⟩ := hM.num.first s (by omega) hs
      -- the rows ahead are the same
      have same : ∀ q, q < p → M.nxt (q / 8) (q % 8) = N.nxt (q / 8) (q % 8) := by
        intro q hq
        have hlt : M.nxt (q / 8) (q % 8) < s := by have := lt_come M.nxt hq; omega
        obtain ⟨x, hx, hr⟩ := hM.num.reach (q / 8) (by omega)
        have hr' := (ih (q / 8) (by omega) (by omega)).2 x hx hr
        have hx' : Notes (x ++ [q % 8]) := fun c hc => by
          rcases List.mem_append.1 hc with h | h
          · exact hx c h
          · simp at h; omega
        have e := (ih _ hlt (by omega)).2 (x ++ [q % 8]) hx' (by rw [Tab.read_snoc, hr])
        rw [Tab.read_snoc, hr'] at e
        exact e.symm
      obtain ⟨x, hx, hr⟩ := hM.num.reach (p / 8) (by omega)
      have hp8 := ih (p / 8) (by omega) (by omega)
      have hr' := hp8.2 x hx hr
      have hx' : Notes (x ++ [p % 8]) := fun c hc => by
        rcases List.mem_append.1 hc with h | h
        · exact hx c h
        · simp at h; omega
      have hread : M.read 0 (x ++ [p % 8]) = s := by rw [Tab.read_snoc, hr, h1]
      have hreadN : N.read 0 (x ++ [p % 8]) = N.nxt (p / 8) (p % 8) := by rw [Tab.read_snoc, hr']
      have hcome : come N.nxt p = s := by rw [← come_congr p same]; exact h2
      have hle : N.nxt (p / 8) (p % 8) ≤ s := by
        have := hN.num.step p (by omega); omega
      have hval : N.nxt (p / 8) (p % 8) = s := by
        rcases Nat.lt_or_ge (N.nxt (p / 8) (p % 8)) s with hlt | hge
        · exfalso
          obtain ⟨y, hy, hry⟩ := hM.num.reach (N.nxt (p / 8) (p % 8)) (by omega)
          have hyN := (ih _ hlt (by omega)).2 y hy hry
          have := meet hN hM (x ++ [p % 8]) y hx' hy (by rw [hreadN, hyN])
          rw [hread, hry] at this
          omega
        · omega
      refine ⟨?_, fun y hy hry => ?_⟩
      · have := hN.num.read_lt 0 hN.num.pos _ hx'
        rw [hreadN, hval] at this; exact this
      · have := meet hM hN y (x ++ [p % 8]) hy hx' (by rw [hry, hread])
        rw [this, hreadN, hval]

/-- THERE IS JUST ONE LEAST TABLE. -/
theorem least_unique (hM : IsLeast M L) (hN : IsLeast N L) : SameTab M N := by
  have a := numbers_alike hM hN
  have b := numbers_alike hN hM
  have hn : M.n = N.n := by
    apply Nat.le_antisymm
    · apply Nat.le_of_not_lt; intro h; have := (a N.n h).1; omega
    · apply Nat.le_of_not_lt; intro h; have := (b M.n h).1; omega
  refine ⟨hn, fun i hi => ?_, fun i c hi hc => ?_⟩
  · obtain ⟨x, hx, hr⟩ := hM.num.reach i hi
    have h1 := hM.lang x hx
    have h2 := hN.lang x hx
    rw [Tab.accepts, hr] at h1
    rw [Tab.accepts, (a i hi).2 x hx hr] at h2
    rw [h1, h2]
  · obtain ⟨x, hx, hr⟩ := hM.num.reach i hi
    have hx' : Notes (x ++ [c]) := fun d hd => by
      rcases List.mem_append.1 hd with h | h
      · exact hx d h
      · simp at h; omega
    have e := (a _ (hM.num.nx i c hi hc)).2 (x ++ [c]) hx' (by rw [Tab.read_snoc, hr])
    rw [Tab.read_snoc, (a i hi).2 x hx hr] at e
    exact e.symm
end

/-- How many classes the states below m have: one more than the greatest. -/
def gm (f : Nat → Nat) : Nat → Nat
  | 0 => 0
  | m + 1 => max (gm f m) (f m + 1)
theorem gm_mono (f : Nat → Nat) {p q : Nat} (h : p ≤ q) : gm f p ≤ gm f q := by
  induction q with
  | zero => have : p = 0 := by omega
            subst this; exact Nat.le_refl _
  | succ q ih =>
    by_cases e : p = q + 1
    · subst e; exact Nat.le_refl _
    · exact Nat.le_trans (ih (by omega)) (by simp only [gm]; exact Nat.le_max_left _ _)
theorem gm_lt (f : Nat → Nat) {s m : Nat} (h : s < m) : f s < gm f m := by
  have : gm f (s + 1) ≤ gm f m := gm_mono f h
  simp only [gm] at this
  have := Nat.le_max_right (gm f s) (f s + 1)
  omega
theorem gm_ex (f : Nat → Nat) {m k : Nat} (h : k < gm f m) : ∃ s, s < m ∧ k ≤ f s := by
  induction m with
  | zero => simp [gm] at h
  | succ m ih =>
    by_cases e : k < gm f m
    · obtain ⟨s, hs, hk⟩ := ih e; exact ⟨s, by omega, hk⟩
    · simp only [gm] at h; exact ⟨m, by omega, by omega⟩

section
variable {n : Nat} {f : Nat → Nat} {hs : List Nat}
theorem Cls.sorted (h : Cls n f hs) {c d : Nat} (hcd : c < d) (hd : d < hs.length) : hs.getD c 0 < hs.getD d 0 := by
  have := (List.pairwise_iff_getElem.1 h.inc) c d (by omega) hd hcd
  rw [List.getD_eq_getElem?_getD, List.getElem?_eq_getElem (by omega), List.getD_eq_getElem?_getD, List.getElem?_eq_getElem hd]
  exact this
theorem Cls.growth (h : Cls n f hs) (s : Nat) (hs' : s < n) : f s ≤ gm f s := by
  by_cases h0 : f s = 0
  · omega
  · have hl := h.lt s hs'
    have h1 := h.sorted (c := f s - 1) (d := f s) (by omega) hl
    have h2 := h.le s hs'
    have h3 := h.hd (f s - 1) (by omega)
    have := gm_lt f (s := hs.getD (f s - 1) 0) (m := s) (by omega)
    rw [h3.2] at this
    omega
theorem Cls.head (h : Cls n f hs) (s : Nat) (hs' : s < n) (e : hs.getD (f s) 0 = s) : f s = gm f s := by
  have := h.growth s hs'
  apply Nat.le_antisymm this
  apply Nat.le_of_not_lt
  intro hlt
  obtain ⟨s', h1, h2⟩ := gm_ex f hlt
  have h3 := h.le s' (by omega)
  rcases Nat.lt_or_ge (f s) (f s') with hl | hge
  · have := h.sorted hl (h.lt s' (by omega)); omega
  · have : f s' = f s := by omega
    rw [this] at h3; omega
theorem Cls.nohead (h : Cls n f hs) (s : Nat) (hs' : s < n) (e : hs.getD (f s) 0 ≠ s) : f s < gm f s := by
  have h2 := h.le s hs'
  have h3 := h.hd _ (h.lt s hs')
  have := gm_lt f (s := hs.getD (f s) 0) (m := s) (by omega)
  rw [h3.2] at this; exact this
theorem Cls.total (h : Cls n f hs) : gm f n = hs.length := by
  apply Nat.le_antisymm
  · apply Nat.le_of_not_lt; intro hlt
    obtain ⟨s, h1, h2⟩ := gm_ex f hlt
    have := h.lt s h1; omega
  · apply Nat.le_of_not_lt; intro hlt
    have h3 := h.hd _ hlt
    have := gm_lt f h3.1
    rw [h3.2] at this; omega
end

theorem merged_row {M : Tab} {f : Nat → Nat} {hs : List Nat} (hM : Numbered M) (h : Stable M f hs) (s : Nat) (hs' : s < M.n) (hh : hs.getD (f s) 0 = s) (h0 : come (merged M f hs).nxt (8 * f s) = gm f (come M.nxt (8 * s))) :
    ∀ c, c ≤ 8 → come (merged M f hs).nxt (8 * f s + c) = gm f (come M.nxt (8 * s + c)) := by
  intro c
  induction c with
  | zero => intro _; exact h0
  | succ c ih =>
    intro hc
    have ih' := ih (by omega)
    have e1 : (8 * f s + c) / 8 = f s := by omega
    have e2 : (8 * f s + c) % 8 = c := by omega
    have e3 : (8 * s + c) / 8 = s := by omega
    have e4 : (8 * s + c) % 8 = c := by omega
    have hst := hM.step (8 * s + c) (by omega)
    rw [← Nat.add_assoc, ← Nat.add_assoc]
    simp only [come, e1, e2, e3, e4] at hst ⊢
    rw [ih']
    have : (merged M f hs).nxt (f s) c = f (M.nxt s c) := by simp only [merged]; rw [hh]
    rw [this]
    generalize come M.nxt (8 * s + c) = m at *
    generalize M.nxt s c = x at *
    rcases Nat.lt_or_ge x m with hl | hge
    · have h1 := gm_lt f hl
      rw [show max m (x + 1) = m by omega]; omega
    · have : x = m := by omega
      subst this
      rw [show max x (x + 1) = x + 1 by omega]; simp only [gm]

theorem merged_skip {M : Tab} {f : Nat → Nat} {hs : List Nat} (hM : Numbered M) (h : Stable M f hs) (s : Nat) (hs' : s < M.n) (hh : hs.getD (f s) 0 ≠ s) :
    ∀ c, c ≤ 8 → gm f (come M.nxt (8 * s + c)) = gm f (come M.nxt (8 * s)) := by
  intro c
  induction c with
  | zero => intro _; rfl
  | succ c ih =>
    intro hc
    have ih' := ih (by omega)
    have e3 : (8 * s + c) / 8 = s := by omega
    have e4 : (8 * s + c) % 8 = c := by omega
    have hst := hM.step (8 * s + c) (by omega)
    have hle := h.mid.cls.le s hs'
    have hd := h.mid.cls.hd _ (h.mid.cls.lt s hs')
    have hq : M.nxt (hs.getD (f s) 0) c < come M.nxt (8 * s) := by
      have := lt_come M.nxt (p := 8 * hs.getD (f s) 0 + c) (q := 8 * s) (by omega)
      rw [show (8 * hs.getD (f s) 0 + c) / 8 = hs.getD (f s) 0 by omega, show (8 * hs.getD (f s) 0 + c) % 8 = c by omega] at this
      exact this
    have hcl := gm_lt f hq
    rw [h.nxt _ _ c hd.1 hs' (by omega) hd.2] at hcl
    rw [← Nat.add_assoc]
    simp only [come, e3, e4] at hst ⊢
    rw [← ih'] at hcl ⊢
    generalize come M.nxt (8 * s + c) = m at *
    generalize M.nxt s c = x at *
    rcases Nat.lt_or_ge x m with hl | hge
    · rw [show max m (x + 1) = m by omega]
    · have : x = m := by omega
      subst this
      rw [show max x (x + 1) = x + 1 by omega]; simp only [gm]; omega

theorem merged_come {M : Tab} {f : Nat → Nat} {hs : List Nat} (hM : Numbered M) (h : Stable M f hs) : ∀ s, s ≤ M.n → come (merged M f hs).nxt (8 * gm f s) = gm f (come M.nxt (8 * s)) := by
  intro s
  induction s with
  | zero => intro _; have := (cls_zero h.mid.cls hM.pos).1; simp [gm, come, this]
  | succ s ih =>
    intro hs'
    have ih' := ih (by omega)
    by_cases hh : hs.getD (f s) 0 = s
    · have e := h.mid.cls.head s (by omega) hh
      have e2 : gm f (s + 1) = f s + 1 := by simp only [gm]; omega
      rw [← e] at ih'
      have := merged_row hM h s (by omega) hh ih' 8 (Nat.le_refl _)
      rw [e2, show 8 * (f s + 1) = 8 * f s + 8 by omega, show 8 * (s + 1) = 8 * s + 8 by omega]
      exact this
    · have e := h.mid.cls.nohead s (by omega) hh
      have e2 : gm f (s + 1) = gm f s := by simp only [gm]; omega
      rw [e2, ih', show 8 * (s + 1) = 8 * s + 8 by omega]
      exact (merged_skip hM h s (by omega) hh 8 (Nat.le_refl _)).symm

/-- Each class one state: numbered as the table is. -/
theorem merged_numbered {M : Tab} {f : Nat → Nat} {hs : List Nat} (hM : Numbered M) (h : Stable M f hs) : Numbered (merged M f hs) := by
  have hc := h.mid.cls
  have hrow : ∀ k, k < hs.length → ∀ c, c ≤ 8 → come (merged M f hs).nxt (8 * k + c) = gm f (come M.nxt (8 * hs.getD k 0 + c)) := by
    intro k hk c hc8
    have hd := hc.hd k hk
    have hh : hs.getD (f (hs.getD k 0)) 0 = hs.getD k 0 := by rw [hd.2]
    have e := hc.head _ hd.1 hh
    have h0 := merged_come hM h (hs.getD k 0) (by omega)
    rw [← e] at h0
    have := merged_row hM h _ hd.1 hh h0 c hc8
    rw [hd.2] at this; exact this
  refine ⟨?_, ?_, ?_, ?_, ?_⟩
  · have := hc.lt 0 hM.pos; show 1 ≤ hs.length; omega
  · intro k c hk hc8
    have hd := hc.hd k hk
    exact hc.lt _ (hM.nx _ c hd.1 hc8)
  · intro p hp
    have hk : p / 8 < hs.length := by have : p < 8 * hs.length := hp; omega
    have hd := hc.hd _ hk
    have e := hrow (p / 8) hk (p % 8) (by omega)
    rw [show 8 * (p / 8) + p % 8 = p by omega] at e
    rw [e]
    have hst := hM.step (8 * hs.getD (p / 8) 0 + p % 8) (by omega)
    rw [show (8 * hs.getD (p / 8) 0 + p % 8) / 8 = hs.getD (p / 8) 0 by omega, show (8 * hs.getD (p / 8) 0 + p % 8) % 8 = p % 8 by omega] at hst
    have hnx := hM.nx _ (p % 8) hd.1 (by omega)
    show f (M.nxt (hs.getD (p / 8) 0) (p % 8)) ≤ _
    generalize come M.nxt (8 * hs.getD (p / 8) 0 + p % 8) = m at *
    generalize M.nxt (hs.getD (p / 8) 0) (p % 8) = x at *
    rcases Nat.lt_or_ge x m with hl | hge
    · have := gm_lt f hl; omega
    · have : x = m := by omega
      subst this; exact hc.growth _ hnx
  · intro k hk
    have hd := hc.hd k hk
    have e := hrow k hk 0 (by omega)
    simp only [Nat.add_zero] at e
    rw [e]
    have := gm_lt f (hM.row _ hd.1)
    rw [hd.2] at this; exact this
  · have := merged_come hM h M.n (Nat.le_refl _)
    rw [hc.total, hM.all, hc.total] at this
    exact this

theorem merged_least {M : Tab} {f : Nat → Nat} {hs : List Nat} {L : List Nat → Bool} (hM : Numbered M) (h : Stable M f hs) (hL : ∀ x, Notes x → M.accepts x = L x) : IsLeast (merged M f hs) L where
  num := merged_numbered hM h
  apart k l hk hl hne := merged_apart hM.nx h k l hk hl hne
  lang x hx := by rw [merged_accepts hM.nx h hM.pos x hx]; exact hL x hx
end Go.Proofs.Ytpngikmcjkjdaab
