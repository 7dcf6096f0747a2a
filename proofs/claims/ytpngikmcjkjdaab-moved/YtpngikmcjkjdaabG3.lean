import Derived.Test.YtpngikmcjkjdaabG2
set_option linter.unusedVariables false
set_option linter.unusedSimpArgs false
namespace Go.Proofs.Ytpngikmcjkjdaab
set_option linter.unusedVariables false
def come (X : Nat → Nat → Nat) : Nat → Nat
  | 0 => 1
  | p + 1 => max (come X p) (X (p / 8) (p % 8) + 1)
theorem come_mono (X : Nat → Nat → Nat) {p q : Nat} (h : p ≤ q) : come X p ≤ come X q := by
  induction q with
  | zero => have : p = 0 := by omega
            subst this; exact Nat.le_refl _
  | succ q ih =>
    by_cases e : p = q + 1
    · subst e; exact Nat.le_refl _
    · exact Nat.le_trans (ih (by omega)) (by simp only [come]; exact Nat.le_max_left _ _)
theorem lt_come (X : Nat → Nat → Nat) {p q : Nat} (h : p < q) : X (p / 8) (p % 8) < come X q := by
  have : come X (p + 1) ≤ come X q := come_mono X h
  simp only [come] at this
  have := Nat.le_max_right (come X p) (X (p / 8) (p % 8) + 1)
  omega
theorem come_pos (X : Nat → Nat → Nat) (p : Nat) : 1 ≤ come X p := come_mono X (Nat.zero_le p)
structure Numbered (M : Tab) : Prop where
  pos : 1 ≤ M.n
  nx : ∀ i c, i < M.n → c < 8 → M.nxt i c < M.n
  step : ∀ p, p < 8 * M.n → M.nxt (p / 8) (p % 8) ≤ come M.nxt p
  row : ∀ i, i < M.n → i < come M.nxt (8 * i)
  all : come M.nxt (8 * M.n) = M.n
theorem come_le {M : Tab} (h : Numbered M) : ∀ p, p ≤ 8 * M.n → come M.nxt p ≤ M.n := by
  intro p hp
  rw [← h.all]; exact come_mono _ hp
theorem Numbered.first {M : Tab} (h : Numbered M) (s : Nat) (h0 : 0 < s) (hs : s < M.n) : ∃ p, p < 8 * s ∧ M.nxt (p / 8) (p % 8) = s ∧ come M.nxt p = s := by
  have hrow := h.row s hs
  have : ∀ q, q ≤ 8 * s → s < come M.nxt q → ∃ p, p < q ∧ M.nxt (p / 8) (p % 8) = s ∧ come M.nxt p = s := by
    intro q
    induction q with
    | zero => intro _ hc; simp [come] at hc; omega
    | succ q ih =>
      intro hq hc
      by_cases hlt : s < come M.nxt q
      · obtain ⟨p, hp, h1, h2⟩ := ih (by omega) hlt
        exact ⟨p, by omega, h1, h2⟩
      · have hst := h.step q (by omega)
        simp only [come] at hc
        have : M.nxt (q / 8) (q % 8) = s ∧ come M.nxt q = s := by omega
        exact ⟨q, by omega, this.1, this.2⟩
  exact this (8 * s) (Nat.le_refl _) hrow
theorem Numbered.reach {M : Tab} (h : Numbered M) : ∀ s, s < M.n → ∃ x, Notes x ∧ M.read 0 x = s := by
  intro s
  induction s using Nat.strongRecOn with
  | _ s ih =>
    intro hs
    by_cases h0 : s = 0
    · subst h0; exact ⟨[], by intro c hc; simp at hc, rfl⟩
    · obtain ⟨p, hp, h1, _⟩ := h.first s (by omega) hs
      obtain ⟨x, hx, hr⟩ := ih (p / 8) (by omega) (by omega)
      refine ⟨x ++ [p % 8], ?_, ?_⟩
      · intro c hc
        rcases List.mem_append.1 hc with h' | h'
        · exact hx c h'
        · simp at h'; omega
      · rw [Tab.read_snoc, hr, h1]
theorem Numbered.read_lt {M : Tab} (h : Numbered M) (s : Nat) (hs : s < M.n) (x : List Nat) (hx : Notes x) : M.read s x < M.n := by
  induction x generalizing s with
  | nil => exact hs
  | cons c x ih =>
    simp only [Tab.read, List.foldl_cons]
    exact ih (M.nxt s c) (h.nx s c hs (hx c (by simp))) (fun d hd => hx d (by simp [hd]))
structure IsLeast (M : Tab) (L : List Nat → Bool) : Prop where
  num : Numbered M
  apart : ∀ i j, i < M.n → j < M.n → i ≠ j → Apart M i j
  lang : ∀ x, Notes x → M.accepts x = L x
theorem come_congr {X Y : Nat → Nat → Nat} (q : Nat) (h : ∀ p, p < q → X (p / 8) (p % 8) = Y (p / 8) (p % 8)) : come X q = come Y q := by
  induction q with
  | zero => rfl
  | succ q ih => simp only [come]; rw [ih (fun p hp => h p (by omega)), h q (by omega)]
section
variable {M N : Tab} {L : List Nat → Bool}
end
def gm (f : Nat → Nat) : Nat → Nat
  | 0 => 0
  | m + 1 => max (gm f m) (f m + 1)
theorem gm_mono (f : Nat → Nat) {p q : Nat} (h : p ≤ q) : gm f p ≤ gm f q := by
  induction q with
  | zero => have : p = 0 := by omega
            subst this; exact Nat.le_refl _
  | succ q ih =>
    by_cases e : p = q + 1
    · subst e; exact Nat.le_refl _
    · exact Nat.le_trans (ih (by omega)) (by simp only [gm]; exact Nat.le_max_left _ _)
theorem gm_lt (f : Nat → Nat) {s m : Nat} (h : s < m) : f s < gm f m := by
  have : gm f (s + 1) ≤ gm f m := gm_mono f h
  simp only [gm] at this
  have := Nat.le_max_right (gm f s) (f s + 1)
  omega
theorem gm_ex (f : Nat → Nat) {m k : Nat} (h : k < gm f m) : ∃ s, s < m ∧ k ≤ f s := by
  induction m with
  | zero => simp [gm] at h
  | succ m ih =>
    by_cases e : k < gm f m
    · obtain ⟨s, hs, hk⟩ := ih e; exact ⟨s, by omega, hk⟩
    · simp only [gm] at h; exact ⟨m, by omega, by omega⟩
section
variable {n : Nat} {f : Nat → Nat} {hs : List Nat}
theorem Cls.sorted (h : Cls n f hs) {c d : Nat} (hcd : c < d) (hd : d < hs.length) : hs.getD c 0 < hs.getD d 0 := by
  have := (List.pairwise_iff_getElem.1 h.inc) c d (by omega) hd hcd
  rw [List.getD_eq_getElem?_getD, List.getElem?_eq_getElem (by omega), List.getD_eq_getElem?_getD, List.getElem?_eq_getElem hd]
  exact this
theorem Cls.growth (h : Cls n f hs) (s : Nat) (hs' : s < n) : f s ≤ gm f s := by
  by_cases h0 : f s = 0
  · omega
  · have hl := h.lt s hs'
    have h1 := h.sorted (c := f s - 1) (d := f s) (by omega) hl
    have h2 := h.le s hs'
    have h3 := h.hd (f s - 1) (by omega)
    have := gm_lt f (s := hs.getD (f s - 1) 0) (m := s) (by omega)
    rw [h3.2] at this
    omega
theorem Cls.head (h : Cls n f hs) (s : Nat) (hs' : s < n) (e : hs.getD (f s) 0 = s) : f s = gm f s := by
  have := h.growth s hs'
  apply Nat.le_antisymm this
  apply Nat.le_of_not_lt
  intro hlt
  obtain ⟨s', h1, h2⟩ := gm_ex f hlt
  have h3 := h.le s' (by omega)
  rcases Nat.lt_or_ge (f s) (f s') with hl | hge
  · have := h.sorted hl (h.lt s' (by omega)); omega
  · have : f s' = f s := by omega
    rw [this] at h3; omega
theorem Cls.nohead (h : Cls n f hs) (s : Nat) (hs' : s < n) (e : hs.getD (f s) 0 ≠ s) : f s < gm f s := by
  have h2 := h.le s hs'
  have h3 := h.hd _ (h.lt s hs')
  have := gm_lt f (s := hs.getD (f s) 0) (m := s) (by omega)
  rw [h3.2] at this; exact this
theorem Cls.total (h : Cls n f hs) : gm f n = hs.length := by
  apply Nat.le_antisymm
  · apply Nat.le_of_not_lt; intro hlt
    obtain ⟨s, h1, h2⟩ := gm_ex f hlt
    have := h.lt s h1; omega
  · apply Nat.le_of_not_lt; intro hlt
    have h3 := h.hd _ hlt
    have := gm_lt f h3.1
    rw [h3.2] at this; omega
end
theorem merged_row {M : Tab} {f : Nat → Nat} {hs : List Nat} (hM : Numbered M) (h : Stable M f hs) (s : Nat) (hs' : s < M.n) (hh : hs.getD (f s) 0 = s) (h0 : come (merged M f hs).nxt (8 * f s) = gm f (come M.nxt (8 * s))) :
    ∀ c, c ≤ 8 → come (merged M f hs).nxt (8 * f s + c) = gm f (come M.nxt (8 * s + c)) := by
  intro c
  induction c with
  | zero => intro _; exact h0
  | succ c ih =>
    intro hc
    have ih' := ih (by omega)
    have e1 : (8 * f s + c) / 8 = f s := by omega
    have e2 : (8 * f s + c) % 8 = c := by omega
    have e3 : (8 * s + c) / 8 = s := by omega
    have e4 : (8 * s + c) % 8 = c := by omega
    have hst := hM.step (8 * s + c) (by omega)
    rw [← Nat.add_assoc, ← Nat.add_assoc]
    simp only [come, e1, e2, e3, e4] at hst ⊢
    rw [ih']
    have : (merged M f hs).nxt (f s) c = f (M.nxt s c) := by simp only [merged]; rw [hh]
    rw [this]
    generalize come M.nxt (8 * s + c) = m at *
    generalize M.nxt s c = x at *
    rcases Nat.lt_or_ge x m with hl | hge
    · have h1 := gm_lt f hl
      rw [show max m (x + 1) = m by omega]; omega
    · have : x = m := by omega
      subst this
      rw [show max x (x + 1) = x + 1 by omega]; simp only [gm]
theorem merged_skip {M : Tab} {f : Nat → Nat} {hs : List Nat} (hM : Numbered M) (h : Stable M f hs) (s : Nat) (hs' : s < M.n) (hh : hs.getD (f s) 0 ≠ s) :
    ∀ c, c ≤ 8 → gm f (come M.nxt (8 * s + c)) = gm f (come M.nxt (8 * s)) := by
  intro c
  induction c with
  | zero => intro _; rfl
  | succ c ih =>
    intro hc
    have ih' := ih (by omega)
    have e3 : (8 * s + c) / 8 = s := by omega
    have e4 : (8 * s + c) % 8 = c := by omega
    have hst := hM.step (8 * s + c) (by omega)
    have hle := h.mid.cls.le s hs'
    have hd := h.mid.cls.hd _ (h.mid.cls.lt s hs')
    have hq : M.nxt (hs.getD (f s) 0) c < come M.nxt (8 * s) := by
      have := lt_come M.nxt (p := 8 * hs.getD (f s) 0 + c) (q := 8 * s) (by omega)
      rw [show (8 * hs.getD (f s) 0 + c) / 8 = hs.getD (f s) 0 by omega, show (8 * hs.getD (f s) 0 + c) % 8 = c by omega] at this
      exact this
    have hcl := gm_lt f hq
    rw [h.nxt _ _ c hd.1 hs' (by omega) hd.2] at hcl
    rw [← Nat.add_assoc]
    simp only [come, e3, e4] at hst ⊢
    rw [← ih'] at hcl ⊢
    generalize come M.nxt (8 * s + c) = m at *
    generalize M.nxt s c = x at *
    rcases Nat.lt_or_ge x m with hl | hge
    · rw [show max m (x + 1) = m by omega]
    · have : x = m := by omega
      subst this
      rw [show max x (x + 1) = x + 1 by omega]; simp only [gm]; omega
theorem merged_come {M : Tab} {f : Nat → Nat} {hs : List Nat} (hM : Numbered M) (h : Stable M f hs) : ∀ s, s ≤ M.n → come (merged M f hs).nxt (8 * gm f s) = gm f (come M.nxt (8 * s)) := by
  intro s
  induction s with
  | zero => intro _; have := (cls_zero h.mid.cls hM.pos).1; simp [gm, come, this]
  | succ s ih =>
    intro hs'
    have ih' := ih (by omega)
    by_cases hh : hs.getD (f s) 0 = s
    · have e := h.mid.cls.head s (by omega) hh
      have e2 : gm f (s + 1) = f s + 1 := by simp only [gm]; omega
      rw [← e] at ih'
      have := merged_row hM h s (by omega) hh ih' 8 (Nat.le_refl _)
      rw [e2, show 8 * (f s + 1) = 8 * f s + 8 by omega, show 8 * (s + 1) = 8 * s + 8 by omega]
      exact this
    · have e := h.mid.cls.nohead s (by omega) hh
      have e2 : gm f (s + 1) = gm f s := by simp only [gm]; omega
      rw [e2, ih', show 8 * (s + 1) = 8 * s + 8 by omega]
      exact (merged_skip hM h s (by omega) hh 8 (Nat.le_refl _)).symm
theorem merged_numbered {M : Tab} {f : Nat → Nat} {hs : List Nat} (hM : Numbered M) (h : Stable M f hs) : Numbered (merged M f hs) := by
  have hc := h.mid.cls
  have hrow : ∀ k, k < hs.length → ∀ c, c ≤ 8 → come (merged M f hs).nxt (8 * k + c) = gm f (come M.nxt (8 * hs.getD k 0 + c)) := by
    intro k hk c hc8
    have hd := hc.hd k hk
    have hh : hs.getD (f (hs.getD k 0)) 0 = hs.getD k 0 := by rw [hd.2]
    have e := hc.head _ hd.1 hh
    have h0 := merged_come hM h (hs.getD k 0) (by omega)
    rw [← e] at h0
    have := merged_row hM h _ hd.1 hh h0 c hc8
    rw [hd.2] at this; exact this
  refine ⟨?_, ?_, ?_, ?_, ?_⟩
  · have := hc.lt 0 hM.pos; show 1 ≤ hs.length; omega
  · intro k c hk hc8
    have hd := hc.hd k hk
    exact hc.lt _ (hM.nx _ c hd.1 hc8)
  · intro p hp
    have hk : p / 8 < hs.length := by have : p < 8 * hs.length := hp; omega
    have hd := hc.hd _ hk
    have e := hrow (p / 8) hk (p % 8) (by omega)
    rw [show 8 * (p / 8) + p % 8 = p by omega] at e
    rw [e]
    have hst := hM.step (8 * hs.getD (p / 8) 0 + p % 8) (by omega)
    rw [show (8 * hs.getD (p / 8) 0 + p % 8) / 8 = hs.getD (p / 8) 0 by omega, show (8 * hs.getD (p / 8) 0 + p % 8) % 8 = p % 8 by omega] at hst
    have hnx := hM.nx _ (p % 8) hd.1 (by omega)
    show f (M.nxt (hs.getD (p / 8) 0) (p % 8)) ≤ _
    generalize come M.nxt (8 * hs.getD (p / 8) 0 + p % 8) = m at *
    generalize M.nxt (hs.getD (p / 8) 0) (p % 8) = x at *
    rcases Nat.lt_or_ge x m with hl | hge
    · have := gm_lt f hl; omega
    · have : x = m := by omega
      subst this; exact hc.growth _ hnx
  · intro k hk
    have hd := hc.hd k hk
    have e := hrow k hk 0 (by omega)
    simp only [Nat.add_zero] at e
    rw [e]
    have := gm_lt f (hM.row _ hd.1)
    rw [hd.2] at this; exact this
  · have := merged_come hM h M.n (Nat.le_refl _)
    rw [hc.total, hM.all, hc.total] at this
    exact this
theorem merged_least {M : Tab} {f : Nat → Nat} {hs : List Nat} {L : List Nat → Bool} (hM : Numbered M) (h : Stable M f hs) (hL : ∀ x, Notes x → M.accepts x = L x) : IsLeast (merged M f hs) L where
  num := merged_numbered hM h
  apart k l hk hl hne := merged_apart hM.nx h k l hk hl hne
  lang x hx := by rw [merged_accepts hM.nx h hM.pos x hx]; exact hL x hx
end Go.Proofs.Ytpngikmcjkjdaab

namespace Go.Proofs.Ytpngikmcjkjdaab
set_option linter.unusedVariables false
theorem nodup_bound : ∀ (N : Nat) (l : List Nat), l.Nodup → (∀ x ∈ l, x < N) → l.length ≤ N := by
  intro N
  induction N with
  | zero =>
    intro l _ h
    cases l with
    | nil => simp
    | cons a s => exact absurd (h a (by simp)) (by omega)
  | succ N ih =>
    intro l hn h
    have h1 := ih (l.erase N) (hn.erase N) (fun x hx => by
      have := (hn.mem_erase_iff).1 hx
      have := h x this.2
      omega)
    have h2 : l.length ≤ (l.erase N).length + 1 := by rw [List.length_erase]; split <;> omega
    omega
def pn (S : Nat → Nat → Nat) (ps : List Nat) (k c : Nat) : Nat := ps.idxOf (S (ps.getD k 0) c)
structure PRel (good : Nat → Prop) (S : Nat → Nat → Nat) (ps : List Nat) (p : Nat) : Prop where
  len : 1 ≤ ps.length
  hd : ps.getD 0 0 = 0
  nd : ps.Nodup
  inr : ∀ q ∈ ps, good q
  clo : ∀ r, r < p → r / 8 < ps.length ∧ S (ps.getD (r / 8) 0) (r % 8) ∈ ps
  num : ∀ r, r < p → pn S ps (r / 8) (r % 8) ≤ come (pn S ps) r
  row : ∀ i, 8 * i < p → i < come (pn S ps) (8 * i)
  cm : come (pn S ps) p = ps.length
section
variable {good : Nat → Prop} {S : Nat → Nat → Nat} {ps : List Nat} {p : Nat}
theorem PRel.start (h : good 0) : PRel good S [0] 0 :=
  ⟨by simp, rfl, by simp, by intro q hq; simp at hq; subst hq; exact h, fun r hr => absurd hr (by omega), fun r hr => absurd hr (by omega), fun i hi => absurd hi (by omega), rfl⟩
theorem PRel.old (h : PRel good S ps p) (hk : p / 8 < ps.length) (hq : S (ps.getD (p / 8) 0) (p % 8) ∈ ps) : PRel good S ps (p + 1) where
  len := h.len
  hd := h.hd
  nd := h.nd
  inr := h.inr
  clo r hr := by
    by_cases e : r = p
    · subst e; exact ⟨hk, hq⟩
    · exact h.clo r (by omega)
  num r hr := by
    by_cases e : r = p
    · subst e; have := List.idxOf_lt_length_of_mem hq; rw [h.cm]; exact Nat.le_of_lt this
    · exact h.num r (by omega)
  row i hi := by
    by_cases e : 8 * i = p
    · rw [e, h.cm]; have : p / 8 = i := by omega
      omega
    · exact h.row i (by omega)
  cm := by
    have hl : pn S ps (p / 8) (p % 8) < ps.length := List.idxOf_lt_length_of_mem hq
    simp only [come, h.cm]
    exact Nat.max_eq_left hl
theorem getD_app (l : List Nat) (x i : Nat) (h : i < l.length) : (l ++ [x]).getD i 0 = l.getD i 0 := getD_snoc_lt l x i h
theorem PRel.new (h : PRel good S ps p) (hk : p / 8 < ps.length) (hq : S (ps.getD (p / 8) 0) (p % 8) ∉ ps) (hg : good (S (ps.getD (p / 8) 0) (p % 8))) :
    PRel good S (ps ++ [S (ps.getD (p / 8) 0) (p % 8)]) (p + 1) := by
  have hst : ∀ r, r < p → pn S (ps ++ [S (ps.getD (p / 8) 0) (p % 8)]) (r / 8) (r % 8) = pn S ps (r / 8) (r % 8) := by
    intro r hr
    have hc := h.clo r hr
    simp only [pn]
    rw [getD_app _ _ _ hc.1, List.idxOf_append, if_pos hc.2]
  have hnew : pn S (ps ++ [S (ps.getD (p / 8) 0) (p % 8)]) (p / 8) (p % 8) = ps.length := by
    simp only [pn]
    rw [getD_app _ _ _ hk, List.idxOf_append, if_neg hq]
    simp
  have hcm : ∀ r, r ≤ p → come (pn S (ps ++ [S (ps.getD (p / 8) 0) (p % 8)])) r = come (pn S ps) r := fun r hr => come_congr r (fun q hq' => hst q (by omega))
  refine ⟨by simp, ?_, ?_, ?_, ?_, ?_, ?_, ?_⟩
  · rw [getD_app _ _ _ h.len]; exact h.hd
  · rw [List.nodup_append]; refine ⟨h.nd, by simp, ?_⟩
    intro a ha b hb e
    simp at hb
    subst hb; subst e; exact hq ha
  · intro q hq'
    rcases List.mem_append.1 hq' with h' | h'
    · exact h.inr q h'
    · simp at h'; subst h'; exact hg
  · intro r hr
    by_cases e : r = p
    · subst e; rw [getD_app _ _ _ hk]; exact ⟨by simp; omega, by simp⟩
    · have hc := h.clo r (by omega)
      rw [getD_app _ _ _ hc.1]
      exact ⟨by simp; omega, List.mem_append_left _ hc.2⟩
  · intro r hr
    by_cases e : r = p
    · subst e; rw [hnew, hcm r (Nat.le_refl _), h.cm]; exact Nat.le_refl _
    · rw [hst r (by omega), hcm r (by omega)]; exact h.num r (by omega)
  · intro i hi
    by_cases e : 8 * i = p
    · rw [hcm _ (by omega), e, h.cm]; have : p / 8 = i := by omega
      omega
    · rw [hcm _ (by omega)]; exact h.row i (by omega)
  · simp only [come, hcm p (Nat.le_refl _), h.cm, hnew, List.length_append, List.length_singleton]
    exact Nat.max_eq_right (Nat.le_succ _)
end
def succQ (M N : Tab) (q c : Nat) : Nat := M.nxt (q / 40) c * 40 + N.nxt (q % 40) c
def goodQ (M N : Tab) (q : Nat) : Prop := q / 40 < M.n ∧ q % 40 < N.n
theorem PRel.bound {M N : Tab} {ps : List Nat} {p : Nat} (hN : N.Ok) (h : PRel (goodQ M N) (succQ M N) ps p) : ps.length ≤ M.n * N.n := by
  have h1 := nodup_bound (M.n * N.n) (ps.map fun q => q / 40 * N.n + q % 40) ?_ ?_
  · simpa using h1
  · rw [List.Nodup, List.pairwise_map]
    refine List.Pairwise.imp_of_mem ?_ h.nd
    · intro a b ha hb hne e
      have h1 := h.inr a ha
      have h2 := h.inr b hb
      apply hne
      have g1 := h1.2
      have g2 := h2.2
      have e1 : (a / 40 * N.n + a % 40) / N.n = a / 40 := by
        rw [Nat.mul_comm, Nat.mul_add_div (by omega), Nat.div_eq_of_lt g1]; omega
      have e2 : (b / 40 * N.n + b % 40) / N.n = b / 40 := by
        rw [Nat.mul_comm, Nat.mul_add_div (by omega), Nat.div_eq_of_lt g2]; omega
      have ed : a / 40 = b / 40 := by rw [← e1, ← e2, e]
      rw [ed] at e
      omega
  · intro x hx
    simp only [List.mem_map] at hx
    obtain ⟨q, hq, rfl⟩ := hx
    have h1 := h.inr q hq
    have : (q / 40 + 1) * N.n ≤ M.n * N.n := Nat.mul_le_mul_right _ h1.1
    have h2 := h1.2
    rw [Nat.add_mul] at this
    omega
theorem getD_idxOf (ps : List Nat) (q : Nat) (h : q ∈ ps) : ps.getD (ps.idxOf q) 0 = q := by
  have hl := List.idxOf_lt_length_of_mem h
  rw [List.getD_eq_getElem?_getD, List.getElem?_eq_getElem hl]
  simp [List.getElem_idxOf]
theorem apart_le {M N : Tab} {L : List Nat → Bool} (hM : IsLeast M L) (hN : Numbered N) (hL : ∀ x, Notes x → N.accepts x = L x) (hs : List Nat) (hlt : ∀ c, c < hs.length → hs.getD c 0 < N.n)
    (hap : ∀ c d, c < d → d < hs.length → Apart N (hs.getD c 0) (hs.getD d 0)) : hs.length ≤ M.n := by
  have hex : ∀ s, ∃ x, s < N.n → Notes x ∧ N.read 0 x = s := fun s => by
    by_cases hs : s < N.n
    · obtain ⟨x, h⟩ := hN.reach s hs; exact ⟨x, fun _ => h⟩
    · exact ⟨[], fun h => absurd h hs⟩
  let g := fun s => Classical.choose (hex s)
  have hg : ∀ s, s < N.n → Notes (g s) ∧ N.read 0 (g s) = s := fun s => Classical.choose_spec (hex s)
  have key : ∀ c d, c < d → d < hs.length → M.read 0 (g (hs.getD c 0)) ≠ M.read 0 (g (hs.getD d 0)) := by
    intro c d hcd hd e
    obtain ⟨z, hz, hdf⟩ := hap c d hcd hd
    apply hdf
    have ha' := hg _ (hlt c (by omega))
    have hb' := hg _ (hlt d hd)
    have nt : ∀ x, Notes x → Notes (x ++ z) := fun x hx c hc => by
      rcases List.mem_append.1 hc with h | h
      · exact hx c h
      · exact hz c h
    have ea := hM.lang _ (nt _ ha'.1)
    have eb := hM.lang _ (nt _ hb'.1)
    rw [← hL _ (nt _ ha'.1)] at ea
    rw [← hL _ (nt _ hb'.1)] at eb
    simp only [Tab.accepts, Tab.read_append] at ea eb
    rw [ha'.2] at ea
    rw [hb'.2] at eb
    rw [← ea, ← eb, e]
  have h1 := nodup_bound M.n ((List.range hs.length).map fun c => M.read 0 (g (hs.getD c 0))) ?_ ?_
  · simpa using h1
  · refine List.Pairwise.map _ (fun a b h => h) ?_
    rw [List.pairwise_iff_getElem]
    intro i j hi hj hij
    simp only [List.getElem_range]
    exact key i j hij (by simpa using hj)
  · intro x hx
    simp only [List.mem_map, List.mem_range] at hx
    obtain ⟨c, hc, rfl⟩ := hx
    exact hM.num.read_lt 0 hM.num.pos _ (hg _ (hlt c hc)).1
end Go.Proofs.Ytpngikmcjkjdaab

namespace Go.Proofs.Ytpngikmcjkjdaab
open Go.RowKit
set_option linter.unusedVariables false
def LeastPost (L : List Nat → Bool) (budget bound : Nat) (w : World) (e : Ending) (w' : World) : Prop :=
  Below w.heap.size w w' ∧
    ((∃ (R : Tab) (V : Lay), IsLeast R L ∧ R.n ≤ budget ∧ e = .returned (.tuple #[.agg #[.slice (some ⟨V.ba, V.oa, none⟩) R.n V.ca, .slice (some ⟨V.bn, V.on, none⟩) R.n V.cn], .int .i64 0]) ∧ TabAt w' V R ∧ V.From w.heap.size R.n ∧ Fresh w' V R.n) ∨
     (e = .returned (.tuple #[.agg #[.slice none 0 0, .slice none 0 0], .int .i64 5]) ∧ budget < bound ∧ ∀ R, IsLeast R L → budget < R.n))
theorem apart_ne {M : Tab} {i j : Nat} (h : Apart M i j) : i ≠ j := by
  intro e; subst e; obtain ⟨x, _, hd⟩ := h; exact hd rfl
theorem heads_le {M : Tab} (hs : List Nat) (hlt : ∀ c, c < hs.length → hs.getD c 0 < M.n) (hap : ∀ c d, c < d → d < hs.length → Apart M (hs.getD c 0) (hs.getD d 0)) : hs.length ≤ M.n := by
  refine nodup_bound M.n hs ?_ ?_
  · rw [List.Nodup, List.pairwise_iff_getElem]
    intro i j hi hj hij e
    have := apart_ne (hap i j hij hj)
    rw [List.getD_eq_getElem?_getD, List.getElem?_eq_getElem hi, List.getD_eq_getElem?_getD, List.getElem?_eq_getElem hj] at this
    exact this e
  · intro x hx
    obtain ⟨c, hc, rfl⟩ := mem_getD hx
    exact hlt c hc
theorem res_alloc {w : World} {b : Nat} {x y u v : Value} {t : TypeId} (h : w.heap[b]? = some (.cells #[x, y] t (0, 0))) (o : Obj) :
    (((w.setCell ⟨b, 0, none⟩ u).setCell ⟨b, 1, none⟩ v).alloc o).cell? ⟨b, 0, none⟩ = some u ∧ (((w.setCell ⟨b, 0, none⟩ u).setCell ⟨b, 1, none⟩ v).alloc o).cell? ⟨b, 1, none⟩ = some v :=
  ⟨(cell_two (heap_at_old (two_set1 (two_set0 h)))).1, (cell_two (heap_at_old (two_set1 (two_set0 h)))).2.1⟩
theorem below_res {w w5 : World} {b : Nat} (h : Below w.heap.size w w5) (hb : w.heap.size ≤ b) (u v : Value) : Below w.heap.size w ((w5.setCell ⟨b, 0, none⟩ u).setCell ⟨b, 1, none⟩ v) :=
  (h.setCell (p := ⟨b, 0, none⟩) hb _).setCell (p := ⟨b, 1, none⟩) hb _
theorem TabAt.res {w : World} {V : Lay} {M : Tab} (h : TabAt w V M) {N b : Nat} (hV : V.From N M.n) (hb : b < N) (u v : Value) : TabAt ((w.setCell ⟨b, 0, none⟩ u).setCell ⟨b, 1, none⟩ v) V M :=
  (h.set hV (p := ⟨b, 0, none⟩) hb u).set hV (p := ⟨b, 1, none⟩) hb v
theorem Lay.From.mono {V : Lay} {N N' n : Nat} (h : V.From N n) (hN : N' ≤ N) : V.From N' n := ⟨by have := h.a; omega, by have := h.b; omega, fun i hi => by have := h.r i hi; omega⟩
theorem Try.infoE : (Try.prog.info? 113).map (fun i => (i.zero, i.size, i.bytes)) = some (some (.agg #[.int .i64 0, .int .i64 0, .int .i64 0, .int .i64 0, .int .i64 0, .int .i64 0, .int .i64 0, .int .i64 0]), 8, 64) := by kernel_rfl
theorem cells_new (w : World) (l : Array Value) (t : TypeId) : ∀ j u, l.toList[j]? = some u → (w.alloc (.cells l t)).cell? ((⟨w.heap.size, 0, none⟩ : Addr).add j) = some u := by
  intro j u hu
  have hadd : (⟨w.heap.size, 0, none⟩ : Addr).add j = ⟨w.heap.size, j, none⟩ := by unfold Addr.add; split <;> simp_all
  rw [hadd, cell_of_row (w.alloc (.cells l t)) w.heap.size j l t (0, 0) (heap_at_new rfl)]
  simpa using hu
structure Touch (S : Nat → Prop) (w w' : World) : Prop where
  os : w'.os = w.os
  tape : w'.tape = w.tape
  output : w'.output = w.output
  size : w.heap.size ≤ w'.heap.size
  block : ∀ k, k < w.heap.size → ¬ S k → w'.heap[k]? = w.heap[k]?
theorem Touch.below {S : Nat → Prop} {W w w' : World} {B : Nat} (h : Touch S w w') (hb : Below B W w) (hB : B ≤ w.heap.size) (hS : ∀ k, S k → B ≤ k) : Below B W w' :=
  ⟨h.os.trans hb.os, h.tape.trans hb.tape, h.output.trans hb.output, Nat.le_trans hb.size h.size, fun k hk => (h.block k (by omega) (fun hs => by have := hS k hs; omega)).trans (hb.block k hk)⟩
theorem Touch.own {S : Nat → Prop} {w w' : World} {base e s n : Nat} {v : Value} {x : List Value} (h : Touch S w w') (ho : w.ownsRow base e s v n x) (hS : ∀ g, v.ownBlock = some g → ¬ S g) : w'.ownsRow base e s v n x := by
  refine ⟨ho.1, ?_⟩
  rcases ho.2 with ⟨rfl, hn⟩ | ⟨g, cap, cur, rfl, hb, hg, r⟩
  · exact .inl ⟨rfl, hn⟩
  · exact .inr ⟨g, cap, cur, rfl, hb, by rw [h.block g (heap_lt hg) (hS g rfl)]; exact hg, r⟩
theorem Touch.row {S : Nat → Prop} {w w' : World} {b t n : Nat} {f : Nat → Value} (h : Touch S w w') (hr : w.rowIs b t n f) (hS : ¬ S b) : w'.rowIs b t n f := hr.of_block (h.block b hr.lt hS)
theorem Touch.heap {S : Nat → Prop} {w w' : World} {b : Nat} {o : Obj} (h : Touch S w w') (hr : w.heap[b]? = some o) (hS : ¬ S b) : w'.heap[b]? = some o := by rw [h.block b (heap_lt hr) hS]; exact hr
theorem Touch.alloc {S : Nat → Prop} {w w' : World} (h : Touch S w w') (o : Obj) : Touch S w (w'.alloc o) :=
  ⟨h.os, h.tape, h.output, Nat.le_trans h.size (by simp), fun k hk hs => (Below.heap_alloc w' o k (Nat.lt_of_lt_of_le hk h.size)).trans (h.block k hk hs)⟩
theorem Touch.set {S : Nat → Prop} {w w' : World} (h : Touch S w w') (a : Addr) (u : Value) (ha : S a.block ∨ w.heap.size ≤ a.block) : Touch S w (w'.setCell a u) :=
  ⟨by rw [← h.os]; rfl, by rw [← h.tape]; rfl, by rw [← h.output]; rfl, Nat.le_trans h.size (by simp), fun k hk hs =>
    (Below.heap_setCell w' a u k (fun e => ha.elim (fun ha => hs (by rw [e]; exact ha)) (fun ha => by omega))).trans (h.block k hk hs)⟩
theorem Touch.grown {S : Nat → Prop} {w w' w2 : World} (h : Touch S w w') {row : Option Nat} (hg : w'.grownBy w2 row) (hr : ∀ k, row = some k → S k ∨ w.heap.size ≤ k) : Touch S w w2 :=
  ⟨hg.os.trans h.os, hg.tape.trans h.tape, hg.output.trans h.output, Nat.le_trans h.size hg.size, fun k hk hs =>
    (hg.block k (Nat.lt_of_lt_of_le hk h.size) (fun e => (hr k e.symm).elim (fun h1 => hs h1) (fun h1 => by omega))).trans (h.block k hk hs)⟩
theorem Touch.refl (S : Nat → Prop) (w : World) : Touch S w w := ⟨rfl, rfl, rfl, Nat.le_refl _, fun _ _ _ => rfl⟩
section
variable {w w2 : World}
theorem own_apart {base e e' s s' n n' : Nat} {v v' : Value} {x x' : List Value} (h : w.ownsRow base e s v n x) (h' : w.ownsRow base e' s' v' n' x') (hne : e ≠ e') (g : Nat) (hg : v.ownBlock = some g) (hg' : v'.ownBlock = some g) : False := by
  rcases h.2 with ⟨rfl, _⟩ | ⟨a, cap, cur, rfl, _, h1, _⟩
  · simp [Value.ownBlock] at hg
  · rcases h'.2 with ⟨rfl, _⟩ | ⟨a', cap', cur', rfl, _, h2, _⟩
    · simp [Value.ownBlock] at hg'
    · simp only [Value.ownBlock, Option.some.injEq] at hg hg'
      subst hg; subst hg'
      rw [h1] at h2
      simp only [Option.some.injEq, Obj.cells.injEq] at h2
      exact hne h2.2.1
theorem rowIs_grown {b t n : Nat} {f : Nat → Value} (h : w.rowIs b t n f) {row : Option Nat} (hg : w.grownBy w2 row) (hne : row ≠ some b) : w2.rowIs b t n f :=
  h.of_block (hg.block b h.lt (fun e => hne e.symm))
theorem ownsRow_set {base e s n : Nat} {v : Value} {x : List Value} (h : w.ownsRow base e s v n x) (a : Addr) (u : Value) (hne : ∀ g, v.ownBlock = some g → g ≠ a.block) : (w.setCell a u).ownsRow base e s v n x :=
  ownsRow_setCell_other h (fun e => hne _ e rfl) u
end
def row8 (r : Nat → Nat) : Array Value := #[.int .i64 ((r 0 : Nat) : Int), .int .i64 ((r 1 : Nat) : Int), .int .i64 ((r 2 : Nat) : Int), .int .i64 ((r 3 : Nat) : Int), .int .i64 ((r 4 : Nat) : Int), .int .i64 ((r 5 : Nat) : Int), .int .i64 ((r 6 : Nat) : Int), .int .i64 ((r 7 : Nat) : Int)]
theorem Try.idx0 (x0 x1 x2 x3 x4 x5 x6 x7 : Value) (w : World) : (Instr.index 113 (.agg #[x0, x1, x2, x3, x4, x5, x6, x7]) (.int .i64 0)).run Try.prog w = .ok x0 w := by kernel_rfl
theorem Try.idx1 (x0 x1 x2 x3 x4 x5 x6 x7 : Value) (w : World) : (Instr.index 113 (.agg #[x0, x1, x2, x3, x4, x5, x6, x7]) (.int .i64 1)).run Try.prog w = .ok x1 w := by kernel_rfl
theorem Try.idx2 (x0 x1 x2 x3 x4 x5 x6 x7 : Value) (w : World) : (Instr.index 113 (.agg #[x0, x1, x2, x3, x4, x5, x6, x7]) (.int .i64 2)).run Try.prog w = .ok x2 w := by kernel_rfl
theorem Try.idx3 (x0 x1 x2 x3 x4 x5 x6 x7 : Value) (w : World) : (Instr.index 113 (.agg #[x0, x1, x2, x3, x4, x5, x6, x7]) (.int .i64 3)).run Try.prog w = .ok x3 w := by kernel_rfl
theorem Try.idx4 (x0 x1 x2 x3 x4 x5 x6 x7 : Value) (w : World) : (Instr.index 113 (.agg #[x0, x1, x2, x3, x4, x5, x6, x7]) (.int .i64 4)).run Try.prog w = .ok x4 w := by kernel_rfl
theorem Try.idx5 (x0 x1 x2 x3 x4 x5 x6 x7 : Value) (w : World) : (Instr.index 113 (.agg #[x0, x1, x2, x3, x4, x5, x6, x7]) (.int .i64 5)).run Try.prog w = .ok x5 w := by kernel_rfl
theorem Try.idx6 (x0 x1 x2 x3 x4 x5 x6 x7 : Value) (w : World) : (Instr.index 113 (.agg #[x0, x1, x2, x3, x4, x5, x6, x7]) (.int .i64 6)).run Try.prog w = .ok x6 w := by kernel_rfl
theorem Try.idx7 (x0 x1 x2 x3 x4 x5 x6 x7 : Value) (w : World) : (Instr.index 113 (.agg #[x0, x1, x2, x3, x4, x5, x6, x7]) (.int .i64 7)).run Try.prog w = .ok x7 w := by kernel_rfl
set_option maxRecDepth 20000 in
set_option maxHeartbeats 2000000 in
theorem inOrder_ok (gn cn : Nat) (M : Tab) (w : World) (hcel : ∀ i c, i < M.n → c < 8 → w.cell? ⟨gn, i * 8 + c, none⟩ = some (.int .i64 (M.nxt i c))) (hN : Numbered M) (hn : M.n ≤ 100000000) :
    Calls Try.prog 74 #[.slice (some ⟨gn, 0, none⟩) M.n cn] w fun e w' => e = .returned (.bool true) ∧ w' = w := by
  have hcl := come_le hN
  go_enter Try.func74, Try.ntmps74
  go_wp2_with fail
  go_loop [3, 4] (fun cm i' => ∃ i : Nat, i ≤ M.n ∧ i' = .int .i64 i ∧ cm = .int .i64 (come M.nxt (8 * i))) (fun _ i' => M.n - (intOf i').toNat)
  case atStart => exact ⟨0, by omega, rfl, rfl⟩
  case round =>
    obtain ⟨i, hi, rfl, rfl⟩ := hrel
    have hc1 := hcl (8 * i) (by omega)
    have hcp := come_pos M.nxt (8 * i)
    by_cases hlt : i < M.n
    · have hrow := hN.row i hlt
      obtain ⟨cm0, HC0⟩ : ∃ x, Hid (come M.nxt (8 * i) = x) := ⟨_, rfl⟩
      rw [HC0.out] at hc1 hcp hrow ⊢
      have z0 := hcel i 0 hlt (by omega)
      have z1 := hcel i 1 hlt (by omega)
      have z2 := hcel i 2 hlt (by omega)
      have z3 := hcel i 3 hlt (by omega)
      have z4 := hcel i 4 hlt (by omega)
      have z5 := hcel i 5 hlt (by omega)
      have z6 := hcel i 6 hlt (by omega)
      have z7 := hcel i 7 hlt (by omega)
      rw [Nat.add_zero] at z0
      have HCL : Hid (∀ p, p ≤ 8 * M.n → come M.nxt p ≤ M.n) := hcl
      clear hcl hcel
      go_wp2_with fail
      clear z0 z1 z2 z3 z4 z5 z6 z7
      go_loop [3, 6, 20] (fun cm _ c' => ∃ c : Nat, c ≤ 8 ∧ c' = .int .i64 c ∧ cm = .int .i64 (come M.nxt (8 * i + c))) (fun _ _ c' => 8 - (intOf c').toNat)
      case atStart => exact ⟨0, by omega, rfl, by simp only [Nat.add_zero]; rw [HC0.out]⟩
      case round =>
        obtain ⟨c, hc, rfl, rfl⟩ := hrel
        have hc2 := HCL.out (8 * i + c) (by omega)
        have hcp2 := come_pos M.nxt (8 * i + c)
        by_cases hl8 : c < 8
        · have hnx := hN.nx i c hlt hl8
          have hst := hN.step (8 * i + c) (by omega)
          have HCS : Hid (come M.nxt (8 * i + (c + 1)) = max (come M.nxt (8 * i + c)) (M.nxt i c + 1)) := by
            unfold Hid; rw [← Nat.add_assoc]; simp only [come]
            rw [show (8 * i + c) / 8 = i by omega, show (8 * i + c) % 8 = c by omega]
          rw [show (8 * i + c) / 8 = i by omega, show (8 * i + c) % 8 = c by omega] at hst
          obtain ⟨cm, HC⟩ : ∃ x, Hid (come M.nxt (8 * i + c) = x) := ⟨_, rfl⟩
          have HCS2 : Hid (come M.nxt (8 * i + (c + 1)) = max cm (M.nxt i c + 1)) := by unfold Hid; rw [← HC.out]; exact HCS.out
          rw [HC.out] at hc2 hcp2 hst ⊢
          rcases (show c = 0 ∨ c = 1 ∨ c = 2 ∨ c = 3 ∨ c = 4 ∨ c = 5 ∨ c = 6 ∨ c = 7 by omega) with rfl | rfl | rfl | rfl | rfl | rfl | rfl | rfl
          · have ix := Try.idx0 (.int .i64 (M.nxt i 0)) (.int .i64 (M.nxt i 1)) (.int .i64 (M.nxt i 2)) (.int .i64 (M.nxt i 3)) (.int .i64 (M.nxt i 4)) (.int .i64 (M.nxt i 5)) (.int .i64 (M.nxt i 6)) (.int .i64 (M.nxt i 7))
            by_cases hq : M.nxt i 0 = cm
            · have hb : ((M.nxt i 0 : Int) == (cm : Int)) = true := by simp; omega
              have HQ : Hid (M.nxt i 0 = cm) := hq
              clear hq
              go_wp2_with fail
              go_round
              case rel =>
                refine ⟨0 + 1, by omega, by go_num, ?_⟩
                have := HQ.out
                rw [HCS2.out, show max cm (M.nxt i 0 + 1) = cm + 1 by omega]; go_num
              case measure => simp [intOf]
            · have hb : ((M.nxt i 0 : Int) == (cm : Int)) = false := by simp; omega
              have HQ : Hid (M.nxt i 0 < cm) := by unfold Hid; omega
              clear hq
              go_wp2_with fail
              go_round
              case rel =>
                refine ⟨0 + 1, by omega, by go_num, ?_⟩
                have := HQ.out
                rw [HCS2.out, show max cm (M.nxt i 0 + 1) = cm by omega]
              case measure => simp [intOf]
          · have ix := Try.idx1 (.int .i64 (M.nxt i 0)) (.int .i64 (M.nxt i 1)) (.int .i64 (M.nxt i 2)) (.int .i64 (M.nxt i 3)) (.int .i64 (M.nxt i 4)) (.int .i64 (M.nxt i 5)) (.int .i64 (M.nxt i 6)) (.int .i64 (M.nxt i 7))
            by_cases hq : M.nxt i 1 = cm
            · have hb : ((M.nxt i 1 : Int) == (cm : Int)) = true := by simp; omega
              have HQ : Hid (M.nxt i 1 = cm) := hq
              clear hq
              go_wp2_with fail
              go_round
              case rel =>
                refine ⟨1 + 1, by omega, by go_num, ?_⟩
                have := HQ.out
                rw [HCS2.out, show max cm (M.nxt i 1 + 1) = cm + 1 by omega]; go_num
              case measure => simp [intOf]
            · have hb : ((M.nxt i 1 : Int) == (cm : Int)) = false := by simp; omega
              have HQ : Hid (M.nxt i 1 < cm) := by unfold Hid; omega
              clear hq
              go_wp2_with fail
              go_round
              case rel =>
                refine ⟨1 + 1, by omega, by go_num, ?_⟩
                have := HQ.out
                rw [HCS2.out, show max cm (M.nxt i 1 + 1) = cm by omega]
              case measure => simp [intOf]
          · have ix := Try.idx2 (.int .i64 (M.nxt i 0)) (.int .i64 (M.nxt i 1)) (.int .i64 (M.nxt i 2)) (.int .i64 (M.nxt i 3)) (.int .i64 (M.nxt i 4)) (.int .i64 (M.nxt i 5)) (.int .i64 (M.nxt i 6)) (.int .i64 (M.nxt i 7))
            by_cases hq : M.nxt i 2 = cm
            · have hb : ((M.nxt i 2 : Int) == (cm : Int)) = true := by simp; omega
              have HQ : Hid (M.nxt i 2 = cm) := hq
              clear hq
              go_wp2_with fail
              go_round
              case rel =>
                refine ⟨2 + 1, by omega, by go_num, ?_⟩
                have := HQ.out
                rw [HCS2.out, show max cm (M.nxt i 2 + 1) = cm + 1 by omega]; go_num
              case measure => simp [intOf]
            · have hb : ((M.nxt i 2 : Int) == (cm : Int)) = false := by simp; omega
              have HQ : Hid (M.nxt i 2 < cm) := by unfold Hid; omega
              clear hq
              go_wp2_with fail
              go_round
              case rel =>
                refine ⟨2 + 1, by omega, by go_num, ?_⟩
                have := HQ.out
                rw [HCS2.out, show max cm (M.nxt i 2 + 1) = cm by omega]
              case measure => simp [intOf]
          · have ix := Try.idx3 (.int .i64 (M.nxt i 0)) (.int .i64 (M.nxt i 1)) (.int .i64 (M.nxt i 2)) (.int .i64 (M.nxt i 3)) (.int .i64 (M.nxt i 4)) (.int .i64 (M.nxt i 5)) (.int .i64 (M.nxt i 6)) (.int .i64 (M.nxt i 7))
            by_cases hq : M.nxt i 3 = cm
            · have hb : ((M.nxt i 3 : Int) == (cm : Int)) = true := by simp; omega
              have HQ : Hid (M.nxt i 3 = cm) := hq
              clear hq
              go_wp2_with fail
              go_round
              case rel =>
                refine ⟨3 + 1, by omega, by go_num, ?_⟩
                have := HQ.out
                rw [HCS2.out, show max cm (M.nxt i 3 + 1) = cm + 1 by omega]; go_num
              case measure => simp [intOf]
            · have hb : ((M.nxt i 3 : Int) == (cm : Int)) = false := by simp; omega
              have HQ : Hid (M.nxt i 3 < cm) := by unfold Hid; omega
              clear hq
              go_wp2_with fail
              go_round
              case rel =>
                refine ⟨3 + 1, by omega, by go_num, ?_⟩
                have := HQ.out
                rw [HCS2.out, show max cm (M.nxt i 3 + 1) = cm by omega]
              case measure => simp [intOf]
          · have ix := Try.idx4 (.int .i64 (M.nxt i 0)) (.int .i64 (M.nxt i 1)) (.int .i64 (M.nxt i 2)) (.int .i64 (M.nxt i 3)) (.int .i64 (M.nxt i 4)) (.int .i64 (M.nxt i 5)) (.int .i64 (M.nxt i 6)) (.int .i64 (M.nxt i 7))
            by_cases hq : M.nxt i 4 = cm
            · have hb : ((M.nxt i 4 : Int) == (cm : Int)) = true := by simp; omega
              have HQ : Hid (M.nxt i 4 = cm) := hq
              clear hq
              go_wp2_with fail
              go_round
              case rel =>
                refine ⟨4 + 1, by omega, by go_num, ?_⟩
                have := HQ.out
                rw [HCS2.out, show max cm (M.nxt i 4 + 1) = cm + 1 by omega]; go_num
              case measure => simp [intOf]
            · have hb : ((M.nxt i 4 : Int) == (cm : Int)) = false := by simp; omega
              have HQ : Hid (M.nxt i 4 < cm) := by unfold Hid; omega
              clear hq
              go_wp2_with fail
              go_round
              case rel =>
                refine ⟨4 + 1, by omega, by go_num, ?_⟩
                have := HQ.out
                rw [HCS2.out, show max cm (M.nxt i 4 + 1) = cm by omega]
              case measure => simp [intOf]
          · have ix := Try.idx5 (.int .i64 (M.nxt i 0)) (.int .i64 (M.nxt i 1)) (.int .i64 (M.nxt i 2)) (.int .i64 (M.nxt i 3)) (.int .i64 (M.nxt i 4)) (.int .i64 (M.nxt i 5)) (.int .i64 (M.nxt i 6)) (.int .i64 (M.nxt i 7))
            by_cases hq : M.nxt i 5 = cm
            · have hb : ((M.nxt i 5 : Int) == (cm : Int)) = true := by simp; omega
              have HQ : Hid (M.nxt i 5 = cm) := hq
              clear hq
              go_wp2_with fail
              go_round
              case rel =>
                refine ⟨5 + 1, by omega, by go_num, ?_⟩
                have := HQ.out
                rw [HCS2.out, show max cm (M.nxt i 5 + 1) = cm + 1 by omega]; go_num
              case measure => simp [intOf]
            · have hb : ((M.nxt i 5 : Int) == (cm : Int)) = false := by simp; omega
              have HQ : Hid (M.nxt i 5 < cm) := by unfold Hid; omega
              clear hq
              go_wp2_with fail
              go_round
              case rel =>
                refine ⟨5 + 1, by omega, by go_num, ?_⟩
                have := HQ.out
                rw [HCS2.out, show max cm (M.nxt i 5 + 1) = cm by omega]
              case measure => simp [intOf]
          · have ix := Try.idx6 (.int .i64 (M.nxt i 0)) (.int .i64 (M.nxt i 1)) (.int .i64 (M.nxt i 2)) (.int .i64 (M.nxt i 3)) (.int .i64 (M.nxt i 4)) (.int .i64 (M.nxt i 5)) (.int .i64 (M.nxt i 6)) (.int .i64 (M.nxt i 7))
            by_cases hq : M.nxt i 6 = cm
            · have hb : ((M.nxt i 6 : Int) == (cm : Int)) = true := by simp; omega
              have HQ : Hid (M.nxt i 6 = cm) := hq
              clear hq
              go_wp2_with fail
              go_round
              case rel =>
                refine ⟨6 + 1, by omega, by go_num, ?_⟩
                have := HQ.out
                rw [HCS2.out, show max cm (M.nxt i 6 + 1) = cm + 1 by omega]; go_num
              case measure => simp [intOf]
            · have hb : ((M.nxt i 6 : Int) == (cm : Int)) = false := by simp; omega
              have HQ : Hid (M.nxt i 6 < cm) := by unfold Hid; omega
              clear hq
              go_wp2_with fail
              go_round
              case rel =>
                refine ⟨6 + 1, by omega, by go_num, ?_⟩
                have := HQ.out
                rw [HCS2.out, show max cm (M.nxt i 6 + 1) = cm by omega]
              case measure => simp [intOf]
          · have ix := Try.idx7 (.int .i64 (M.nxt i 0)) (.int .i64 (M.nxt i 1)) (.int .i64 (M.nxt i 2)) (.int .i64 (M.nxt i 3)) (.int .i64 (M.nxt i 4)) (.int .i64 (M.nxt i 5)) (.int .i64 (M.nxt i 6)) (.int .i64 (M.nxt i 7))
            by_cases hq : M.nxt i 7 = cm
            · have hb : ((M.nxt i 7 : Int) == (cm : Int)) = true := by simp; omega
              have HQ : Hid (M.nxt i 7 = cm) := hq
              clear hq
              go_wp2_with fail
              go_round
              case rel =>
                refine ⟨7 + 1, by omega, by go_num, ?_⟩
                have := HQ.out
                rw [HCS2.out, show max cm (M.nxt i 7 + 1) = cm + 1 by omega]; go_num
              case measure => simp [intOf]
            · have hb : ((M.nxt i 7 : Int) == (cm : Int)) = false := by simp; omega
              have HQ : Hid (M.nxt i 7 < cm) := by unfold Hid; omega
              clear hq
              go_wp2_with fail
              go_round
              case rel =>
                refine ⟨7 + 1, by omega, by go_num, ?_⟩
                have := HQ.out
                rw [HCS2.out, show max cm (M.nxt i 7 + 1) = cm by omega]
              case measure => simp [intOf]
        · have he : c = 8 := by omega
          subst he
          rw [show 8 * i + 8 = 8 * (i + 1) by omega] at hc2 hcp2 ⊢
          obtain ⟨cm, HC⟩ : ∃ x, Hid (come M.nxt (8 * (i + 1)) = x) := ⟨_, rfl⟩
          rw [HC.out] at hc2 hcp2 ⊢
          go_wp2_with fail
          go_round
          case rel => exact ⟨i + 1, by omega, by go_num, by rw [HC.out]⟩
          case measure => simp [intOf]; omega
    · have he : i = M.n := by omega
      subst he
      rw [hN.all]
      have hb : ((M.n : Int) == (M.n : Int)) = true := by simp
      clear hcl hc1 hcp hcel
      go_wp2_with fail
      go_ret
      exact ⟨rfl, rfl⟩
end Go.Proofs.Ytpngikmcjkjdaab
