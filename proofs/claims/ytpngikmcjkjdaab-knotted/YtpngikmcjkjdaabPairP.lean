import Derived.Test.YtpngikmcjkjdaabCanon
namespace Go.Proofs.Ytpngikmcjkjdaab
set_option linter.unusedVariables false

theorem nodup_bound : ∀ (N : Nat) (l : List Nat), l.Nodup → (∀ x ∈ l, x < N) → l.length ≤ N := by
  intro N
  induction N with
  | zero =>
    intro l _ h
    cases l with
    | nil => simp
    | cons a s => exact absurd (h a (by simp)) (by omega)
  | succ N ih =>
    intro l hn h
    have h1 := ih (l.erase N) (hn.erase N) (fun x hx => by
      have := (hn.mem_erase_iff).1 hx
      have := h x this.2
      omega)
    have h2 : l.length ≤ (l.erase N).length + 1 := by rw [List.length_erase]; split <;> omega
    omega

/-- Which number a pair has. -/
def pn (S : Nat → Nat → Nat) (ps : List Nat) (k c : Nat) : Nat := ps.idxOf (S (ps.getD k 0) c)

/-- The pairs that have been come to when p places have been looked at. -/
structure PRel (good : Nat → Prop) (S : Nat → Nat → Nat) (ps : List Nat) (p : Nat) : Prop where
  len : 1 ≤ ps.length
  hd : ps.getD 0 0 = 0
  nd : ps.Nodup
  inr : ∀ q ∈ ps, good q
  clo : ∀ r, r < p → r / 8 < ps.length ∧ S (ps.getD (r / 8) 0) (r % 8) ∈ ps
  num : ∀ r, r < p → pn S ps (r / 8) (r % 8) ≤ come (pn S ps) r
  row : ∀ i, 8 * i < p → i < come (pn S ps) (8 * i)
  cm : come (pn S ps) p = ps.length

section
variable {good : Nat → Prop} {S : Nat → Nat → Nat} {ps : List Nat} {p : Nat}

theorem PRel.start (h : good 0) : PRel good S [0] 0 :=
  ⟨by simp, rfl, by simp, by intro q hq; simp at hq; subst hq; exact h, fun r hr => absurd hr (by omega), fun r hr => absurd hr (by omega), fun i hi => absurd hi (by omega), rfl⟩

theorem PRel.old (h : PRel good S ps p) (hk : p / 8 < ps.length) (hq : S (ps.getD (p / 8) 0) (p % 8) ∈ ps) : PRel good S ps (p + 1) where
  len := h.len
  hd := h.hd
  nd := h.nd
  inr := h.inr
  clo r hr := by
    by_cases e : r = p
    · subst e; exact ⟨hk, hq⟩
    · exact h.clo r (by omega)
  num r hr := by
    by_cases e : r = p
    · subst e; have := List.idxOf_lt_length_of_mem hq; rw [h.cm]; exact Nat.le_of_lt this
    · exact h.num r (by omega)
  row i hi := by
    by_cases e : 8 * i = p
    · rw [e, h.cm]; have : p / 8 = i := by omega
      omega
    · exact h.row i (by omega)
  cm := by
    have hl : pn S ps (p / 8) (p % 8) < ps.length := List.idxOf_lt_length_of_mem hq
    simp only [come, h.cm]
    exact Nat.max_eq_left hl

theorem getD_app (l : List Nat) (x i : Nat) (h : i < l.length) : (l ++ [x]).getD i 0 = l.getD i 0 := getD_snoc_lt l x i h

theorem PRel.new (h : PRel good S ps p) (hk : p / 8 < ps.length) (hq : S (ps.getD (p / 8) 0) (p % 8) ∉ ps) (hg : good (S (ps.getD (p / 8) 0) (p % 8))) :
    PRel good S (ps ++ [S (ps.getD (p / 8) 0) (p % 8)]) (p + 1) := by
  have hst : ∀ r, r < p → pn S (ps ++ [S (ps.getD (p / 8) 0) (p % 8)]) (r / 8) (r % 8) = pn S ps (r / 8) (r % 8) := by
    intro r hr
    have hc := h.clo r hr
    simp only [pn]
    rw [getD_app _ _ _ hc.1, List.idxOf_append, if_pos hc.2]
  have hnew : pn S (ps ++ [S (ps.getD (p / 8) 0) (p % 8)]) (p / 8) (p % 8) = ps.length := by
    simp only [pn]
    rw [getD_app _ _ _ hk, List.idxOf_append, if_neg hq]
    simp
  have hcm : ∀ r, r ≤ p → come (pn S (ps ++ [S (ps.getD (p / 8) 0) (p % 8)])) r = come (pn S ps) r := fun r hr => come_congr r (fun q hq' => hst q (by omega))
  refine ⟨by simp, ?_, ?_, ?_, ?_, ?_, ?_, ?_⟩
  · rw [getD_app _ _ _ h.len]; exact h.hd
  · rw [List.nodup_append]; refine ⟨h.nd, by simp, ?_⟩
    intro a ha b hb e
    simp at hb
    subst hb; subst e; exact hq ha
  · intro q hq'
    rcases List.mem_append.1 hq' with h' | h'
    · exact h.inr q h'
    · simp at h'; subst h'; exact hg
  · intro r hr
    by_cases e : r = p
    · subst e; rw [getD_app _ _ _ hk]; exact ⟨by simp; omega, by simp⟩
    · have hc := h.clo r (by omega)
      rw [getD_app _ _ _ hc.1]
      exact ⟨by simp; omega, List.mem_append_left _ hc.2⟩
  · intro r hr
    by_cases e : r = p
    · subst e; rw [hnew, hcm r (Nat.le_refl _), h.cm]; exact Nat.le_refl _
    · rw [hst r (by omega), hcm r (by omega)]; exact h.num r (by omega)
  · intro i hi
    by_cases e : 8 * i = p
    · rw [hcm _ (by omega), e, h.cm]; have : p / 8 = i := by omega
      omega
    · rw [hcm _ (by omega)]; exact h.row i (by omega)
  · simp only [come, hcm p (Nat.le_refl _), h.cm, hnew, List.length_append, List.length_singleton]
    exact Nat.max_eq_right (Nat.le_succ _)
end

/-- Joined by how. -/
def joinB (how : Int) (a b : Bool) : Bool := if how = 0 then a && b else if how = 1 then a || b else if how = 2 then a && !b else a != b

/-- Where a pair of states goes, by its code. -/
def succQ (M N : Tab) (q c : Nat) : Nat := M.nxt (q / 40) c * 40 + N.nxt (q % 40) c
def goodQ (M N : Tab) (q : Nat) : Prop := q / 40 < M.n ∧ q % 40 < N.n
/-- The wide table of the pairs. -/
def pairTab (M N : Tab) (how : Int) (ps : List Nat) : Tab where
  n := ps.length
  acc k := joinB how (M.acc (ps.getD k 0 / 40)) (N.acc (ps.getD k 0 % 40))
  nxt := pn (succQ M N) ps

theorem goodQ_succ {M N : Tab} (hM : M.Ok) (hN : N.Ok) {q c : Nat} (h : goodQ M N q) (hc : c < 8) : goodQ M N (succQ M N q c) ∧ succQ M N q c / 40 = M.nxt (q / 40) c ∧ succQ M N q c % 40 = N.nxt (q % 40) c := by
  have h1 := hM.nx _ c h.1 hc
  have h2 := hN.nx _ c h.2 hc
  have h3 := hN.hi
  have e1 : succQ M N q c / 40 = M.nxt (q / 40) c := by unfold succQ; omega
  have e2 : succQ M N q c % 40 = N.nxt (q % 40) c := by unfold succQ; omega
  exact ⟨⟨by rw [e1]; exact h1, by rw [e2]; exact h2⟩, e1, e2⟩

theorem PRel.bound {M N : Tab} {ps : List Nat} {p : Nat} (hN : N.Ok) (h : PRel (goodQ M N) (succQ M N) ps p) : ps.length ≤ M.n * N.n := by
  have h1 := nodup_bound (M.n * N.n) (ps.map fun q => q / 40 * N.n + q % 40) ?_ ?_
  · simpa using h1
  · rw [List.Nodup, List.pairwise_map]
    refine List.Pairwise.imp_of_mem ?_ h.nd
    · intro a b ha hb hne e
      have h1 := h.inr a ha
      have h2 := h.inr b hb
      apply hne
      have g1 := h1.2
      have g2 := h2.2
      have e1 : (a / 40 * N.n + a % 40) / N.n = a / 40 := by
        rw [Nat.mul_comm, Nat.mul_add_div (by omega), Nat.div_eq_of_lt g1]; omega
      have e2 : (b / 40 * N.n + b % 40) / N.n = b / 40 := by
        rw [Nat.mul_comm, Nat.mul_add_div (by omega), Nat.div_eq_of_lt g2]; omega
      have ed : a / 40 = b / 40 := by rw [← e1, ← e2, e]
      rw [ed] at e
      omega
  · intro x hx
    simp only [List.mem_map] at hx
    obtain ⟨q, hq, rfl⟩ := hx
    have h1 := h.inr q hq
    have : (q / 40 + 1) * N.n ≤ M.n * N.n := Nat.mul_le_mul_right _ h1.1
    have h2 := h1.2
    rw [Nat.add_mul] at this
    omega

theorem pair_numbered {M N : Tab} {how : Int} {ps : List Nat} (h : PRel (goodQ M N) (succQ M N) ps (8 * ps.length)) : Numbered (pairTab M N how ps) where
  pos := h.len
  nx i c hi hc := by
    have := (h.clo (8 * i + c) (by have : i < ps.length := hi; omega)).2
    rw [show (8 * i + c) / 8 = i by omega, show (8 * i + c) % 8 = c by omega] at this
    exact List.idxOf_lt_length_of_mem this
  step p hp := h.num p hp
  row i hi := h.row i (by have : i < ps.length := hi; omega)
  all := h.cm

theorem getD_idxOf (ps : List Nat) (q : Nat) (h : q ∈ ps) : ps.getD (ps.idxOf q) 0 = q := by
  have hl := List.idxOf_lt_length_of_mem h
  rw [List.getD_eq_getElem?_getD, List.getElem?_eq_getElem hl]
  simp [List.getElem_idxOf]

theorem pair_read {M N : Tab} (hM : M.Ok) (hN : N.Ok) {how : Int} {ps : List Nat} (h : PRel (goodQ M N) (succQ M N) ps (8 * ps.length)) (k : Nat) (hk : k < ps.length) (x : List Nat) (hx : Notes x) :
    (pairTab M N how ps).read k x < ps.length ∧ ps.getD ((pairTab M N how ps).read k x) 0 / 40 = M.read (ps.getD k 0 / 40) x ∧ ps.getD ((pairTab M N how ps).read k x) 0 % 40 = N.read (ps.getD k 0 % 40) x := by
  induction x generalizing k with
  | nil => exact ⟨hk, rfl, rfl⟩
  | cons c x ih =>
    have hc : c < 8 := hx c (by simp)
    have hx' : Notes x := fun d hd => hx d (by simp [hd])
    have hcl := (h.clo (8 * k + c) (by omega)).2
    rw [show (8 * k + c) / 8 = k by omega, show (8 * k + c) % 8 = c by omega] at hcl
    have hlt : (pairTab M N how ps).nxt k c < ps.length := List.idxOf_lt_length_of_mem hcl
    have hg := goodQ_succ hM hN (h.inr _ (getD_mem ps k hk)) hc
    have he : ps.getD ((pairTab M N how ps).nxt k c) 0 = succQ M N (ps.getD k 0) c := getD_idxOf ps _ hcl
    simp only [Tab.read, List.foldl_cons]
    have := ih _ hlt hx'
    rw [he, hg.2.1, hg.2.2] at this
    exact this

theorem pair_accepts {M N : Tab} (hM : M.Ok) (hN : N.Ok) {how : Int} {ps : List Nat} (h : PRel (goodQ M N) (succQ M N) ps (8 * ps.length)) (x : List Nat) (hx : Notes x) :
    (pairTab M N how ps).accepts x = joinB how (M.accepts x) (N.accepts x) := by
  have := pair_read hM hN (how := how) h 0 h.len x hx
  rw [h.hd] at this
  simp only [Tab.accepts]
  show joinB how (M.acc (ps.getD ((pairTab M N how ps).read 0 x) 0 / 40)) (N.acc (ps.getD ((pairTab M N how ps).read 0 x) 0 % 40)) = _
  rw [this.2.1, this.2.2]

/-- No table that means the same has fewer states. -/
theorem least_le {M N : Tab} {L : List Nat → Bool} (hM : IsLeast M L) (hN : N.Ok) (hL : ∀ x, Notes x → N.accepts x = L x) : M.n ≤ N.n := by
  have hex : ∀ s, ∃ x, s < M.n → Notes x ∧ M.read 0 x = s := fun s => by
    by_cases hs : s < M.n
    · obtain ⟨x, h⟩ := hM.num.reach s hs; exact ⟨x, fun _ => h⟩
    · exact ⟨[], fun h => absurd h hs⟩
  let g := fun s => Classical.choose (hex s)
  have hg : ∀ s, s < M.n → Notes (g s) ∧ M.read 0 (g s) = s := fun s => Classical.choose_spec (hex s)
  have h1 := nodup_bound N.n ((List.range M.n).map fun s => N.read 0 (g s)) ?_ ?_
  · simpa using h1
  · refine List.Pairwise.map _ (fun a b h => h) (List.Pairwise.imp_of_mem ?_ (List.nodup_range (n := M.n)))
    intro a b ha hb hne e
    have ha' := hg a (by simpa using ha)
    have hb' := hg b (by simpa using hb)
    obtain ⟨z, hz, hd⟩ := hM.apart a b (by simpa using ha) (by simpa using hb) hne
    apply hd
    have nt : ∀ x, Notes x → Notes (x ++ z) := fun x hx c hc => by
      rcases List.mem_append.1 hc with h | h
      · exact hx c h
      · exact hz c h
    have ea := hM.lang _ (nt _ ha'.1)
    have eb := hM.lang _ (nt _ hb'.1)
    rw [← hL _ (nt _ ha'.1)] at ea
    rw [← hL _ (nt _ hb'.1)] at eb
    simp only [Tab.accepts, Tab.read_append] at ea eb
    rw [ha'.2] at ea
    rw [hb'.2] at eb
    rw [ea, eb, e]
  · intro x hx
    simp only [List.mem_map, List.mem_range] at hx
    obtain ⟨s, hs, rfl⟩ := hx
    exact Tab.read_lt hN 0 hN.lo _ (hg s hs).1

/-- States that texts part are not more than the least table has. -/
theorem apart_le {M N : Tab} {L : List Nat → Bool} (hM : IsLeast M L) (hN : Numbered N) (hL : ∀ x, Notes x → N.accepts x = L x) (hs : List Nat) (hlt : ∀ c, c < hs.length → hs.getD c 0 < N.n)
    (hap : ∀ c d, c < d → d < hs.length → Apart N (hs.getD c 0) (hs.getD d 0)) : hs.length ≤ M.n := by
  have hex : ∀ s, ∃ x, s < N.n → Notes x ∧ N.read 0 x = s := fun s => by
    by_cases hs : s < N.n
    · obtain ⟨x, h⟩ := hN.reach s hs; exact ⟨x, fun _ => h⟩
    · exact ⟨[], fun h => absurd h hs⟩
  let g := fun s => Classical.choose (hex s)
  have hg : ∀ s, s < N.n → Notes (g s) ∧ N.read 0 (g s) = s := fun s => Classical.choose_spec (hex s)
  have key : ∀ c d, c < d → d < hs.length → M.read 0 (g (hs.getD c 0)) ≠ M.read 0 (g (hs.getD d 0)) := by
    intro c d hcd hd e
    obtain ⟨z, hz, hdf⟩ := hap c d hcd hd
    apply hdf
    have ha' := hg _ (hlt c (by omega))
    have hb' := hg _ (hlt d hd)
    have nt : ∀ x, Notes x → Notes (x ++ z) := fun x hx c hc => by
      rcases List.mem_append.1 hc with h | h
      · exact hx c h
      · exact hz c h
    have ea := hM.lang _ (nt _ ha'.1)
    have eb := hM.lang _ (nt _ hb'.1)
    rw [← hL _ (nt _ ha'.1)] at ea
    rw [← hL _ (nt _ hb'.1)] at eb
    simp only [Tab.accepts, Tab.read_append] at ea eb
    rw [ha'.2] at ea
    rw [hb'.2] at eb
    rw [← ea, ← eb, e]
  have h1 := nodup_bound M.n ((List.range hs.length).map fun c => M.read 0 (g (hs.getD c 0))) ?_ ?_
  · simpa using h1
  · refine List.Pairwise.map _ (fun a b h => h) ?_
    rw [List.pairwise_iff_getElem]
    intro i j hi hj hij
    simp only [List.getElem_range]
    exact key i j hij (by simpa using hj)
  · intro x hx
    simp only [List.mem_map, List.mem_range] at hx
    obtain ⟨c, hc, rfl⟩ := hx
    exact hM.num.read_lt 0 hM.num.pos _ (hg _ (hlt c hc)).1
end Go.Proofs.Ytpngikmcjkjdaab
