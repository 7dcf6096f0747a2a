import Derived.Test.YtpngikmcjkjdaabSplitP
namespace Go.Proofs.Ytpngikmcjkjdaab
set_option linter.unusedVariables false

theorem sub_of_sorted : ∀ (l' l : List Nat), l.Pairwise (· < ·) → l'.Pairwise (· < ·) → (∀ a ∈ l, a ∈ l') → l.Sublist l' := by
  intro l'
  induction l' with
  | nil => intro l _ _ h; cases l with
    | nil => exact List.Sublist.slnil
    | cons a s => exact absurd (h a (by simp)) (by simp)
  | cons b t ih =>
    intro l hl hl' h
    cases l with
    | nil => exact List.nil_sublist _
    | cons a s =>
      rw [List.pairwise_cons] at hl hl'
      by_cases e : a = b
      · subst e
        refine List.Sublist.cons_cons a (ih s hl.2 hl'.2 ?_)
        intro x hx
        have := h x (by simp [hx])
        rcases List.mem_cons.1 this with rfl | h'
        · exact absurd (hl.1 _ hx) (by omega)
        · exact h'
      · refine List.Sublist.cons b (ih (a :: s) (List.pairwise_cons.2 hl) hl'.2 ?_)
        have ha : a ∈ t := by
          rcases List.mem_cons.1 (h a (by simp)) with h' | h'
          · exact absurd h' e
          · exact h'
        have hba := hl'.1 a ha
        intro x hx
        rcases List.mem_cons.1 (h x hx) with h' | h'
        · subst h'
          rcases List.mem_cons.1 hx with h'' | h''
          · omega
          · have := hl.1 x h''; omega
        · exact h'

theorem getD_mem (l : List Nat) (c : Nat) (h : c < l.length) : l.getD c 0 ∈ l := by
  rw [List.getD_eq_getElem?_getD, List.getElem?_eq_getElem h]; exact List.getElem_mem h
theorem mem_getD {l : List Nat} {a : Nat} (h : a ∈ l) : ∃ c, c < l.length ∧ l.getD c 0 = a := by
  obtain ⟨c, hc, rfl⟩ := List.getElem_of_mem h
  exact ⟨c, hc, by rw [List.getD_eq_getElem?_getD, List.getElem?_eq_getElem hc]; rfl⟩

theorem Cls.sub {n : Nat} {f f' : Nat → Nat} {hs hs' : List Nat} (h : Cls n f hs) (h' : Cls n f' hs') (hr : ∀ i j, i < n → j < n → f' i = f' j → f i = f j) : ∀ a ∈ hs, a ∈ hs' := by
  intro a ha
  obtain ⟨c, hc, rfl⟩ := mem_getD ha
  have h1 := h.hd c hc
  have hlt := h'.lt _ h1.1
  have hle := h'.le _ h1.1
  have h2 := h'.hd _ hlt
  have h3 := hr _ _ h2.1 h1.1 h2.2
  have h4 := h.le _ h2.1
  rw [h3, h1.2] at h4
  have : hs'.getD (f' (hs.getD c 0)) 0 = hs.getD c 0 := by omega
  rw [← this]
  exact getD_mem _ _ hlt

theorem Cls.len_le {n : Nat} {f f' : Nat → Nat} {hs hs' : List Nat} (h : Cls n f hs) (h' : Cls n f' hs') (hr : ∀ i j, i < n → j < n → f' i = f' j → f i = f j) : hs.length ≤ hs'.length :=
  (sub_of_sorted hs' hs h.inc h'.inc (h.sub h' hr)).length_le

/-- A finer parting of as many classes is the same. -/
theorem Cls.eq_of_len {n : Nat} {f f' : Nat → Nat} {hs hs' : List Nat} (h : Cls n f hs) (h' : Cls n f' hs') (hr : ∀ i j, i < n → j < n → f' i = f' j → f i = f j) (hl : hs.length = hs'.length) :
    hs = hs' ∧ ∀ i, i < n → f i = f' i := by
  have e := (sub_of_sorted hs' hs h.inc h'.inc (h.sub h' hr)).eq_of_length hl
  subst e
  refine ⟨rfl, fun i hi => ?_⟩
  have h1 := h'.hd _ (h'.lt i hi)
  have h2 := hr _ _ h1.1 hi h1.2
  rw [← h2]
  exact (h.hd _ (h'.lt i hi)).2

theorem notes_cons {c : Nat} {x : List Nat} (hc : c < 8) (hx : Notes x) : Notes (c :: x) := by
  intro d hd
  rcases List.mem_cons.1 hd with h | h
  · omega
  · exact hx d h
/-- The same state, read on. -/
def Apart (M : Tab) (i j : Nat) : Prop := ∃ x, Notes x ∧ M.acc (M.read i x) ≠ M.acc (M.read j x)

/-- What a parting knows on the way: numbered classes; what is apart is truly apart; what a text parts at once is apart as far as this parting sees. -/
structure Mid (M : Tab) (f : Nat → Nat) (hs : List Nat) : Prop where
  cls : Cls M.n f hs
  apart : ∀ i j, i < M.n → j < M.n → f i ≠ f j → Apart M i j

theorem apart_of_not_alike {M : Tab} {f : Nat → Nat} (hnx : ∀ i c, i < M.n → c < 8 → M.nxt i c < M.n) (hap : ∀ i j, i < M.n → j < M.n → f i ≠ f j → Apart M i j) (i j : Nat) (hi : i < M.n) (hj : j < M.n) (h : alikeB M f i j = false) : Apart M i j := by
  rw [Bool.eq_false_iff] at h
  by_cases ha : M.acc i = M.acc j
  · have : ¬ ∀ c, c < 8 → f (M.nxt i c) = f (M.nxt j c) := fun hc => h ((alikeB_iff M f i j).2 ⟨ha, hc⟩)
    have : ∃ c, c < 8 ∧ f (M.nxt i c) ≠ f (M.nxt j c) := Classical.byContradiction fun hn => this fun c hc => Classical.byContradiction fun hne => hn ⟨c, hc, hne⟩
    obtain ⟨c, hc, hne⟩ := this
    obtain ⟨x, hx, hd⟩ := hap _ _ (hnx i c hi hc) (hnx j c hj hc) hne
    exact ⟨c :: x, notes_cons hc hx, by simpa [Tab.read] using hd⟩
  · exact ⟨[], by intro c hc; simp at hc, by simpa [Tab.read] using ha⟩

theorem Mid.step {M : Tab} {f : Nat → Nat} {hs os hs' : List Nat} (hnx : ∀ i c, i < M.n → c < 8 → M.nxt i c < M.n) (h : Mid M f hs) (h' : SplitRel M f M.n os hs') : Mid M (fun i => os.getD i 0) hs' where
  cls := h'.cls
  apart i j hi hj hne := apart_of_not_alike hnx h.apart i j hi hj (by
    rw [Bool.eq_false_iff]; intro e; exact hne ((h'.same i j hi hj).2 e))

/-- The first parting: one class. -/
theorem Mid.first {M : Tab} (hn : 1 ≤ M.n) : Mid M (fun _ => 0) [0] where
  cls := ⟨fun _ _ => by simp, fun i _ => by simp, fun c hc => by
    have : c = 0 := by simp at hc; omega
    subst this; exact ⟨by simp; omega, rfl⟩, by simp⟩
  apart i j _ _ h := absurd rfl h

/-- Refines: what the next parting puts together the last one has together. Holds of the first, and of a split of a parting that it holds of. -/
def Fine (M : Tab) (f : Nat → Nat) : Prop := ∀ i j, i < M.n → j < M.n → alikeB M f i j = true → f i = f j
theorem Fine.first (M : Tab) : Fine M (fun _ => 0) := fun _ _ _ _ _ => rfl
theorem Fine.step {M : Tab} {f : Nat → Nat} {os hs' : List Nat} (hnx : ∀ i c, i < M.n → c < 8 → M.nxt i c < M.n) (h : Fine M f) (h' : SplitRel M f M.n os hs') : Fine M (fun i => os.getD i 0) := by
  intro i j hi hj ha
  show os.getD i 0 = os.getD j 0
  rw [h'.same i j hi hj, alikeB_iff]
  rw [alikeB_iff] at ha
  refine ⟨ha.1, fun c hc => ?_⟩
  have := ha.2 c hc
  have := (h'.same _ _ (hnx i c hi hc) (hnx j c hj hc)).1 this
  exact h _ _ (hnx i c hi hc) (hnx j c hj hc) this

theorem split_len_le {M : Tab} {f : Nat → Nat} {hs os hs' : List Nat} (h : Mid M f hs) (hf : Fine M f) (h' : SplitRel M f M.n os hs') : hs.length ≤ hs'.length :=
  h.cls.len_le h'.cls fun i j hi hj e => hf i j hi hj ((h'.same i j hi hj).1 e)

/-- A parting that the transitions keep. -/
structure Stable (M : Tab) (f : Nat → Nat) (hs : List Nat) : Prop where
  mid : Mid M f hs
  acc : ∀ i j, i < M.n → j < M.n → f i = f j → M.acc i = M.acc j
  nxt : ∀ i j c, i < M.n → j < M.n → c < 8 → f i = f j → f (M.nxt i c) = f (M.nxt j c)

theorem stable_of_len {M : Tab} {f : Nat → Nat} {hs os hs' : List Nat} (hnx : ∀ i c, i < M.n → c < 8 → M.nxt i c < M.n) (h : Mid M f hs) (hf : Fine M f) (h' : SplitRel M f M.n os hs') (hl : hs'.length = hs.length) :
    Stable M (fun i => os.getD i 0) hs' := by
  obtain ⟨e, hs⟩ := h.cls.eq_of_len h'.cls (fun i j hi hj e => hf i j hi hj ((h'.same i j hi hj).1 e)) hl.symm
  refine ⟨h.step hnx h', fun i j hi hj e => ?_, fun i j c hi hj hc e => ?_⟩
  · exact ((alikeB_iff M f i j).1 ((h'.same i j hi hj).1 e)).1
  · have := ((alikeB_iff M f i j).1 ((h'.same i j hi hj).1 e)).2 c hc
    rw [hs _ (hnx i c hi hc), hs _ (hnx j c hj hc)] at this
    exact this

/-- Each class one state. -/
def merged (M : Tab) (f : Nat → Nat) (hs : List Nat) : Tab where
  n := hs.length
  acc k := M.acc (hs.getD k 0)
  nxt k c := f (M.nxt (hs.getD k 0) c)

theorem merged_read {M : Tab} {f : Nat → Nat} {hs : List Nat} (hnx : ∀ i c, i < M.n → c < 8 → M.nxt i c < M.n) (h : Stable M f hs) (i : Nat) (hi : i < M.n) (x : List Nat) (hx : Notes x) :
    (merged M f hs).read (f i) x = f (M.read i x) ∧ M.read i x < M.n := by
  induction x generalizing i with
  | nil => exact ⟨rfl, hi⟩
  | cons c x ih =>
    have hc : c < 8 := hx c (by simp)
    have hx' : Notes x := fun d hd => hx d (by simp [hd])
    have h1 := h.mid.cls.hd _ (h.mid.cls.lt i hi)
    have e : (merged M f hs).nxt (f i) c = f (M.nxt i c) := h.nxt _ _ c h1.1 hi hc h1.2
    simp only [Tab.read, List.foldl_cons, e]
    exact ih _ (hnx i c hi hc) hx'
theorem merged_acc {M : Tab} {f : Nat → Nat} {hs : List Nat} (h : Stable M f hs) (i : Nat) (hi : i < M.n) : (merged M f hs).acc (f i) = M.acc i := by
  have h1 := h.mid.cls.hd _ (h.mid.cls.lt i hi)
  exact h.acc _ _ h1.1 hi h1.2

theorem cls_zero {n : Nat} {f : Nat → Nat} {hs : List Nat} (h : Cls n f hs) (hn : 1 ≤ n) : f 0 = 0 ∧ hs.getD 0 0 = 0 := by
  have hl := h.lt 0 (by omega)
  have hle := h.le 0 (by omega)
  have hpos : 0 < hs.length := by omega
  have h0 := h.hd 0 hpos
  have e : hs.getD (f 0) 0 = 0 := by omega
  by_cases hf : f 0 = 0
  · rw [hf] at e; exact ⟨hf, e⟩
  · have := (List.pairwise_iff_getElem.1 h.inc) 0 (f 0) hpos hl (by omega)
    rw [List.getD_eq_getElem?_getD, List.getElem?_eq_getElem hl] at e
    simp at e
    omega

theorem merged_accepts {M : Tab} {f : Nat → Nat} {hs : List Nat} (hnx : ∀ i c, i < M.n → c < 8 → M.nxt i c < M.n) (h : Stable M f hs) (hn : 1 ≤ M.n) (x : List Nat) (hx : Notes x) : (merged M f hs).accepts x = M.accepts x := by
  have h0 := (cls_zero h.mid.cls hn).1
  have h1 := merged_read hnx h 0 (by omega) x hx
  rw [h0] at h1
  rw [Tab.accepts, h1.1, merged_acc h _ h1.2, Tab.accepts]

theorem merged_apart {M : Tab} {f : Nat → Nat} {hs : List Nat} (hnx : ∀ i c, i < M.n → c < 8 → M.nxt i c < M.n) (h : Stable M f hs) (k l : Nat) (hk : k < hs.length) (hl : l < hs.length) (hne : k ≠ l) : Apart (merged M f hs) k l := by
  have h1 := h.mid.cls.hd k hk
  have h2 := h.mid.cls.hd l hl
  obtain ⟨x, hx, hd⟩ := h.mid.apart _ _ h1.1 h2.1 (by rw [h1.2, h2.2]; exact hne)
  have r1 := merged_read hnx h _ h1.1 x hx
  have r2 := merged_read hnx h _ h2.1 x hx
  rw [h1.2] at r1
  rw [h2.2] at r2
  refine ⟨x, hx, ?_⟩
  rw [r1.1, r2.1, merged_acc h _ r1.2, merged_acc h _ r2.2]
  exact hd
end Go.Proofs.Ytpngikmcjkjdaab
