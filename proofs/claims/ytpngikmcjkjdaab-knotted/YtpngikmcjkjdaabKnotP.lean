import Derived.Test.YtpngikmcjkjdaabBookP
namespace Go.Proofs.Ytpngikmcjkjdaab
open Go.RowKit
set_option linter.unusedVariables false
set_option linter.unusedSimpArgs false

/-! The knots are in the order, and are just what two tunes begin with alike: plain mathematics. -/
theorem ext_lt : ∀ q p y x : Bs, Op.bytesLess q p = true → ¬ q <+: p → q <+: y → p <+: x → Op.bytesLess y x = true
  | [], p, _, _, _, h, _, _ => absurd List.nil_prefix h
  | a :: q, [], _, _, h, _, _, _ => by simp [Op.bytesLess] at h
  | a :: q, b :: p, [], _, _, _, h, _ => by simp at h
  | a :: q, b :: p, _ :: _, [], _, _, _, h => by simp at h
  | a :: q, b :: p, c :: y, d :: x, h1, h2, h3, h4 => by
    rw [List.cons_prefix_cons] at h2 h3 h4
    obtain ⟨rfl, h3⟩ := h3
    obtain ⟨rfl, h4⟩ := h4
    rw [bl_cons] at h1 ⊢
    rcases h1 with h1 | ⟨rfl, h1⟩
    · exact .inl h1
    · exact .inr ⟨rfl, ext_lt q p y x h1 (fun h => h2 ⟨rfl, h⟩) h3 h4⟩
section
variable {t : Nat → ByteArray} {n : Nat}
theorem mem_kin (s : ByteArray) (i : Nat) : ∀ m, s ∈ kin t n i m ↔ ∃ k, 0 < k ∧ k ≤ m ∧ isKnot t n i k ∧ s = (t i).extract 0 k
  | 0 => by simp [kin]; intro k h1 h2; omega
  | m + 1 => by
    have ih := mem_kin s i m
    by_cases h : isKnot t n i (m + 1)
    · rw [kin_yes h, List.mem_append, ih]
      constructor
      · rintro (⟨k, h1, h2, h3⟩ | h3)
        · exact ⟨k, h1, by omega, h3⟩
        · exact ⟨m + 1, by omega, by omega, h, by simpa using h3⟩
      · rintro ⟨k, h1, h2, h3, h4⟩
        by_cases e : k = m + 1
        · subst e; exact .inr (by simpa using h4)
        · exact .inl ⟨k, h1, by omega, h3, h4⟩
    · rw [kin_no h, ih]
      constructor
      · rintro ⟨k, h1, h2, h3⟩; exact ⟨k, h1, by omega, h3⟩
      · rintro ⟨k, h1, h2, h3, h4⟩
        by_cases e : k = m + 1
        · subst e; exact absurd h3 h
        · exact ⟨k, h1, by omega, h3, h4⟩
theorem mem_knots (s : ByteArray) : ∀ i, s ∈ knots t n i ↔ s = ByteArray.empty ∨ ∃ j, j < i ∧ s ∈ kin t n j (t j).size
  | 0 => by simp [knots]
  | i + 1 => by
    rw [knots, List.mem_append, mem_knots s i]
    constructor
    · rintro ((h | ⟨j, h1, h2⟩) | h)
      · exact .inl h
      · exact .inr ⟨j, by omega, h2⟩
      · exact .inr ⟨i, by omega, h⟩
    · rintro (h | ⟨j, h1, h2⟩)
      · exact .inl (.inl h)
      · by_cases e : j = i
        · subst e; exact .inr h2
        · exact .inl (.inr ⟨j, by omega, h2⟩)
theorem kin_pre {i m k : Nat} {s u : ByteArray} (h : k < m) (hm : m ≤ (t i).size) (hs : s = (t i).extract 0 k) (hu : u = (t i).extract 0 m) : less s u = true := by
  subst hs; subst hu
  rw [less_def, lsb_extract, lsb_extract]
  refine bl_prefix ?_ ?_
  · rw [show (lsb (t i)).take k = ((lsb (t i)).take m).take k by rw [List.take_take, Nat.min_eq_left (by omega)]]
    exact List.take_prefix _ _
  · intro e
    have := congrArg List.length e
    simp only [List.length_take, lsb_size] at this
    omega
theorem kin_srt (i : Nat) : ∀ m, m ≤ (t i).size → (kin t n i m).Pairwise (fun a b => less a b = true)
  | 0, _ => by simp [kin]
  | m + 1, hm => by
    have ih := kin_srt i m (by omega)
    by_cases h : isKnot t n i (m + 1)
    · rw [kin_yes h, List.pairwise_append]
      refine ⟨ih, by simp, ?_⟩
      intro a ha b hb
      obtain ⟨k, h1, h2, h3, h4⟩ := (mem_kin a i m).1 ha
      exact kin_pre (by omega) hm h4 (by simpa using hb)
    · rw [kin_no h]; exact ih
theorem kin_far (hs : SrtB t n) {i j : Nat} (hij : i < j) (hj : j < n) {a b : ByteArray} (ha : a ∈ kin t n i (t i).size) (hb : b ∈ kin t n j (t j).size) : less a b = true := by
  obtain ⟨k, h1, h2, h3, rfl⟩ := (mem_kin a i _).1 ha
  obtain ⟨m, g1, g2, g3, rfl⟩ := (mem_kin b j _).1 hb
  have hno : ¬ (lsb (t j)).take m <+: lsb (t i) := by
    intro hp
    have := ahead_known hs.srt hj hij (by simp only [lsb_size]; exact g2) hp
    have := g3.1
    omega
  rw [less_def, lsb_extract, lsb_extract]
  cases hc : Op.bytesLess ((lsb (t i)).take k) ((lsb (t j)).take m) with
  | true => rfl
  | false =>
    exfalso
    by_cases e : (lsb (t i)).take k = (lsb (t j)).take m
    · exact hno (by rw [← e]; exact List.take_prefix _ _)
    · have h := bl_tri _ _ hc e
      have := ext_lt _ _ (lsb (t j)) (lsb (t i)) h (fun hp => hno (hp.trans (List.take_prefix _ _))) (List.take_prefix _ _) (List.take_prefix _ _)
      rw [bl_asymm (hs.srt i j hij hj)] at this
      cases this
theorem knots_srt (hs : SrtB t n) : ∀ i, i ≤ n → (knots t n i).Pairwise (fun a b => less a b = true)
  | 0, _ => by simp [knots]
  | i + 1, hi => by
    rw [knots, List.pairwise_append]
    refine ⟨knots_srt hs i (by omega), kin_srt i _ (Nat.le_refl _), ?_⟩
    intro a ha b hb
    rcases (mem_knots a i).1 ha with rfl | ⟨j, hj, ha⟩
    · obtain ⟨m, g1, g2, g3, rfl⟩ := (mem_kin b i _).1 hb
      rw [less_def, lsb_extract]
      have : lsb ByteArray.empty = [] := rfl
      rw [this]
      refine bl_prefix List.nil_prefix ?_
      intro e
      have := congrArg List.length e
      simp only [List.length_take, lsb_size, List.length_nil] at this
      omega
    · exact kin_far hs (by omega) (by omega) ha hb
/-- What two texts begin with alike. -/
def begins (a b : ByteArray) : ByteArray := a.extract 0 (comm (lsb a) (lsb b))
theorem begins_comm (a b : ByteArray) : begins a b = begins b a := by
  apply lsb_inj
  have h1 := (le_comm (lsb a) (lsb b) (comm (lsb a) (lsb b))).1 (Nat.le_refl _)
  have h2 := (le_comm (lsb b) (lsb a) (comm (lsb b) (lsb a))).1 (Nat.le_refl _)
  have e : comm (lsb a) (lsb b) = comm (lsb b) (lsb a) := Nat.le_antisymm ((le_comm _ _ _).2 ⟨h1.2.1, h1.1, h1.2.2.symm⟩) ((le_comm _ _ _).2 ⟨h2.2.1, h2.1, h2.2.2.symm⟩)
  rw [begins, begins, lsb_extract, lsb_extract, ← e, h1.2.2]
theorem comm_self : ∀ x : Bs, comm x x = x.length
  | [] => rfl
  | a :: x => by simp [comm, comm_self x]
theorem known_lt (hs : SrtB t n) {i : Nat} (hi : i < n) (h0 : 0 < (t i).size) : known (fun j => lsb (t j)) i < (t i).size := by
  rw [known]
  split
  · exact h0
  · rename_i e
    apply Nat.lt_of_not_le
    intro hle
    obtain ⟨h1, _, h3⟩ := (le_comm (lsb (t (i - 1))) (lsb (t i)) _).1 hle
    have h4 : lsb (t i) <+: lsb (t (i - 1)) := by
      have e2 : (lsb (t i)).take (t i).size = lsb (t i) := List.take_of_length_le (by rw [lsb_size]; exact Nat.le_refl _)
      rw [← e2, ← h3]
      exact List.take_prefix _ _
    have hl := hs (i - 1) i (by omega) hi
    have := bl_prefix h4 (fun e' => less_ne hl (lsb_inj e').symm)
    rw [less_def, bl_asymm this] at hl
    cases hl
theorem least_ix {P : Nat → Prop} (n : Nat) (h : P n) : ∃ i, i ≤ n ∧ P i ∧ ∀ j, j < i → ¬ P j := by
  induction n using Nat.strongRecOn with
  | _ n ih =>
    by_cases hx : ∃ j, j < n ∧ P j
    · obtain ⟨j, hj, hp⟩ := hx
      obtain ⟨i, h1, h2⟩ := ih j hj hp
      exact ⟨i, by omega, h2⟩
    · exact ⟨n, Nat.le_refl _, h, fun j hj hp => hx ⟨j, hj, hp⟩⟩
/-- The knots: the empty text, and what two tunes (or one) begin with alike. -/
theorem mem_knots_iff (hs : SrtB t n) (s : ByteArray) : s ∈ knots t n n ↔ s = ByteArray.empty ∨ ∃ a b, a ≤ b ∧ b < n ∧ s = begins (t a) (t b) := by
  rw [mem_knots]
  constructor
  · rintro (h | ⟨j, hj, h⟩)
    · exact .inl h
    · right
      obtain ⟨k, h1, h2, h3, rfl⟩ := (mem_kin s j _).1 h
      rcases h3.2 with h4 | ⟨i, h5, h6, h7⟩
      · exact ⟨j, j, Nat.le_refl _, hj, by rw [begins, comm_self, lsb_size, h4]⟩
      · exact ⟨j, i, by omega, h6, by rw [begins, h7]⟩
  · rintro (h | ⟨a, b, hab, hb, rfl⟩)
    · exact .inl h
    · obtain ⟨m, hm⟩ : ∃ m, comm (lsb (t a)) (lsb (t b)) = m := ⟨_, rfl⟩
      obtain ⟨c1, c2, c3⟩ := (le_comm (lsb (t a)) (lsb (t b)) m).1 (by omega)
      rw [begins, hm]
      by_cases h0 : m = 0
      · left; subst h0; apply lsb_inj; rw [lsb_extract]; rfl
      · right
        obtain ⟨i, i1, i2, i3⟩ := least_ix (P := fun x => (lsb (t a)).take m <+: lsb (t x)) a (List.take_prefix _ _)
        have hl : ((lsb (t a)).take m).length = m := by simp only [List.length_take]; omega
        have e : (lsb (t a)).take m = (lsb (t i)).take m := by have := List.prefix_iff_eq_take.1 i2; rw [hl] at this; exact this
        have hmi : m ≤ (lsb (t i)).length := by have := i2.length_le; rw [hl] at this; exact this
        have hin : i < n := by omega
        have hk : known (fun j => lsb (t j)) i < m := by
          apply Nat.lt_of_not_le
          intro hle
          rw [known] at hle
          split at hle
          · omega
          · obtain ⟨g1, g2, g3⟩ := (le_comm _ _ _).1 hle
            refine i3 (i - 1) (by omega) ?_
            rw [e, ← g3]
            exact List.take_prefix _ _
        have hkn : isKnot t n i m := by
          refine ⟨hk, ?_⟩
          by_cases hz : m = (t i).size
          · exact .inl hz
          · right
            have hz' : m < (lsb (t i)).length := by rw [lsb_size]; rw [lsb_size] at hmi; omega
            have ca : m ≤ comm (lsb (t i)) (lsb (t a)) := (le_comm _ _ _).2 ⟨hmi, c1, e.symm⟩
            have cb : m ≤ comm (lsb (t i)) (lsb (t b)) := (le_comm _ _ _).2 ⟨hmi, c2, by rw [← e, c3]⟩
            by_cases ea : comm (lsb (t i)) (lsb (t a)) = m
            · refine ⟨a, ?_, by omega, ea⟩
              apply Nat.lt_of_le_of_ne i1
              rintro rfl
              rw [comm_self] at ea
              omega
            · by_cases eb : comm (lsb (t i)) (lsb (t b)) = m
              · refine ⟨b, ?_, hb, eb⟩
                apply Nat.lt_of_le_of_ne (by omega)
                rintro rfl
                rw [comm_self] at eb
                omega
              · exfalso
                obtain ⟨_, x2, x3⟩ := (le_comm (lsb (t i)) (lsb (t a)) (m + 1)).1 (by omega)
                obtain ⟨_, y2, y3⟩ := (le_comm (lsb (t i)) (lsb (t b)) (m + 1)).1 (by omega)
                have := (le_comm (lsb (t a)) (lsb (t b)) (m + 1)).2 ⟨x2, y2, by rw [← x3, ← y3]⟩
                omega
        refine ⟨i, hin, (mem_kin _ i _).2 ⟨m, by omega, by rw [lsb_size] at hmi; exact hmi, hkn, ?_⟩⟩
        apply lsb_inj
        rw [lsb_extract, lsb_extract, e]
end
/-- Two lists in the order that hold the same are one. -/
theorem srt_unique : ∀ l m : List ByteArray, l.Pairwise (fun a b => less a b = true) → m.Pairwise (fun a b => less a b = true) → (∀ s, s ∈ l ↔ s ∈ m) → l = m
  | [], [], _, _, _ => rfl
  | [], b :: m, _, _, h => by have := (h b).2 (by simp); simp at this
  | a :: l, [], _, _, h => by have := (h a).1 (by simp); simp at this
  | a :: l, b :: m, hl, hm, h => by
    rw [List.pairwise_cons] at hl hm
    have e : a = b := by
      have h1 := (h a).1 (by simp)
      have h2 := (h b).2 (by simp)
      rw [List.mem_cons] at h1 h2
      rcases h1 with h1 | h1
      · exact h1
      · rcases h2 with h2 | h2
        · exact h2.symm
        · have := less_trans (hm.1 a h1) (hl.1 b h2)
          rw [less_irrefl] at this
          cases this
    subst e
    rw [srt_unique l m hl.2 hm.2 (fun s => ?_)]
    have hs := h s
    rw [List.mem_cons, List.mem_cons] at hs
    constructor
    · intro hx
      rcases hs.1 (.inr hx) with e | hy
      · exact absurd e.symm (less_ne (hl.1 s hx))
      · exact hy
    · intro hx
      rcases hs.2 (.inr hx) with e | hy
      · exact absurd e.symm (less_ne (hm.1 s hx))
      · exact hy
end Go.Proofs.Ytpngikmcjkjdaab
