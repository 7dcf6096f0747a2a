import Derived.Test.YtpngikmcjkjdaabBase
namespace Go.Proofs.Ytpngikmcjkjdaab
open Go.RowKit
set_option linter.unusedVariables false
set_option linter.unusedSimpArgs false

/-! The order of texts, what two texts begin with alike, and the knots of a list in the order: plain mathematics. -/
abbrev Bs := List UInt8
theorem bl_irrefl : ∀ x : Bs, Op.bytesLess x x = false
  | [] => rfl
  | a :: x => by simp [Op.bytesLess, bl_irrefl x]
theorem bl_cons (a b : UInt8) (x y : Bs) : Op.bytesLess (a :: x) (b :: y) = true ↔ a < b ∨ (a = b ∧ Op.bytesLess x y = true) := by
  simp [Op.bytesLess]
theorem bl_trans : ∀ x y z : Bs, Op.bytesLess x y = true → Op.bytesLess y z = true → Op.bytesLess x z = true
  | [], [], _, h, _ => by simp [Op.bytesLess] at h
  | [], _ :: _, [], _, h => by simp [Op.bytesLess] at h
  | [], _ :: _, _ :: _, _, _ => by simp [Op.bytesLess]
  | _ :: _, [], _, h, _ => by simp [Op.bytesLess] at h
  | _ :: _, _ :: _, [], _, h => by simp [Op.bytesLess] at h
  | a :: x, b :: y, c :: z, h1, h2 => by
    rw [bl_cons] at h1 h2 ⊢
    rcases h1 with h1 | ⟨rfl, h1⟩
    · rcases h2 with h2 | ⟨rfl, h2⟩
      · exact .inl (by simp only [UInt8.lt_iff_toNat_lt] at *; omega)
      · exact .inl h1
    · rcases h2 with h2 | ⟨rfl, h2⟩
      · exact .inl h2
      · exact .inr ⟨rfl, bl_trans x y z h1 h2⟩
theorem bl_tri : ∀ x y : Bs, Op.bytesLess x y = false → x ≠ y → Op.bytesLess y x = true
  | [], [], _, h => absurd rfl h
  | [], _ :: _, h, _ => by simp [Op.bytesLess] at h
  | _ :: _, [], _, _ => by simp [Op.bytesLess]
  | a :: x, b :: y, h, hne => by
    rw [Bool.eq_false_iff, ne_eq, bl_cons] at h
    rw [bl_cons]
    by_cases e : a = b
    · subst e
      refine .inr ⟨rfl, bl_tri x y (by rw [Bool.eq_false_iff]; exact fun h' => h (.inr ⟨rfl, h'⟩)) (fun e => hne (by rw [e]))⟩
    · left
      have h1 : ¬ a < b := fun h' => h (.inl h')
      have h2 : a.toNat ≠ b.toNat := fun h' => e (UInt8.toNat_inj.1 h')
      simp only [UInt8.lt_iff_toNat_lt] at *
      omega
theorem bl_asymm {x y : Bs} (h : Op.bytesLess x y = true) : Op.bytesLess y x = false := by
  rw [Bool.eq_false_iff]
  intro h'
  have := bl_trans _ _ _ h h'
  rw [bl_irrefl] at this
  cases this
/-- What stands between two texts that begin alike begins so too. -/
theorem between : ∀ p a b c : Bs, p <+: a → p <+: c → Op.bytesLess b a = false → Op.bytesLess c b = false → p <+: b
  | [], _, _, _, _, _, _, _ => List.nil_prefix
  | x :: p, [], _, _, h, _, _, _ => by simp at h
  | x :: p, _ :: _, _, [], _, h, _, _ => by simp at h
  | x :: p, y :: a, [], z :: c, h1, h2, h3, h4 => by simp [Op.bytesLess] at h3
  | x :: p, y :: a, v :: b, z :: c, h1, h2, h3, h4 => by
    rw [List.cons_prefix_cons] at h1 h2 ⊢
    obtain ⟨rfl, h1⟩ := h1
    obtain ⟨rfl, h2⟩ := h2
    rw [Bool.eq_false_iff, ne_eq, bl_cons] at h3 h4
    have e : x = v := by
      apply UInt8.toNat_inj.1
      have n1 : ¬ v < x := fun h' => h3 (.inl h')
      have n2 : ¬ x < v := fun h' => h4 (.inl h')
      simp only [UInt8.lt_iff_toNat_lt] at n1 n2
      omega
    subst e
    exact ⟨rfl, between p a b c h1 h2 (by rw [Bool.eq_false_iff]; exact fun h' => h3 (.inr ⟨rfl, h'⟩)) (by rw [Bool.eq_false_iff]; exact fun h' => h4 (.inr ⟨rfl, h'⟩))⟩
theorem bl_prefix : ∀ {x y : Bs}, x <+: y → x ≠ y → Op.bytesLess x y = true
  | [], [], _, h => absurd rfl h
  | [], _ :: _, _, _ => by simp [Op.bytesLess]
  | _ :: _, [], h, _ => by simp at h
  | a :: x, b :: y, h, hne => by
    rw [List.cons_prefix_cons] at h
    obtain ⟨rfl, h⟩ := h
    rw [bl_cons]
    exact .inr ⟨rfl, bl_prefix h (fun e => hne (by rw [e]))⟩
/-- The length of the longest beginning that both have. -/
def comm : Bs → Bs → Nat
  | a :: x, b :: y => if a = b then comm x y + 1 else 0
  | _, _ => 0
theorem le_comm : ∀ (x y : Bs) (n : Nat), n ≤ comm x y ↔ n ≤ x.length ∧ n ≤ y.length ∧ x.take n = y.take n
  | [], y, n => by cases y <;> simp [comm] <;> rintro rfl <;> simp
  | a :: x, [], n => by simp [comm]; rintro rfl; simp
  | a :: x, b :: y, 0 => by simp
  | a :: x, b :: y, n + 1 => by
    have ih := le_comm x y n
    by_cases e : a = b
    · subst e; simp only [comm, if_true, List.length_cons, List.take_succ_cons, Nat.add_le_add_iff_right, ih, List.cons.injEq, true_and]
    · simp [comm, e]
theorem comm_step (x y : Bs) (n : Nat) (h : n ≤ comm x y) : comm x y = n ↔ ¬ (n < x.length ∧ n < y.length ∧ x.getD n 0 = y.getD n 0) := by
  obtain ⟨h1, h2, h3⟩ := (le_comm x y n).1 h
  constructor
  · rintro e ⟨l1, l2, l3⟩
    have : n + 1 ≤ comm x y := (le_comm x y (n + 1)).2 ⟨l1, l2, by
      rw [List.take_add_one, List.take_add_one, h3]
      have e1 : x[n]? = some (x.getD n 0) := by simp [l1]
      have e2 : y[n]? = some (y.getD n 0) := by simp [l2]
      rw [e1, e2, l3]⟩
    omega
  · intro hn
    apply Nat.le_antisymm ?_ h
    apply Nat.le_of_not_lt
    intro hl
    obtain ⟨g1, g2, g3⟩ := (le_comm x y (n + 1)).1 hl
    refine hn ⟨g1, g2, ?_⟩
    have : (x.take (n + 1)).getD n 0 = (y.take (n + 1)).getD n 0 := by rw [g3]
    simpa [List.getD, List.getElem?_take] using this

/-- Texts in the order, each once. -/
def Srt (t : Nat → Bs) (n : Nat) : Prop := ∀ i j, i < j → j < n → Op.bytesLess (t i) (t j) = true
/-- Two tunes go on behind the beginning with two notes. -/
def Goes2 (t : Nat → Bs) (n : Nat) (p : Bs) : Prop := ∃ j k, j < n ∧ k < n ∧ p.length < (t j).length ∧ p.length < (t k).length ∧ (t j).take p.length = p ∧ (t k).take p.length = p ∧ (t j).getD p.length 0 ≠ (t k).getD p.length 0
/-- How much of a tune the one ahead of it has. -/
def known (t : Nat → Bs) (i : Nat) : Nat := if i = 0 then 0 else comm (t (i - 1)) (t i)
def Parts (t : Nat → Bs) (n i m : Nat) : Prop := ∃ j, i < j ∧ j < n ∧ comm (t i) (t j) = m
theorem ahead_known {t : Nat → Bs} {n : Nat} (hs : Srt t n) {i j m : Nat} (hi : i < n) (hji : j < i) (hm : m ≤ (t i).length) (hp : (t i).take m <+: t j) : m ≤ known t i := by
  have h0 : i ≠ 0 := by omega
  rw [known, if_neg h0]
  have hpi : (t i).take m <+: t i := List.take_prefix _ _
  have hb : Op.bytesLess (t (i - 1)) (t j) = false := by
    by_cases e : j = i - 1
    · rw [← e, bl_irrefl]
    · exact bl_asymm (hs j (i - 1) (by omega) (by omega))
  have hb2 : Op.bytesLess (t i) (t (i - 1)) = false := bl_asymm (hs (i - 1) i (by omega) hi)
  have := between _ _ _ _ hp hpi hb hb2
  have hl : ((t i).take m).length = m := by simp [hm]
  have hle := this.length_le
  rw [hl] at hle
  refine (le_comm _ _ _).2 ⟨hle, hm, ?_⟩
  have e := List.prefix_iff_eq_take.1 this
  rw [hl] at e
  exact e.symm
theorem knot_same {t : Nat → Bs} {n : Nat} (hs : Srt t n) {i m : Nat} (hi : i < n) (hk : known t i < m) (hm : m ≤ (t i).length) :
    (m = (t i).length ∨ Parts t n i m) ↔ ((∃ j, j < n ∧ t j = (t i).take m) ∨ (t i).take m = [] ∨ Goes2 t n ((t i).take m)) := by
  have hl : ((t i).take m).length = m := by simp [hm]
  constructor
  · rintro (h | ⟨j, h1, h2, h3⟩)
    · exact .inl ⟨i, hi, by rw [h]; simp⟩
    · obtain ⟨c1, c2, c3⟩ := (le_comm (t i) (t j) m).1 (by omega)
      have c4 := (comm_step (t i) (t j) m (by omega)).1 h3
      by_cases e1 : m = (t i).length
      · exact .inl ⟨i, hi, by rw [e1]; simp⟩
      · by_cases e2 : m = (t j).length
        · exact .inl ⟨j, h2, by rw [c3, e2]; simp⟩
        · refine .inr (.inr ⟨i, j, hi, h2, by rw [hl]; omega, by rw [hl]; omega, by rw [hl], by rw [hl, c3], ?_⟩)
          rw [hl]
          intro e
          exact c4 ⟨by omega, by omega, e⟩
  · intro h
    by_cases e : m = (t i).length
    · exact .inl e
    right
    have hout : ∀ j, j < n → m ≤ (t j).length → (t j).take m = (t i).take m → j ≠ i → i < j := by
      intro j hj hle ht hne
      apply Nat.lt_of_le_of_ne ?_ (fun e => hne e.symm)
      apply Nat.le_of_not_lt
      intro hlt
      have := ahead_known hs hi hlt hm (by rw [← ht]; exact List.take_prefix _ _)
      omega
    rcases h with ⟨j, hj, hjt⟩ | h | ⟨j, k, hj, hk', lj, lk, tj, tk, hd⟩
    · exfalso
      have hji : j ≠ i := by
        rintro rfl
        have := congrArg List.length hjt
        rw [hl] at this
        omega
      have h1 := hout j hj (by rw [hjt, hl]; omega) (by rw [hjt, List.take_take]; simp) hji
      have h2 := hs i j h1 hj
      have h3 : Op.bytesLess (t j) (t i) = true := bl_prefix (by rw [hjt]; exact List.take_prefix _ _) (fun e' => hji (by
        exfalso
        have := congrArg List.length e'
        rw [hjt, hl] at this
        omega))
      rw [bl_asymm h2] at h3
      cases h3
    · have := congrArg List.length h
      rw [hl] at this
      simp at this
      omega
    · rw [hl] at lj lk tj tk hd
      have key : ∀ x, x < n → m < (t x).length → (t x).take m = (t i).take m → (t x).getD m 0 ≠ (t i).getD m 0 → Parts t n i m := by
        intro x hx lx tx dx
        have hxi : x ≠ i := by rintro rfl; exact dx rfl
        refine ⟨x, hout x hx (by omega) tx hxi, hx, ?_⟩
        refine (comm_step (t i) (t x) m ((le_comm _ _ _).2 ⟨hm, by omega, tx.symm⟩)).2 ?_
        rintro ⟨_, _, e'⟩
        exact dx e'.symm
      by_cases ej : (t j).getD m 0 = (t i).getD m 0
      · exact key k hk' lk tk (fun e' => hd (by rw [ej, e']))
      · exact key j hj lj tj ej

/-! The same of texts in memory. -/
def lsb (s : ByteArray) : Bs := s.data.toList
theorem lsb_inj {a b : ByteArray} (h : lsb a = lsb b) : a = b := by
  cases a; cases b; simp only [lsb] at h; congr 1; exact Array.ext' h
theorem lsb_size (s : ByteArray) : (lsb s).length = s.size := by rw [lsb, Array.length_toList]; rfl
def less (a b : ByteArray) : Bool := Op.bytesLess a.toList b.toList
theorem less_def (a b : ByteArray) : less a b = Op.bytesLess (lsb a) (lsb b) := by rw [less, ByteArray.toList_eq, ByteArray.toList_eq]; rfl
theorem beq_str (a b : ByteArray) : (a.toList == b.toList) = decide (a = b) := by
  rw [ByteArray.toList_eq, ByteArray.toList_eq]
  by_cases h : a = b
  · subst h; simp
  · have : lsb a ≠ lsb b := fun e => h (lsb_inj e)
    simp only [h, decide_false, beq_eq_false_iff_ne, ne_eq]
    exact this
theorem less_irrefl (a : ByteArray) : less a a = false := by rw [less_def, bl_irrefl]
theorem less_trans {a b c : ByteArray} (h1 : less a b = true) (h2 : less b c = true) : less a c = true := by rw [less_def] at *; exact bl_trans _ _ _ h1 h2
theorem less_tri {a b : ByteArray} (h : less a b = false) (hne : a ≠ b) : less b a = true := by rw [less_def] at *; exact bl_tri _ _ h (fun e => hne (lsb_inj e))
theorem less_asymm {a b : ByteArray} (h : less a b = true) : less b a = false := by rw [less_def] at *; exact bl_asymm h
theorem less_ne {a b : ByteArray} (h : less a b = true) : a ≠ b := by rintro rfl; rw [less_irrefl] at h; cases h
def SrtB (t : Nat → ByteArray) (n : Nat) : Prop := ∀ i j, i < j → j < n → less (t i) (t j) = true
theorem SrtB.srt {t : Nat → ByteArray} {n : Nat} (h : SrtB t n) : Srt (fun i => lsb (t i)) n := fun i j h1 h2 => by rw [← less_def]; exact h i j h1 h2
/-- The place of a text in the order. -/
structure IsPl (t : Nat → ByteArray) (n : Nat) (s : ByteArray) (p : Nat) : Prop where
  le : p ≤ n
  lo : ∀ j, j < p → less (t j) s = true
  at' : p < n → less (t p) s = false
section
variable {t : Nat → ByteArray} {n p : Nat} {s : ByteArray}
theorem IsPl.hi (h : IsPl t n s p) (hs : SrtB t n) (j : Nat) (h1 : p ≤ j) (h2 : j < n) : less (t j) s = false := by
  have h0 := h.at' (by omega)
  by_cases e : p = j
  · rw [← e]; exact h0
  · rw [Bool.eq_false_iff]
    intro h'
    have := less_trans (hs p j (by omega) h2) h'
    rw [h0] at this; cases this
theorem IsPl.stands (h : IsPl t n s p) (hs : SrtB t n) : (∃ j, j < n ∧ t j = s) ↔ (p < n ∧ t p = s) := by
  constructor
  · rintro ⟨j, hj, e⟩
    have h1 : p ≤ j := by
      apply Nat.le_of_not_lt
      intro hlt
      exact less_ne (h.lo j hlt) e
    by_cases e' : p = j
    · subst e'; exact ⟨hj, e⟩
    · have := hs p j (by omega) hj
      rw [e, h.at' (by omega)] at this; cases this
  · rintro ⟨h1, h2⟩; exact ⟨p, h1, h2⟩
theorem IsPl.gt (h : IsPl t n s p) (hs : SrtB t n) (hn : ¬ (p < n ∧ t p = s)) (j : Nat) (h1 : p ≤ j) (h2 : j < n) : less s (t j) = true := by
  refine less_tri (h.hi hs j h1 h2) ?_
  intro e
  exact hn ((h.stands hs).1 ⟨j, h2, e⟩)
def ins (t : Nat → ByteArray) (p : Nat) (s : ByteArray) : Nat → ByteArray := fun j => if j < p then t j else if j = p then s else t (j - 1)
def del (t : Nat → ByteArray) (p : Nat) : Nat → ByteArray := fun j => if j < p then t j else t (j + 1)
theorem IsPl.ins_srt (h : IsPl t n s p) (hs : SrtB t n) (hn : ¬ (p < n ∧ t p = s)) : SrtB (ins t p s) (n + 1) := by
  intro i j h1 h2
  have hle := h.le
  unfold ins
  by_cases a : i < p
  · rw [if_pos a]
    by_cases b : j < p
    · rw [if_pos b]; exact hs i j h1 (by omega)
    · rw [if_neg b]
      by_cases c : j = p
      · rw [if_pos c]; exact h.lo i a
      · rw [if_neg c]; exact hs i (j - 1) (by omega) (by omega)
  · rw [if_neg a, if_neg (show ¬ j < p by omega), if_neg (show ¬ j = p by omega)]
    by_cases c : i = p
    · rw [if_pos c]; exact h.gt hs hn (j - 1) (by omega) (by omega)
    · rw [if_neg c]; exact hs (i - 1) (j - 1) (by omega) (by omega)
theorem del_srt (hs : SrtB t n) (hp : p < n) : SrtB (del t p) (n - 1) := by
  intro i j h1 h2
  unfold del
  by_cases a : i < p
  · rw [if_pos a]
    by_cases b : j < p
    · rw [if_pos b]; exact hs i j h1 (by omega)
    · rw [if_neg b]; exact hs i (j + 1) (by omega) (by omega)
  · rw [if_neg a, if_neg (show ¬ j < p by omega)]; exact hs (i + 1) (j + 1) (by omega) (by omega)
end
/-- Two beginnings of the same length. -/
theorem lsb_extract (s : ByteArray) (m : Nat) : lsb (s.extract 0 m) = (lsb s).take m := by
  simp [lsb, ByteArray.data_extract]
/-- The knots that the tune i brings, of the first m lengths. -/
def isKnot (t : Nat → ByteArray) (n i m : Nat) : Prop := known (fun j => lsb (t j)) i < m ∧ (m = (t i).size ∨ Parts (fun j => lsb (t j)) n i m)
open Classical in
noncomputable def kin (t : Nat → ByteArray) (n i : Nat) : Nat → List ByteArray
  | 0 => []
  | m + 1 => if isKnot t n i (m + 1) then kin t n i m ++ [(t i).extract 0 (m + 1)] else kin t n i m
theorem kin_yes {t : Nat → ByteArray} {n i m : Nat} (h : isKnot t n i (m + 1)) : kin t n i (m + 1) = kin t n i m ++ [(t i).extract 0 (m + 1)] := by rw [kin, if_pos h]
theorem kin_no {t : Nat → ByteArray} {n i m : Nat} (h : ¬ isKnot t n i (m + 1)) : kin t n i (m + 1) = kin t n i m := by rw [kin, if_neg h]
theorem kin_known (t : Nat → ByteArray) (n i : Nat) : ∀ m, m ≤ known (fun j => lsb (t j)) i → kin t n i m = []
  | 0, _ => rfl
  | m + 1, h => by rw [kin_no (fun hk => by have := hk.1; omega)]; exact kin_known t n i m (by omega)
theorem kin_len (t : Nat → ByteArray) (n i : Nat) : ∀ m, (kin t n i m).length ≤ m
  | 0 => by simp [kin]
  | m + 1 => by
    have := kin_len t n i m
    by_cases h : isKnot t n i (m + 1)
    · rw [kin_yes h]; simp; omega
    · rw [kin_no h]; omega
noncomputable def knots (t : Nat → ByteArray) (n : Nat) : Nat → List ByteArray
  | 0 => [ByteArray.empty]
  | i + 1 => knots t n i ++ kin t n i (t i).size
theorem knots_len (t : Nat → ByteArray) (n : Nat) (hz : ∀ i, i < n → (t i).size ≤ 12) : ∀ i, i ≤ n → (knots t n i).length ≤ 1 + 12 * i
  | 0, _ => by simp [knots]
  | i + 1, h => by
    have h1 := knots_len t n hz i (by omega)
    have h2 := kin_len t n i (t i).size
    have h3 := hz i (by omega)
    rw [knots, List.length_append]
    omega
/-- What the document calls a knot: of a beginning that the tune ahead does not have. -/
theorem isKnot_ref {t : Nat → ByteArray} {n i m : Nat} (hs : SrtB t n) (hi : i < n) (hm : m ≤ (t i).size) (hk : known (fun j => lsb (t j)) i < m) :
    isKnot t n i m ↔ ((∃ j, j < n ∧ t j = (t i).extract 0 m) ∨ (t i).extract 0 m = ByteArray.empty ∨ Goes2 (fun j => lsb (t j)) n (lsb ((t i).extract 0 m))) := by
  have h := knot_same hs.srt hi hk (by rw [lsb_size]; exact hm)
  rw [isKnot, and_iff_right hk]
  simp only [lsb_size] at h
  rw [h, lsb_extract]
  have e1 : (∃ j, j < n ∧ lsb (t j) = (lsb (t i)).take m) ↔ ∃ j, j < n ∧ t j = (t i).extract 0 m := by
    constructor
    · rintro ⟨j, hj, e⟩; exact ⟨j, hj, lsb_inj (by rw [e, lsb_extract])⟩
    · rintro ⟨j, hj, e⟩; exact ⟨j, hj, by rw [e, lsb_extract]⟩
  have e2 : (lsb (t i)).take m = [] ↔ (t i).extract 0 m = ByteArray.empty := by
    rw [← lsb_extract]
    constructor
    · intro e; exact lsb_inj (by rw [e]; rfl)
    · intro e; rw [e]; rfl
  rw [e1, e2]
/-- 'shared': the tune ahead has the beginning. -/
theorem shared_iff {t : Nat → ByteArray} {i m : Nat} (hm : m ≤ (t i).size) (h0 : 0 < m) (last : ByteArray) (hl : last = if i = 0 then ByteArray.empty else t (i - 1)) :
    (m ≤ last.size ∧ last.extract 0 m = (t i).extract 0 m) ↔ m ≤ known (fun j => lsb (t j)) i := by
  rw [known]
  by_cases e : i = 0
  · rw [if_pos e] at hl ⊢
    subst hl
    simp
    omega
  · rw [if_neg e] at hl ⊢
    subst hl
    rw [le_comm, lsb_size, lsb_size, ← lsb_extract, ← lsb_extract]
    constructor
    · rintro ⟨h1, h2⟩; exact ⟨h1, hm, by rw [h2]⟩
    · rintro ⟨h1, _, h2⟩; exact ⟨h1, lsb_inj h2⟩
def strs (l : List ByteArray) : List Value := l.map .string
theorem strs_snoc (l : List ByteArray) (s : ByteArray) : strs l ++ [.string s] = strs (l ++ [s]) := by simp [strs]
theorem strs_len (l : List ByteArray) : (strs l).length = l.length := by simp [strs]
/-- The first k of some texts. -/
def scells (t : Nat → ByteArray) (k : Nat) : List Value := (List.range k).map fun j => .string (t j)
theorem scells_len (t : Nat → ByteArray) (k : Nat) : (scells t k).length = k := by simp [scells]
theorem scells_snoc (t : Nat → ByteArray) (k : Nat) : scells t k ++ [.string (t k)] = scells t (k + 1) := by simp [scells, List.range_succ]
theorem scells_at (t : Nat → ByteArray) {k j : Nat} (h : j < k) : (scells t k)[j]? = some (.string (t j)) := by simp [scells, h]
theorem scells_congr {t u : Nat → ByteArray} {k : Nat} (h : ∀ j, j < k → t j = u j) : scells t k = scells u k := by
  simp only [scells]
  apply List.map_congr_left
  intro j hj
  rw [h j (by simpa using hj)]
end Go.Proofs.Ytpngikmcjkjdaab
