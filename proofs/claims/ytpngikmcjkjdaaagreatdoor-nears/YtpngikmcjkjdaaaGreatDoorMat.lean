import Derived.Test.YtpngikmcjkjdaaaGreatDoorShrink
namespace Go.Proofs.YtpngikmcjkjdaaaGreatDoor
open Go.RowKit
set_option linter.unusedVariables false

theorem rowIs_ne {w : World} {b b' t t' n n' : Nat} {f f' : Nat → Value} (h : w.rowIs b t n f) (h' : w.rowIs b' t' n' f') (ht : t ≠ t') : b ≠ b' := by
  obtain ⟨c, hb, _, _⟩ := h
  obtain ⟨c', hb', _, _⟩ := h'
  intro e
  subst e
  rw [hb] at hb'
  simp only [Option.some.injEq, Obj.cells.injEq] at hb'
  exact ht hb'.2.1
/-- A square of bools in memory, k of its rows laid. -/
structure MatTo (w : World) (B g n k : Nat) (rb : Nat → Nat) (D : Nat → Nat → Bool) : Prop where
  top : w.rowIs g 38 n (fun i => if i < k then .slice (some ⟨rb i, 0, none⟩) n n else .slice none 0 0)
  row : ∀ i, i < k → w.rowIs (rb i) 4 n (fun j => .bool (D i j))
  inj : ∀ i j, i < k → j < k → i ≠ j → rb i ≠ rb j
  lg : B ≤ g
  lr : ∀ i, i < k → B ≤ rb i
theorem MatTo.below {w w' : World} {B g n k : Nat} {rb : Nat → Nat} {D : Nat → Nat → Bool} (h : MatTo w B g n k rb D) (hb : Below w.heap.size w w') : MatTo w' B g n k rb D :=
  ⟨h.top.of_block (hb.block _ h.top.lt), fun i hi => (h.row i hi).of_block (hb.block _ (h.row i hi).lt), h.inj, h.lg, h.lr⟩
theorem MatTo.congr {w : World} {B g n k : Nat} {rb : Nat → Nat} {D D' : Nat → Nat → Bool} (h : MatTo w B g n k rb D) (e : ∀ i j, i < k → j < n → D i j = D' i j) : MatTo w B g n k rb D' :=
  ⟨h.top, fun i hi => (h.row i hi).congr (fun j hj => by rw [e i j hi hj]), h.inj, h.lg, h.lr⟩
def upd (D : Nat → Nat → Bool) (i j : Nat) (v : Bool) : Nat → Nat → Bool := fun x y => if x = i ∧ y = j then v else D x y
theorem MatTo.set {w : World} {B g n k : Nat} {rb : Nat → Nat} {D : Nat → Nat → Bool} (h : MatTo w B g n k rb D) {i j : Nat} (hi : i < k) (v : Bool) : MatTo (w.setCell ⟨rb i, j, none⟩ (.bool v)) B g n k rb (upd D i j v) := by
  refine ⟨h.top.setOther (rowIs_ne h.top (h.row i hi) (by decide)) _, fun x hx => ?_, h.inj, h.lg, h.lr⟩
  by_cases e : x = i
  · subst e
    refine ((h.row x hi).set j _).congr (fun y _ => ?_)
    by_cases e : y = j <;> simp [upd, e]
  · refine ((h.row x hx).setOther (h.inj x i hx hi e) _).congr (fun y _ => ?_)
    simp [upd, e]
theorem MatTo.other {w : World} {B g n k H m : Nat} {rb : Nat → Nat} {D : Nat → Nat → Bool} {f : Nat → Value} (h : MatTo w B g n k rb D) (hr : w.rowIs H 4 m f) (hne : ∀ i, i < k → rb i ≠ H) (j : Nat) (v : Value) : MatTo (w.setCell ⟨H, j, none⟩ v) B g n k rb D :=
  ⟨h.top.setOther (rowIs_ne h.top hr (by decide)) _, fun x hx => (h.row x hx).setOther (hne x hx) _, h.inj, h.lg, h.lr⟩
theorem MatTo.next {w : World} {B g n k H : Nat} {rb : Nat → Nat} {D : Nat → Nat → Bool} {f : Nat → Bool} (h : MatTo w B g n k rb D) (hr : w.rowIs H 4 n (fun j => .bool (f j))) (hne : ∀ i, i < k → rb i ≠ H) (hH : B ≤ H) :
    MatTo (w.setCell ⟨g, k, none⟩ (.slice (some ⟨H, 0, none⟩) n n)) B g n (k + 1) (fun i => if i = k then H else rb i) (fun i j => if i = k then f j else D i j) := by
  refine ⟨(h.top.set k _).congr (fun x _ => ?_), fun x hx => ?_, fun x y hx hy hxy => ?_, h.lg, fun x hx => ?_⟩
  · by_cases e : x = k
    · subst e; simp
    · simp only [if_neg e]
      by_cases h' : x < k
      · rw [if_pos h', if_pos (by omega)]
      · rw [if_neg h', if_neg (by omega)]
  · by_cases e : x = k
    · subst e; simp only [if_true]; exact hr.setOther (fun e => rowIs_ne h.top hr (by decide) e.symm) _
    · simp only [if_neg e]; exact (h.row x (by omega)).setOther (fun e' => rowIs_ne h.top (h.row x (by omega)) (by decide) e'.symm) _
  · by_cases e : x = k
    · subst e; simp only [if_true, if_neg (show y ≠ x from fun e => hxy e.symm)]; exact fun e' => hne y (by omega) e'.symm
    · by_cases e2 : y = k
      · subst e2; simp only [if_neg e, if_true]; exact hne x (by omega)
      · simp only [if_neg e, if_neg e2]; exact h.inj x y (by omega) (by omega) hxy
  · by_cases e : x = k
    · subst e; simp only [if_true]; exact hH
    · simp only [if_neg e]; exact h.lr x (by omega)

/-- How many are not told apart yet. -/
def falses (n : Nat) (D : Nat → Nat → Bool) : Nat := ((List.range (n * n)).filter fun q => !D (q / n) (q % n)).length
theorem falses_lt {n : Nat} {D D' : Nat → Nat → Bool} (hle : ∀ i j, i < n → j < n → D i j = true → D' i j = true) {i j : Nat} (hi : i < n) (hj : j < n) (h0 : D i j = false) (h1 : D' i j = true) : falses n D' < falses n D := by
  have key : ∀ (l : List Nat), (∀ q ∈ l, q < n * n) → ((l.filter fun q => !D' (q / n) (q % n)).length ≤ (l.filter fun q => !D (q / n) (q % n)).length) ∧ (i * n + j ∈ l → (l.filter fun q => !D' (q / n) (q % n)).length < (l.filter fun q => !D (q / n) (q % n)).length) := by
    intro l
    induction l with
    | nil => intro _; simp
    | cons q l ih =>
      intro hq
      obtain ⟨a, b⟩ := ih (fun x hx => hq x (by simp [hx]))
      have hqn := hq q (by simp)
      have hn : 0 < n := by omega
      have q1 : q / n < n := Nat.div_lt_of_lt_mul hqn
      have q2 : q % n < n := Nat.mod_lt _ hn
      by_cases e : q = i * n + j
      · have e1 : q / n = i := by rw [e, Nat.mul_comm, Nat.mul_add_div hn, Nat.div_eq_of_lt hj]; omega
        have e2 : q % n = j := by rw [e, Nat.mul_comm, Nat.mul_add_mod, Nat.mod_eq_of_lt hj]
        simp only [List.filter_cons, e1, e2, h0, h1]
        simp
        constructor
        · omega
        · omega
      · have hm := hle _ _ q1 q2
        cases hd : D (q / n) (q % n) with
        | true =>
          simp only [List.filter_cons, hd, hm hd]
          simp
          exact ⟨a, fun h => by
            rcases h with h | h
            · exact absurd h.symm e
            · exact b h⟩
        | false =>
          cases hd' : D' (q / n) (q % n) with
          | true =>
            simp only [List.filter_cons, hd, hd']
            simp
            exact ⟨by omega, fun _ => by omega⟩
          | false =>
            simp only [List.filter_cons, hd, hd']
            simp
            exact ⟨a, fun h => by
              rcases h with h | h
              · exact absurd h.symm e
              · exact b h⟩
  refine (key (List.range (n * n)) (by simp)).2 ?_
  simp only [List.mem_range]
  have : i * n + j < (i + 1) * n := by rw [Nat.add_mul]; omega
  exact Nat.lt_of_lt_of_le this (Nat.mul_le_mul_right n (by omega))
end Go.Proofs.YtpngikmcjkjdaaaGreatDoor
