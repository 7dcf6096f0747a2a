import Derived.Deep.DeepCutAuto
import Derived.Deep.RegionWith
import Derived.Test.YtpngikmcjkjdaabG2
import Derived.Test.YtpngikmcjkjdaabG3
import Derived.Test.YtpngikmcjkjdaabG5
set_option linter.unusedVariables false
set_option linter.unusedSimpArgs false
namespace Go.Proofs.Ytpngikmcjkjdaab
set_option linter.unusedVariables false
structure Sp where
  a : Nat
  bk : Bool
  sp : Nat
def Sp.go (t : Sp) : Sp := ⟨t.a + 1, t.bk, t.sp⟩
def Sp.tell (t : Sp) (pl : Nat) : Sp := ⟨t.a, true, if t.bk then t.sp else pl⟩
inductive Res (α : Type) where
  | no (t : Sp) : Res α
  | ok (x : α) (t : Sp) : Res α
section
variable (s : ByteArray)
def partF (t : Sp) : Res (Nat × Nat) :=
  if noteHere s t.a then
    if hit s (t.a + 1) 45 then
      if noteHere s (t.a + 1 + 1) then .ok (byteAt s t.a - 97, byteAt s (t.a + 1 + 1) - 97) t.go.go.go else .no t.go.go
    else .ok (byteAt s t.a - 97, byteAt s t.a - 97) t.go
  else .no t
def spanF (pl f g : Nat) (t : Sp) : Sp := if g < f then t.tell pl else t
def addSpan (N : Nat → Bool) (f g : Nat) : Nat → Bool := fun c => N c || (decide (f ≤ c) && decide (c ≤ g))
def setLoop : Nat → (Nat → Bool) → Sp → Res (Nat → Bool)
  | 0, _, t => .no t
  | n + 1, N, t =>
    match partF s t with
    | .no t' => .no t'
    | .ok (f, g) t' => if hit s t'.a 93 then .ok (addSpan N f g) (spanF t.a f g t').go else setLoop n (addSpan N f g) (spanF t.a f g t')
def setF (t : Sp) : Res (Nat → Bool) :=
  if hit s t.a 94 then
    match setLoop s (s.size + 1) (fun _ => false) t.go with
    | .no t' => .no t'
    | .ok N t' => .ok (fun c => !N c) t'
  else setLoop s (s.size + 1) (fun _ => false) t
def countF (t : Sp) : Res (Nat × Nat × Bool) :=
  if digitHere s t.a then
    if hit s (t.a + 1) 125 then .ok (byteAt s t.a - 48, byteAt s t.a - 48, false) t.go.go
    else if hit s (t.a + 1) 44 then
      if hit s (t.a + 1 + 1) 125 then .ok (byteAt s t.a - 48, byteAt s t.a - 48 + 1, true) t.go.go.go
      else if digitHere s (t.a + 1 + 1) then
        if hit s (t.a + 1 + 1 + 1) 125 then .ok (byteAt s t.a - 48, byteAt s (t.a + 1 + 1) - 48, false) (spanF t.a (byteAt s t.a - 48) (byteAt s (t.a + 1 + 1) - 48) t.go.go.go).go
        else .no (spanF t.a (byteAt s t.a - 48) (byteAt s (t.a + 1 + 1) - 48) t.go.go.go)
      else .no t.go.go
    else .no t.go
  else .no t
def atom0 (t : Sp) : Res Pat :=
  if hit s t.a 91 then
    match setF s t.go with
    | .no t' => .no t'
    | .ok N t' => .ok (.one N) t'
  else if hit s t.a 46 then .ok (.one (fun _ => true)) t.go
  else if noteHere s t.a then .ok (.one (fun c => decide (c = byteAt s t.a - 97))) t.go
  else .no t
def itemF (atom : Sp → Res Pat) (t : Sp) : Res Pat :=
  match atom t with
  | .no t' => .no t'
  | .ok p t1 =>
    if hit s t1.a 42 then .ok (.rep p 0 1 true) t1.go
    else if hit s t1.a 43 then .ok (.rep p 1 2 true) t1.go
    else if hit s t1.a 63 then .ok (.rep p 0 1 false) t1.go
    else if hit s t1.a 123 then
      match countF s t1.go with
      | .no t' => .no t'
      | .ok (lo, co, en) t' => .ok (.rep p lo co en) t'
    else .ok p t1
def seqF (atom : Sp → Res Pat) : Nat → Pat → Sp → Res Pat
  | 0, _, t => .no t
  | n + 1, p, t =>
    if endHere s t.a then .ok p t
    else match itemF s atom t with
      | .no t' => .no t'
      | .ok q t' => seqF atom n (.chain p q) t'
def patLoop (atom : Sp → Res Pat) : Nat → Pat → Sp → Res Pat
  | 0, _, t => .no t
  | n + 1, p, t =>
    if hit s t.a 124 then
      match seqF s atom (s.size + 1) .none t.go with
      | .no t' => .no t'
      | .ok q t' => patLoop atom n (.alt p q) t'
    else .ok p t
def patF (atom : Sp → Res Pat) (t : Sp) : Res Pat :=
  match seqF s atom (s.size + 1) .none t with
  | .no t' => .no t'
  | .ok p t' => patLoop s atom (s.size + 1) p t'
def atomF : Nat → Sp → Res Pat
  | 0 => atom0 s
  | k + 1 => fun t =>
    if hit s t.a 40 then
      match patF s (atomF k) t.go with
      | .no t' => .no t'
      | .ok p t' => if hit s t'.a 41 then .ok p t'.go else .no t'
    else atom0 s t
end
section
variable {s : ByteArray}
theorem hit_lt {a b : Nat} (h : hit s a b = true) : a < s.size := by
  unfold hit at h; simp at h; exact h.1
theorem note_lt {a : Nat} (h : noteHere s a = true) : a < s.size := by
  refine Classical.byContradiction fun hn => ?_
  unfold noteHere at h; rw [byteAt_end hn] at h; simp at h
theorem note_num {a : Nat} (h : noteHere s a = true) : byteAt s a - 97 < 8 ∧ 97 ≤ byteAt s a := by
  unfold noteHere at h; simp at h; omega
theorem digit_num {a : Nat} (h : digitHere s a = true) : byteAt s a - 48 < 10 ∧ 48 ≤ byteAt s a := by
  unfold digitHere at h; simp at h; omega
@[simp] theorem spanF_a (pl f g : Nat) (t : Sp) : (spanF pl f g t).a = t.a := by unfold spanF Sp.tell; split <;> rfl
@[simp] theorem go_a (t : Sp) : t.go.a = t.a + 1 := rfl
theorem partF_ok {t t' : Sp} {f g : Nat} (h : partF s t = .ok (f, g) t') : t.a < t'.a ∧ t'.a ≤ s.size ∧ f < 8 ∧ g < 8 := by
  unfold partF at h
  split at h
  · rename_i h1
    have n1 := note_num h1
    have l1 := note_lt h1
    split at h
    · rename_i h2
      split at h
      · rename_i h3
        have n3 := note_num h3
        have l3 := note_lt h3
        simp only [Res.ok.injEq, Prod.mk.injEq] at h
        obtain ⟨⟨rfl, rfl⟩, rfl⟩ := h
        simp only [go_a]; omega
      · simp at h
    · simp only [Res.ok.injEq, Prod.mk.injEq] at h
      obtain ⟨⟨rfl, rfl⟩, rfl⟩ := h
      simp only [go_a]; omega
  · simp at h
theorem setLoop_ok {n : Nat} {N N' : Nat → Bool} {t t' : Sp} (h : setLoop s n N t = .ok N' t') : t.a < t'.a ∧ t'.a ≤ s.size := by
  induction n generalizing N t with
  | zero => simp [setLoop] at h
  | succ n ih =>
    simp only [setLoop] at h
    cases hp : partF s t with
    | no t1 => rw [hp] at h; simp at h
    | ok x t1 =>
      obtain ⟨f, g⟩ := x
      rw [hp] at h
      have h1 := partF_ok hp
      simp only at h
      split at h
      · rename_i h2
        have l2 := hit_lt h2
        simp only [Res.ok.injEq] at h
        obtain ⟨_, rfl⟩ := h
        simp; omega
      · have := ih h
        simp at this; omega
theorem setF_ok {N : Nat → Bool} {t t' : Sp} (h : setF s t = .ok N t') : t.a < t'.a ∧ t'.a ≤ s.size := by
  unfold setF at h
  split at h
  · cases hp : setLoop s (s.size + 1) (fun _ => false) t.go with
    | no t1 => rw [hp] at h; simp at h
    | ok x t1 =>
      rw [hp] at h
      have := setLoop_ok hp
      simp only [Res.ok.injEq] at h
      obtain ⟨_, rfl⟩ := h
      simp at this; omega
  · exact setLoop_ok h
theorem countF_ok {lo co : Nat} {en : Bool} {t t' : Sp} (h : countF s t = .ok (lo, co, en) t') : t.a < t'.a ∧ t'.a ≤ s.size ∧ co ≤ 10 ∧ lo ≤ 9 := by
  unfold countF at h
  split at h
  · rename_i h1
    have n1 := digit_num h1
    split at h
    · rename_i h2
      have l2 := hit_lt h2
      simp only [Res.ok.injEq, Prod.mk.injEq] at h
      obtain ⟨⟨rfl, rfl, rfl⟩, rfl⟩ := h
      simp only [go_a]; omega
    · split at h
      · split at h
        · rename_i h2
          have l2 := hit_lt h2
          simp only [Res.ok.injEq, Prod.mk.injEq] at h
          obtain ⟨⟨rfl, rfl, rfl⟩, rfl⟩ := h
          simp only [go_a]; omega
        · split at h
          · rename_i h3
            have n3 := digit_num h3
            split at h
            · rename_i h4
              have l4 := hit_lt h4
              simp only [Res.ok.injEq, Prod.mk.injEq] at h
              obtain ⟨⟨rfl, rfl, rfl⟩, rfl⟩ := h
              simp only [go_a, spanF_a]; omega
            · simp at h
          · simp at h
      · simp at h
  · simp at h
def Goes (s : ByteArray) (B : Nat) (atom : Sp → Res Pat) : Prop := ∀ t p t', atom t = .ok p t' → t.a < t'.a ∧ t'.a ≤ s.size ∧ p.size ≤ (t'.a - t.a) * B
theorem atom0_goes : Goes s 1 (atom0 s) := by
  intro t p t' h
  unfold atom0 at h
  split at h
  · cases hp : setF s t.go with
    | no t1 => rw [hp] at h; simp at h
    | ok x t1 =>
      rw [hp] at h
      have := setF_ok hp
      simp only [Res.ok.injEq] at h
      obtain ⟨rfl, rfl⟩ := h
      simp at this
      simp only [Pat.size]; omega
  · split at h
    · rename_i h2
      have := hit_lt h2
      simp only [Res.ok.injEq] at h
      obtain ⟨rfl, rfl⟩ := h
      simp only [Pat.size, go_a]; omega
    · split at h
      · rename_i h2
        have := note_lt h2
        simp only [Res.ok.injEq] at h
        obtain ⟨rfl, rfl⟩ := h
        simp only [Pat.size, go_a]; omega
      · simp at h
theorem size_mul {x l l' B c : Nat} (h : x ≤ l * B) (hc : c ≤ 10) (hl : l ≤ l') : x * c ≤ l' * (B * 10) := by
  have h1 : x * c ≤ (l * B) * 10 := Nat.mul_le_mul h hc
  have h2 : l * B * 10 ≤ l' * B * 10 := Nat.mul_le_mul_right _ (Nat.mul_le_mul_right _ hl)
  rw [← Nat.mul_assoc]; omega
theorem itemF_goes {B : Nat} {atom : Sp → Res Pat} (ha : Goes s B atom) : Goes s (B * 10) (itemF s atom) := by
  intro t p t' h
  unfold itemF at h
  cases hp : atom t with
  | no t1 => rw [hp] at h; simp at h
  | ok q t1 =>
    rw [hp] at h
    obtain ⟨h1, h2, h3⟩ := ha _ _ _ hp
    simp only at h
    split at h
    · rename_i h4
      have := hit_lt h4
      simp only [Res.ok.injEq] at h
      obtain ⟨rfl, rfl⟩ := h
      refine ⟨by simp only [go_a]; omega, by simp only [go_a]; omega, size_mul h3 (by omega) (by simp only [go_a]; omega)⟩
    · split at h
      · rename_i h4
        have := hit_lt h4
        simp only [Res.ok.injEq] at h
        obtain ⟨rfl, rfl⟩ := h
        refine ⟨by simp only [go_a]; omega, by simp only [go_a]; omega, size_mul h3 (by omega) (by simp only [go_a]; omega)⟩
      · split at h
        · rename_i h4
          have := hit_lt h4
          simp only [Res.ok.injEq] at h
          obtain ⟨rfl, rfl⟩ := h
          refine ⟨by simp only [go_a]; omega, by simp only [go_a]; omega, size_mul h3 (by omega) (by simp only [go_a]; omega)⟩
        · split at h
          · cases hc : countF s t1.go with
            | no t2 => rw [hc] at h; simp at h
            | ok x t2 =>
              obtain ⟨lo, co, en⟩ := x
              rw [hc] at h
              have h5 := countF_ok hc
              simp only [Res.ok.injEq] at h
              obtain ⟨rfl, rfl⟩ := h
              simp only [go_a] at h5
              exact ⟨by omega, by omega, size_mul h3 h5.2.2.1 (by omega)⟩
          · simp only [Res.ok.injEq] at h
            obtain ⟨rfl, rfl⟩ := h
            have := size_mul (c := 1) h3 (by omega) (Nat.le_refl _)
            exact ⟨h1, h2, by omega⟩
theorem span_add {a b c : Nat} (h1 : a ≤ b) (h2 : b ≤ c) (B : Nat) : (b - a) * B + (c - b) * B = (c - a) * B := by
  rw [← Nat.add_mul]; congr 1; omega
theorem seqF_goes {B : Nat} {atom : Sp → Res Pat} (ha : Goes s B atom) {n : Nat} {p q : Pat} {t t' : Sp} (hz : t.a ≤ s.size) (h : seqF s atom n p t = .ok q t') : t.a ≤ t'.a ∧ t'.a ≤ s.size ∧ q.size ≤ p.size + (t'.a - t.a) * (B * 10) := by
  induction n generalizing p t with
  | zero => simp [seqF] at h
  | succ n ih =>
    simp only [seqF] at h
    split at h
    · simp only [Res.ok.injEq] at h
      obtain ⟨rfl, rfl⟩ := h
      omega
    · cases hp : itemF s atom t with
      | no t1 => rw [hp] at h; simp at h
      | ok q1 t1 =>
        rw [hp] at h
        obtain ⟨h1, h2, h3⟩ := itemF_goes ha _ _ _ hp
        obtain ⟨h4, h5, h6⟩ := ih h2 h
        have := span_add (Nat.le_of_lt h1) h4 (B * 10)
        simp only [Pat.size] at h6
        omega
theorem patLoop_goes {B : Nat} {atom : Sp → Res Pat} (ha : Goes s B atom) {n : Nat} {p q : Pat} {t t' : Sp} (hz : t.a ≤ s.size) (h : patLoop s atom n p t = .ok q t') : t.a ≤ t'.a ∧ t'.a ≤ s.size ∧ q.size ≤ p.size + (t'.a - t.a) * (B * 10) := by
  induction n generalizing p t with
  | zero => simp [patLoop] at h
  | succ n ih =>
    simp only [patLoop] at h
    split at h
    · rename_i hh
      have hl := hit_lt hh
      cases hp : seqF s atom (s.size + 1) .none t.go with
      | no t1 => rw [hp] at h; simp at h
      | ok q1 t1 =>
        rw [hp] at h
        obtain ⟨h1, h2, h3⟩ := seqF_goes ha (by simp only [go_a]; omega) hp
        obtain ⟨h4, h5, h6⟩ := ih h2 h
        simp only [Pat.size, go_a] at h1 h3 h6
        have := span_add (a := t.a) (by omega) h4 (B * 10)
        have h7 : (t1.a - (t.a + 1)) * (B * 10) ≤ (t1.a - t.a) * (B * 10) := Nat.mul_le_mul_right _ (by omega)
        omega
    · simp only [Res.ok.injEq] at h
      obtain ⟨rfl, rfl⟩ := h
      omega
theorem patF_goes {B : Nat} {atom : Sp → Res Pat} (ha : Goes s B atom) {q : Pat} {t t' : Sp} (hz : t.a ≤ s.size) (h : patF s atom t = .ok q t') : t.a ≤ t'.a ∧ t'.a ≤ s.size ∧ q.size ≤ (t'.a - t.a) * (B * 10) := by
  unfold patF at h
  cases hp : seqF s atom (s.size + 1) .none t with
  | no t1 => rw [hp] at h; simp at h
  | ok q1 t1 =>
    rw [hp] at h
    obtain ⟨h1, h2, h3⟩ := seqF_goes ha hz hp
    obtain ⟨h4, h5, h6⟩ := patLoop_goes ha h2 h
    have := span_add h1 h4 (B * 10)
    simp only [Pat.size] at h3
    omega
theorem atomF_goes (k : Nat) : Goes s (10 ^ k) (atomF s k) := by
  induction k with
  | zero => exact atom0_goes
  | succ k ih =>
    intro t p t' h
    simp only [atomF] at h
    split at h
    · rename_i hh
      have hl := hit_lt hh
      cases hp : patF s (atomF s k) t.go with
      | no t1 => rw [hp] at h; simp at h
      | ok q1 t1 =>
        rw [hp] at h
        obtain ⟨h1, h2, h3⟩ := patF_goes ih (by simp only [go_a]; omega) hp
        simp only at h
        split at h
        · rename_i hh2
          have hl2 := hit_lt hh2
          simp only [Res.ok.injEq] at h
          obtain ⟨rfl, rfl⟩ := h
          simp only [go_a] at h1 h3 ⊢
          refine ⟨by omega, by omega, ?_⟩
          rw [Nat.pow_succ]
          exact Nat.le_trans h3 (Nat.mul_le_mul_right _ (by omega))
        · simp at h
    · obtain ⟨h1, h2, h3⟩ := atom0_goes _ _ _ h
      refine ⟨h1, h2, Nat.le_trans h3 (Nat.mul_le_mul_left _ ?_)⟩
      exact Nat.pow_pos (by omega)
end
end Go.Proofs.Ytpngikmcjkjdaab

namespace Go.Proofs.Ytpngikmcjkjdaab
set_option linter.unusedVariables false
def isNoteN (c : Nat) : Bool := decide (97 ≤ c) && decide (c ≤ 104)
def isDigitN (c : Nat) : Bool := decide (48 ≤ c) && decide (c ≤ 57)
def itemA (q d c : Nat) : Nat × Nat :=
  if isNoteN c || c == 46 then (1, d)
  else if c == 91 then (3, d)
  else if c == 40 && decide (d < 6) then (0, d + 1)
  else if c == 41 && decide (0 < d) then (1, d - 1)
  else if c == 124 then (0, d)
  else if q == 1 && (c == 42 || c == 43 || c == 63) then (2, d)
  else if q == 1 && c == 123 then (8, d)
  else (12, d)
def setA (q c : Nat) : Nat :=
  if c == 94 && q == 3 then 4
  else if isNoteN c && q == 6 then 7
  else if isNoteN c then 5
  else if c == 45 && q == 5 then 6
  else if c == 93 && (q == 5 || q == 7) then 1
  else 12
def markA (q c : Nat) : Nat :=
  if isDigitN c && q == 8 then 9
  else if isDigitN c && q == 10 then 11
  else if c == 44 && q == 9 then 10
  else if c == 125 && q != 8 then 2
  else 12
def aut (q d c : Nat) : Nat × Nat := if q ≤ 2 then itemA q d c else if q ≤ 7 then (setA q c, d) else (markA q c, d)
inductive At (s : ByteArray) : Nat → Nat → Nat → Prop where
  | zero : At s 0 0 0
  | step {a q d q' d' : Nat} (h : At s a q d) (hlt : a < s.size) (ha : aut q d (byteAt s a) = (q', d')) (hq : q' ≠ 12) : At s (a + 1) q' d'
theorem At.back {s : ByteArray} {a q d : Nat} (h : At s a q d) {b : Nat} (hb : b < a) : ∃ q' d' q'' d'', At s b q' d' ∧ aut q' d' (byteAt s b) = (q'', d'') ∧ q'' ≠ 12 ∧ b < s.size := by
  induction h with
  | zero => omega
  | step h1 hlt ha hq ih =>
    rename_i a _ _ _ _
    by_cases e : b = a
    · subst e; exact ⟨_, _, _, _, h1, ha, hq, hlt⟩
    · exact ih (by omega)
theorem At.le {s : ByteArray} {a q d : Nat} (h : At s a q d) : a ≤ s.size := by cases h with
  | zero => omega
  | step _ hlt _ _ => omega
def Stuck (s : ByteArray) (a : Nat) : Prop := ∃ q d, At s a q d ∧ ((a < s.size ∧ (aut q d (byteAt s a)).1 = 12) ∨ (a = s.size ∧ (2 < q ∨ 0 < d)))
theorem Stuck.mk {s : ByteArray} {a q d : Nat} (h : At s a q d) (h1 : a < s.size → (aut q d (byteAt s a)).1 = 12) (h2 : a = s.size → 2 < q ∨ 0 < d) : Stuck s a := by
  have := h.le
  by_cases e : a < s.size
  · exact ⟨q, d, h, .inl ⟨e, h1 e⟩⟩
  · exact ⟨q, d, h, .inr ⟨by omega, h2 (by omega)⟩⟩
def BkT (s : ByteArray) (i : Nat) : Bool :=
  (decide (i + 2 < s.size) && (byteAt s (i + 1) == 45) && decide (byteAt s (i + 2) < byteAt s i)) ||
  (isDigitN (byteAt s i) && decide (i + 2 < s.size) && (byteAt s (i + 1) == 44) && (byteAt s (i + 2) != 125) && decide (byteAt s (i + 2) < byteAt s i))
theorem BkT.off {s : ByteArray} {i : Nat} (h : byteAt s (i + 1) ≠ 45) (h' : byteAt s (i + 1) ≠ 44) : BkT s i = false := by
  unfold BkT
  rw [show (byteAt s (i + 1) == 45) = false by simpa using h, show (byteAt s (i + 1) == 44) = false by simpa using h']
  simp
structure Good (s : ByteArray) (t : Sp) (q d : Nat) : Prop where
  at_ : At s t.a q d
  yes : t.bk = true → BkT s t.sp = true ∧ ∀ j, j < t.sp → BkT s j = false
  no : t.bk = false → ∀ j, j + 1 < t.a → BkT s j = false
theorem Good.le {s : ByteArray} {t : Sp} {q d : Nat} (h : Good s t q d) : t.a ≤ s.size := h.at_.le
theorem Good.step {s : ByteArray} {t : Sp} {q d q' d' : Nat} (h : Good s t q d) (hlt : t.a < s.size) (ha : aut q d (byteAt s t.a) = (q', d')) (hq : q' ≠ 12) (h1 : byteAt s t.a ≠ 45) (h2 : byteAt s t.a ≠ 44) : Good s t.go q' d' := by
  refine ⟨h.at_.step hlt ha hq, h.yes, fun hb j hj => ?_⟩
  simp only [go_a] at hj
  by_cases e : j + 1 = t.a
  · exact BkT.off (by rw [e]; exact h1) (by rw [e]; exact h2)
  · exact h.no hb j (by omega)
theorem note_eq (s : ByteArray) (a : Nat) : noteHere s a = isNoteN (byteAt s a) := rfl
theorem digit_eq (s : ByteArray) (a : Nat) : digitHere s a = isDigitN (byteAt s a) := rfl
theorem noteN_iff {c : Nat} : isNoteN c = true ↔ 97 ≤ c ∧ c ≤ 104 := by unfold isNoteN; simp
theorem digitN_iff {c : Nat} : isDigitN c = true ↔ 48 ≤ c ∧ c ≤ 57 := by unfold isDigitN; simp
def parseF (s : ByteArray) : Res Pat := patF s (atomF s 6) ⟨0, false, 0⟩
end Go.Proofs.Ytpngikmcjkjdaab

namespace Go.Proofs.Ytpngikmcjkjdaab
set_option linter.unusedVariables false
def txt (s : ByteArray) : List Nat := s.data.toList.map UInt8.toNat
def sub (s : ByteArray) (a b : Nat) : List Nat := ((txt s).take b).drop a
theorem txt_len (s : ByteArray) : (txt s).length = s.size := by unfold txt; simp
theorem txt_get {s : ByteArray} {a : Nat} (h : a < s.size) : (txt s)[a]? = some (byteAt s a) := by
  have h' : a < s.data.toList.length := by rw [Array.length_toList]; exact h
  unfold txt byteAt
  rw [List.getElem?_map, List.getD_eq_getElem?_getD, List.getElem?_eq_getElem h']
  rfl
inductive Mk where
  | none : Mk
  | star : Mk
  | plus : Mk
  | opt : Mk
  | just (n : Nat) : Mk
  | more (n : Nat) : Mk
  | span (n m : Nat) : Mk
def Mk.text : Mk → List Nat
  | .none => []
  | .star => [42]
  | .plus => [43]
  | .opt => [63]
  | .just n => [123, 48 + n, 125]
  | .more n => [123, 48 + n, 44, 125]
  | .span n m => [123, 48 + n, 44, 48 + m, 125]
def Mk.app : Mk → Pat → Pat
  | .none => fun p => p
  | .star => fun p => .rep p 0 1 true
  | .plus => fun p => .rep p 1 2 true
  | .opt => fun p => .rep p 0 1 false
  | .just n => fun p => .rep p n n false
  | .more n => fun p => .rep p n (n + 1) true
  | .span n m => fun p => .rep p n m false
def Mk.ok : Mk → Prop
  | .just n => n ≤ 9
  | .more n => n ≤ 9
  | .span n m => n ≤ m ∧ m ≤ 9
  | _ => True
structure Prt where
  f : Nat
  g : Nat
  dash : Bool
def Prt.ok (x : Prt) : Prop := x.f < 8 ∧ x.g < 8 ∧ (x.dash = false → x.g = x.f) ∧ x.f ≤ x.g
def Prt.text (x : Prt) : List Nat := if x.dash then [97 + x.f, 45, 97 + x.g] else [97 + x.f]
def setN (N : Nat → Bool) (l : List Prt) : Nat → Bool := l.foldl (fun N x => addSpan N x.f x.g) N
def Atom0T (l : List Nat) (p : Pat) : Prop :=
  (∃ c, c < 8 ∧ l = [97 + c] ∧ p = .one (fun x => decide (x = c))) ∨ (l = [46] ∧ p = .one (fun _ => true)) ∨
  (∃ ps : List Prt, ps ≠ [] ∧ (∀ x ∈ ps, x.ok) ∧ ((l = 91 :: ps.flatMap Prt.text ++ [93] ∧ p = .one (setN (fun _ => false) ps)) ∨ (l = 91 :: 94 :: ps.flatMap Prt.text ++ [93] ∧ p = .one (fun c => !setN (fun _ => false) ps c))))
structure Itm where
  la : List Nat
  q : Pat
  m : Mk
def Itm.text (i : Itm) : List Nat := i.la ++ i.m.text
def Itm.pat (i : Itm) : Pat := i.m.app i.q
def chainL (p : Pat) (l : List Itm) : Pat := l.foldl (fun p i => .chain p i.pat) p
def SeqT (A : List Nat → Pat → Prop) (l : List Nat) (p : Pat) : Prop := ∃ its : List Itm, (∀ i ∈ its, A i.la i.q ∧ i.m.ok) ∧ l = its.flatMap Itm.text ∧ p = chainL .none its
def altL (p : Pat) (l : List (List Nat × Pat)) : Pat := l.foldl (fun p y => .alt p y.2) p
def barsL (l : List (List Nat × Pat)) : List Nat := l.flatMap fun y => 124 :: y.1
def PatT (A : List Nat → Pat → Prop) (l : List Nat) (p : Pat) : Prop := ∃ (x : List Nat × Pat) (xs : List (List Nat × Pat)), SeqT A x.1 x.2 ∧ (∀ y ∈ xs, SeqT A y.1 y.2) ∧ l = x.1 ++ barsL xs ∧ p = altL x.2 xs
def AtomT : Nat → List Nat → Pat → Prop
  | 0 => Atom0T
  | k + 1 => fun l p => Atom0T l p ∨ ∃ l', l = 40 :: l' ++ [41] ∧ PatT (AtomT k) l' p
section
variable {s : ByteArray}
end
end Go.Proofs.Ytpngikmcjkjdaab

namespace Go.Proofs.Ytpngikmcjkjdaab
set_option linter.unusedVariables false
inductive Ex where
  | nil : Ex
  | one (S : Nat → Bool) : Ex
  | thn (a b : Ex) : Ex
  | alt (a b : Ex) : Ex
  | star (a : Ex) : Ex
def Ex.lang : Ex → List Nat → Prop
  | .nil => fun x => x = []
  | .one S => fun x => ∃ c, x = [c] ∧ S c = true
  | .thn a b => Cat a.lang b.lang
  | .alt a b => fun x => a.lang x ∨ b.lang x
  | .star a => Star a.lang
theorem cat_nil_left {l : List Nat → Prop} (x : List Nat) : Cat (fun x => x = []) l x ↔ l x :=
  ⟨fun ⟨u, v, e, hu, hv⟩ => by subst hu; rw [e]; exact hv, fun h => ⟨[], x, rfl, rfl, h⟩⟩
theorem cat_nil_right {l : List Nat → Prop} (x : List Nat) : Cat l (fun x => x = []) x ↔ l x :=
  ⟨fun ⟨u, v, e, hu, hv⟩ => by subst hv; rw [e, List.append_nil]; exact hu, fun h => ⟨x, [], by simp, h, rfl⟩⟩
end Go.Proofs.Ytpngikmcjkjdaab

namespace Go.Proofs.Ytpngikmcjkjdaab
set_option linter.unusedVariables false
set_option linter.unusedSimpArgs false
theorem PatT.mono {A B : List Nat → Pat → Prop} (h : ∀ l p, A l p → B l p) {l : List Nat} {p : Pat} (hp : PatT A l p) : PatT B l p := by
  have hs : ∀ l p, SeqT A l p → SeqT B l p := fun l p ⟨its, h1, h2, h3⟩ => ⟨its, fun i hi => ⟨h _ _ (h1 i hi).1, (h1 i hi).2⟩, h2, h3⟩
  obtain ⟨x, xs, h1, h2, h3, h4⟩ := hp
  exact ⟨x, xs, hs _ _ h1, fun y hy => hs _ _ (h2 y hy), h3, h4⟩
theorem AtomT.zero {k : Nat} {l : List Nat} {p : Pat} (h : Atom0T l p) : AtomT k l p := by
  cases k
  · exact h
  · exact .inl h
theorem PatT.zero {k : Nat} {l : List Nat} {p : Pat} (h : PatT Atom0T l p) : PatT (AtomT k) l p := h.mono fun _ _ => AtomT.zero
theorem AtomT.par {k : Nat} {l : List Nat} {p : Pat} (h : PatT (AtomT k) l p) : AtomT (k + 1) (40 :: l ++ [41]) p := .inr ⟨l, rfl, h⟩
theorem PatT.items {A : List Nat → Pat → Prop} (its : List Itm) (h : ∀ i ∈ its, A i.la i.q ∧ i.m.ok) : PatT A (its.flatMap Itm.text) (chainL .none its) :=
  ⟨(its.flatMap Itm.text, chainL .none its), [], ⟨its, h, rfl, rfl⟩, by simp, by simp [barsL], rfl⟩
theorem PatT.one {A : List Nat → Pat → Prop} {la : List Nat} {q : Pat} (m : Mk) (h : A la q) (hm : m.ok) : PatT A (la ++ m.text) (.chain .none (m.app q)) := by
  have := PatT.items (A := A) [⟨la, q, m⟩] (by intro i hi; simp at hi; subst hi; exact ⟨h, hm⟩)
  simpa [Itm.text, chainL, Itm.pat] using this
theorem PatT.two {A : List Nat → Pat → Prop} {la lb : List Nat} {q r : Pat} (m n : Mk) (h : A la q) (hm : m.ok) (h' : A lb r) (hn : n.ok) : PatT A (la ++ m.text ++ (lb ++ n.text)) (.chain (.chain .none (m.app q)) (n.app r)) := by
  have := PatT.items (A := A) [⟨la, q, m⟩, ⟨lb, r, n⟩] (by
                                                                                          intro i hi
                                                                                          simp at hi
                                                                                          rcases hi with rfl | rfl
                                                                                          · exact ⟨h, hm⟩
                                                                                          · exact ⟨h', hn⟩)
  simpa [Itm.text, chainL, Itm.pat] using this
theorem SeqT.one {A : List Nat → Pat → Prop} {la : List Nat} {q : Pat} (m : Mk) (h : A la q) (hm : m.ok) : SeqT A (la ++ m.text) (.chain .none (m.app q)) :=
  ⟨[⟨la, q, m⟩], by intro i hi; simp at hi; subst hi; exact ⟨h, hm⟩, by simp [Itm.text], rfl⟩
theorem SeqT.nil {A : List Nat → Pat → Prop} : SeqT A [] .none := ⟨[], by simp, rfl, rfl⟩
theorem SeqT.pat {A : List Nat → Pat → Prop} {l : List Nat} {p : Pat} (h : SeqT A l p) : PatT A l p := ⟨(l, p), [], h, by simp, by simp [barsL], rfl⟩
def Tells (t : List Nat) (L : List Nat → Prop) : Prop := ∃ p, PatT (AtomT 6) t p ∧ p.size ≤ 10 ∧ p.lang = L
section
variable {la : List Nat} {q : Pat}
end
end Go.Proofs.Ytpngikmcjkjdaab

namespace Go.Proofs.Ytpngikmcjkjdaab
open Go.RowKit
set_option linter.unusedVariables false
set_option linter.unusedSimpArgs false
theorem txt_app (a b : ByteArray) : txt (a ++ b) = txt a ++ txt b := by
  unfold txt
  rw [ByteArray.data_append, Array.toList_append, List.map_append]
section
variable {x y : Nat} {w w' : World}
end
end Go.Proofs.Ytpngikmcjkjdaab

namespace Go.Proofs.Ytpngikmcjkjdaab
open Go.RowKit
set_option linter.unusedVariables false
set_option linter.unusedSimpArgs false
theorem txt_cut (s : ByteArray) (a b : Nat) : txt (s.extract a b) = ((txt s).take b).drop a := by
  unfold txt
  rw [ByteArray.data_extract, Array.toList_extract, List.extract_eq_take_drop, List.map_take, List.map_drop]
  rw [List.drop_take]
theorem notes_txt (s : ByteArray) : notesOf s = (txt s).map fun c => c - 97 := by unfold notesOf txt; rw [List.map_map]; rfl
theorem isText_txt (s : ByteArray) : IsText s ↔ ∀ c ∈ txt s, 97 ≤ c ∧ c ≤ 104 := by
  unfold IsText txt
  simp
theorem isText_app {a b : ByteArray} (ha : IsText a) (hb : IsText b) : IsText (a ++ b) := by
  rw [isText_txt] at ha hb ⊢
  rw [txt_app]
  intro c hc
  rcases List.mem_append.1 hc with h | h
  · exact ha c h
  · exact hb c h
theorem isText_cut {s : ByteArray} (h : IsText s) (a b : Nat) : IsText (s.extract a b) := by
  rw [isText_txt] at h ⊢
  rw [txt_cut]
  exact fun c hc => h c (List.mem_of_mem_take (List.mem_of_mem_drop hc))
theorem notes_app (a b : ByteArray) : notesOf (a ++ b) = notesOf a ++ notesOf b := by rw [notes_txt, notes_txt, notes_txt, txt_app, List.map_append]
theorem notes_front (s : ByteArray) (k : Nat) : notesOf (s.extract 0 k) = (notesOf s).take k := by rw [notes_txt, notes_txt, txt_cut, List.drop_zero, List.map_take]
theorem notes_back (s : ByteArray) (k : Nat) : notesOf (s.extract k s.size) = (notesOf s).drop k := by
  rw [notes_txt, notes_txt, txt_cut, List.take_of_length_le (by rw [txt_len]; exact Nat.le_refl _), List.map_drop]
theorem notes_note (a : Nat) (h : a < 8) : notesOf ⟨#[noteB a]⟩ = [a] := by
  show [(noteB a).toNat - 97] = [a]
  rw [toNat_note a h, Nat.add_sub_cancel_left]
theorem notes_len (s : ByteArray) : (notesOf s).length = s.size := by unfold notesOf; simp
def ChangePost (s : ByteArray) (w : World) (e : Ending) (w' : World) : Prop := ∃ x : ByteArray, e = .returned (.string x) ∧ IsText x ∧ x.size ≤ s.size + 1 ∧ (∀ t K, Near1 (hearR t K (notesOf x)) (hearR t K (notesOf s))) ∧ Below w.heap.size w w'
section
variable {s : ByteArray} {w w' : World} {k pv : Nat}
theorem post_same (hs : IsText s) (hb : Below w.heap.size w w') : ChangePost s w (.returned (.string s)) w' := ⟨s, rfl, hs, by omega, fun t K i => by omega, hb⟩
theorem post_ins (hs : IsText s) (hk : k ≤ s.size) (hp : pv < 8) (hb : Below w.heap.size w w') : ChangePost s w (.returned (.string (s.extract 0 k ++ ⟨#[noteB pv]⟩ ++ s.extract k s.size))) w' := by
  refine ⟨_, rfl, isText_app (isText_app (isText_cut hs _ _) (isText_note pv hp)) (isText_cut hs _ _), ?_, fun t K => ?_, hb⟩
  · rw [ByteArray.size_append, ByteArray.size_append, ByteArray.size_extract, ByteArray.size_extract]
    show _ + 1 + _ ≤ _
    omega
  · have e1 : notesOf (s.extract 0 k ++ ⟨#[noteB pv]⟩ ++ s.extract k s.size) = (notesOf s).take k ++ pv :: (notesOf s).drop k := by
      rw [notes_app, notes_app, notes_front, notes_back, notes_note pv hp, List.append_assoc]
      rfl
    have := change_ins (t := t) (K := K) ((notesOf s).take k) ((notesOf s).drop k) pv
    rw [List.take_append_drop] at this
    rw [e1]
    exact this
theorem notes_split (hk : k < s.size) : ∃ c, notesOf s = (notesOf s).take k ++ c :: (notesOf s).drop (k + 1) := by
  have hl : k < (notesOf s).length := by rw [notes_len]; exact hk
  exact ⟨(notesOf s)[k], by rw [← List.drop_eq_getElem_cons hl, List.take_append_drop]⟩
theorem post_del (hs : IsText s) (hk : k < s.size) (hb : Below w.heap.size w w') : ChangePost s w (.returned (.string (s.extract 0 k ++ s.extract (k + 1) s.size))) w' := by
  refine ⟨_, rfl, isText_app (isText_cut hs _ _) (isText_cut hs _ _), ?_, fun t K => ?_, hb⟩
  · rw [ByteArray.size_append, ByteArray.size_extract, ByteArray.size_extract]
    omega
  · obtain ⟨c, hc⟩ := notes_split hk
    have e1 : notesOf (s.extract 0 k ++ s.extract (k + 1) s.size) = (notesOf s).take k ++ (notesOf s).drop (k + 1) := by rw [notes_app, notes_front, notes_back]
    have := change_del (t := t) (K := K) ((notesOf s).take k) ((notesOf s).drop (k + 1)) c
    rw [← hc] at this
    rw [e1]
    exact this
theorem post_put (hs : IsText s) (hk : k < s.size) (hp : pv < 8) (hb : Below w.heap.size w w') : ChangePost s w (.returned (.string (s.extract 0 k ++ ⟨#[noteB pv]⟩ ++ s.extract (k + 1) s.size))) w' := by
  refine ⟨_, rfl, isText_app (isText_app (isText_cut hs _ _) (isText_note pv hp)) (isText_cut hs _ _), ?_, fun t K => ?_, hb⟩
  · rw [ByteArray.size_append, ByteArray.size_append, ByteArray.size_extract, ByteArray.size_extract]
    show _ + 1 + _ ≤ _
    omega
  · obtain ⟨c, hc⟩ := notes_split hk
    have e1 : notesOf (s.extract 0 k ++ ⟨#[noteB pv]⟩ ++ s.extract (k + 1) s.size) = (notesOf s).take k ++ pv :: (notesOf s).drop (k + 1) := by
      rw [notes_app, notes_app, notes_front, notes_back, notes_note pv hp, List.append_assoc]
      rfl
    have := change_put (t := t) (K := K) ((notesOf s).take k) ((notesOf s).drop (k + 1)) pv c
    rw [← hc] at this
    rw [e1]
    exact this
end
set_option maxRecDepth 20000 in
set_option maxHeartbeats 2000000 in
theorem changed_ok (s : ByteArray) (a b c : Int) (w : World) (hs : IsText s) (hz : s.size ≤ 8) (ha : -9223372036854775808 ≤ a ∧ a ≤ 9223372036854775807) (hb : -9223372036854775808 ≤ b ∧ b ≤ 9223372036854775807) (hc : -9223372036854775808 ≤ c ∧ c ≤ 9223372036854775807) :
    Calls Try.prog 22 #[.string s, .int .i64 a, .int .i64 b, .int .i64 c] w (ChangePost s w) := by
  obtain ⟨k, HK⟩ : ∃ x, Hid (pickN b (s.size + 1) = x) := ⟨_, rfl⟩
  have hk : k < s.size + 1 := by rw [← HK.out]; exact pickN_lt _ _ (by omega)
  have H1 := pick_any b ((s.size : Int) + 1) w (by omega) (by omega) hb.1 hb.2
  rw [show ((s.size : Int) + 1).toNat = s.size + 1 by omega, HK.out] at H1
  obtain ⟨pv, HV⟩ : ∃ x, Hid (pickN c 8 = x) := ⟨_, rfl⟩
  have hpv : pv < 8 := by rw [← HV.out]; exact pickN_lt _ _ (by omega)
  have H2 := pick_any c 8 w (by omega) (by omega) hc.1 hc.2
  rw [show (8 : Int).toNat = 8 from rfl, HV.out] at H2
  obtain ⟨m, HM⟩ : ∃ x, Hid (pickN a 3 = x) := ⟨_, rfl⟩
  have hm : m < 3 := by rw [← HM.out]; exact pickN_lt _ _ (by omega)
  have H3 : Hid (∀ wj, Calls Try.prog 17 #[.int .i64 a, .int .i64 3] wj fun e w' => e = .returned (.int .i64 (m : Int)) ∧ w' = wj) := fun wj => by
    have := pick_any a 3 wj (by omega) (by omega) ha.1 ha.2
    rw [show (3 : Int).toNat = 3 from rfl, HM.out] at this
    exact this
  have hcv := conv_note pv hpv w
  have HS : Hid (IsText s) := hs
  clear HK HV HM hs ha hb hc
  go_enter Try.func22, Try.ntmps22
  go_wp2_with fail
  refine H1.mono ?_
  clear H1
  rintro e w' ⟨rfl, hw'⟩
  obtain rfl : w = w' := hw'.symm
  go_wp2_with fail
  refine H2.mono ?_
  clear H2
  rintro e w' ⟨rfl, hw'⟩
  obtain rfl : w = w' := hw'.symm
  go_upto_region 3 with fail
  obtain ⟨W, hW⟩ : ∃ W, W = w.alloc (.cells #[.int .u8 (97 + (pv : Int))] 5) := ⟨_, rfl⟩
  have BW : Below w.heap.size w W := by rw [hW]; exact (Below.refl _ _).alloc (Nat.le_refl _) _
  rw [← hW]
  clear hW hcv
  have HX := H3.out W
  clear H3
  rcases (show m = 0 ∨ m = 1 ∨ m = 2 by omega) with rfl | rfl | rfl
  · go_wp2_with fail
    refine HX.mono ?_
    clear HX
    rintro e w' ⟨rfl, hw'⟩
    obtain rfl : W = w' := hw'.symm
    go_wp2_with fail
    go_region
    all_goals go_wp2_with fail
    all_goals go_ret
    all_goals exact post_ins HS.out (by omega) hpv BW.drew
  · by_cases hlt : k < s.size
    · go_wp2_with fail
      refine HX.mono ?_
      clear HX
      rintro e w' ⟨rfl, hw'⟩
      obtain rfl : W = w' := hw'.symm
      go_wp2_with fail
      go_region
      all_goals go_wp2_with fail
      all_goals go_ret
      all_goals exact post_del HS.out hlt BW.drew
    · go_wp2_with fail
      refine HX.mono ?_
      clear HX
      rintro e w' ⟨rfl, hw'⟩
      obtain rfl : W = w' := hw'.symm
      go_wp2_with fail
      go_ret
      exact post_same HS.out BW
  · by_cases hlt : k < s.size
    · go_wp2_with fail
      refine HX.mono ?_
      clear HX
      rintro e w' ⟨rfl, hw'⟩
      obtain rfl : W = w' := hw'.symm
      go_wp2_with fail
      go_region
      all_goals go_wp2_with fail
      all_goals go_ret
      all_goals exact post_put HS.out hlt hpv BW.drew
    · go_wp2_with fail
      refine HX.mono ?_
      clear HX
      rintro e w' ⟨rfl, hw'⟩
      obtain rfl : W = w' := hw'.symm
      go_wp2_with fail
      go_ret
      exact post_same HS.out BW
end Go.Proofs.Ytpngikmcjkjdaab

namespace Go.Proofs.Ytpngikmcjkjdaab
open Go.RowKit
set_option linter.unusedVariables false
theorem bits_and_i64 (a b : Nat) (ha : a < 9223372036854775808) (hb : b < 9223372036854775808) : bits BinOp.and IntKind.i64 (a : Int) (b : Int) = ((a &&& b : Nat) : Int) := by
  have h : (BitVec.ofInt 64 (a : Int) &&& BitVec.ofInt 64 (b : Int)).toNat = a &&& b := by
    simp only [BitVec.toNat_and, BitVec.ofInt_natCast, BitVec.toNat_ofNat]
    rw [Nat.mod_eq_of_lt (by omega), Nat.mod_eq_of_lt (by omega)]
  have hl : a &&& b ≤ a := Nat.and_le_left
  show IntKind.i64.wrap ((BitVec.ofInt 64 (a : Int) &&& BitVec.ofInt 64 (b : Int)).toNat : Int) = _
  rw [h, IntKind.wrap_i64]
  omega
theorem bits_or_i64 (a b : Nat) (ha : a < 2048) (hb : b < 2048) : bits BinOp.or IntKind.i64 (a : Int) (b : Int) = ((a ||| b : Nat) : Int) := by
  have h : (BitVec.ofInt 64 (a : Int) ||| BitVec.ofInt 64 (b : Int)).toNat = a ||| b := by
    simp only [BitVec.toNat_or, BitVec.ofInt_natCast, BitVec.toNat_ofNat]
    rw [Nat.mod_eq_of_lt (by omega), Nat.mod_eq_of_lt (by omega)]
  have hl : a ||| b < 2 ^ 11 := Nat.or_lt_two_pow (by omega) (by omega)
  show IntKind.i64.wrap ((BitVec.ofInt 64 (a : Int) ||| BitVec.ofInt 64 (b : Int)).toNat : Int) = _
  rw [h, IntKind.wrap_i64]
  omega
theorem wrap64_pow (i : Nat) (h : i ≤ 11) : wrap64 (2 ^ i) = ((2 ^ i : Nat) : Int) := by
  have h1 : 2 ^ i ≤ 2 ^ 11 := Nat.pow_le_pow_right (by omega) h
  have h2 : ((2 : Int) ^ i) = ((2 ^ i : Nat) : Int) := by simp
  rw [h2]
  generalize (2 ^ i : Nat) = m at h1 ⊢
  unfold wrap64
  omega
theorem and_pow (S i : Nat) : (S &&& 2 ^ i != 0) = S.testBit i := by
  have e : S &&& 2 ^ i = if S.testBit i then 2 ^ i else 0 := by
    apply Nat.eq_of_testBit_eq
    intro j
    rw [Nat.testBit_and, Nat.testBit_two_pow]
    by_cases h : i = j
    · subst h
      cases hb : S.testBit i
      · simp
      · simp
    · cases hb : S.testBit i
      · simp [h]
      · simp [h]
  rw [e]
  cases hb : S.testBit i
  · simp
  · simp
def folF (beh : Nat → Nat) (S : Nat) : Nat → Nat
  | 0 => 0
  | i + 1 => if S.testBit i then folF beh S i ||| beh i else folF beh S i
theorem folF_lt {beh : Nat → Nat} {S n : Nat} (h : ∀ i, i < n → beh i < 2048) : folF beh S n < 2048 := by
  induction n with
  | zero => simp [folF]
  | succ n ih =>
    have h1 := ih (fun i hi => h i (by omega))
    simp only [folF]
    split
    · exact Nat.or_lt_two_pow (n := 11) h1 (h n (by omega))
    · exact h1
theorem folF_bit {beh : Nat → Nat} {S n q : Nat} : (folF beh S n).testBit q = true ↔ ∃ p, p < n ∧ S.testBit p = true ∧ (beh p).testBit q = true := by
  induction n with
  | zero => simp [folF]
  | succ n ih =>
    simp only [folF]
    by_cases h : S.testBit n = true
    · rw [if_pos h, Nat.testBit_or, Bool.or_eq_true, ih]
      constructor
      · rintro (⟨p, h1, h2, h3⟩ | h1)
        · exact ⟨p, by omega, h2, h3⟩
        · exact ⟨n, by omega, h, h1⟩
      · rintro ⟨p, h1, h2, h3⟩
        by_cases e : p = n
        · subst e; exact .inr h3
        · exact .inl ⟨p, by omega, h2, h3⟩
    · rw [if_neg h, ih]
      constructor
      · rintro ⟨p, h1, h2, h3⟩; exact ⟨p, by omega, h2, h3⟩
      · rintro ⟨p, h1, h2, h3⟩
        by_cases e : p = n
        · subst e; exact absurd h2 h
        · exact ⟨p, by omega, h2, h3⟩
set_option maxRecDepth 20000 in
set_option maxHeartbeats 1600000 in
theorem follow_ok (bm gb n cap : Nat) (beh : Nat → Nat) (S : Nat) (w : World) (hn : n ≤ 11) (hS : S < 2048) (hb : ∀ i, i < n → beh i < 2048) (h0 : w.cell? ⟨bm, 0, none⟩ = some (.slice (some ⟨gb, 0, none⟩) n cap)) (hc : NatsAt w gb n beh) :
    Calls Try.prog 90 #[.pointer (some ⟨bm, 0, none⟩), .int .i64 S] w fun e w' => e = .returned (.int .i64 ((folF beh S n : Nat) : Int)) ∧ w = w' := by
  go_enter Try.func90, Try.ntmps90
  go_wp2_with fail
  go_loop [5, 6] (fun v i' => ∃ i : Nat, i ≤ n ∧ i' = .int .i64 i ∧ v = .int .i64 ((folF beh S i : Nat) : Int)) (fun _ i' => n - (intOf i').toNat)
  case atStart => exact ⟨0, by omega, rfl, rfl⟩
  case round =>
    obtain ⟨i, hi, rfl, rfl⟩ := hrel
    by_cases hlt : i < n
    · have c0 := hc i hlt
      have hw := wrap64_pow i (by omega)
      have h2 : 2 ^ i ≤ 2 ^ 11 := Nat.pow_le_pow_right (by omega) (by omega)
      have ha := bits_and_i64 S (2 ^ i) (by omega) (by omega)
      have hfl := folF_lt (beh := beh) (S := S) (n := i) (fun j hj => hb j (by omega))
      have ho := bits_or_i64 (folF beh S i) (beh i) hfl (hb i hlt)
      have HS : Hid (folF beh S (i + 1) = if S.testBit i then folF beh S i ||| beh i else folF beh S i) := rfl
      have hbit := and_pow S i
      obtain ⟨an, HAN⟩ : ∃ x, Hid (S &&& 2 ^ i = x) := ⟨_, rfl⟩
      obtain ⟨on, HON⟩ : ∃ x, Hid (folF beh S i ||| beh i = x) := ⟨_, rfl⟩
      obtain ⟨tb, HTB⟩ : ∃ x, Hid (S.testBit i = x) := ⟨_, rfl⟩
      rw [HAN.out] at ha hbit
      rw [HON.out] at ho HS
      rw [HTB.out] at HS hbit
      rw [← hw] at ha
      have hb1 : ((an : Int) != 0) = tb := by
        rw [← hbit]
        rw [Bool.eq_iff_iff]
        simp
      clear hbit hw h2
      cases tb
      · go_wp2_with fail
        go_round
        case rel => exact ⟨i + 1, by omega, by go_num, by rw [HS.out]; rfl⟩
        case measure => simp [intOf]; omega
      · go_wp2_with fail
        go_round
        case rel => exact ⟨i + 1, by omega, by go_num, by rw [HS.out]; rfl⟩
        case measure => simp [intOf]; omega
    · have he : i = n := by omega
      subst he
      go_wp2_with fail
      go_ret
      exact ⟨rfl, rfl⟩
end Go.Proofs.Ytpngikmcjkjdaab

namespace Go.Proofs.Ytpngikmcjkjdaab
open Go.RowKit
set_option linter.unusedVariables false
def scells (R C : Nat → Nat) (k : Nat) : List Value := (List.range k).map fun i => .slice (some ⟨R i, 0, none⟩) 8 (C i)
def icells (X : Nat → Nat) (k : Nat) : List Value := (List.range k).map fun c : Nat => .int .i64 ((X c : Nat) : Int)
theorem scells_succ (R C : Nat → Nat) (k : Nat) : scells R C (k + 1) = scells R C k ++ [.slice (some ⟨R k, 0, none⟩) 8 (C k)] := by simp [scells, List.range_succ]
theorem icells_succ (X : Nat → Nat) (k : Nat) : icells X (k + 1) = icells X k ++ [.int .i64 ((X k : Nat) : Int)] := by simp [icells, List.range_succ]
structure BuildMem (W : World) (b : Nat) (w : World) (va vn : Value) (ka kn : Nat) (A : Nat → Bool) (R C : Nat → Nat) (X : Nat → Nat → Nat) : Prop where
  two : TwoRows W b 30 4 1 22 1 w va vn ka kn (acells A ka) (scells R C kn)
  rows : ∀ i, i < kn → w.ownsRow (b + 1) 3 1 (.slice (some ⟨R i, 0, none⟩) 8 (C i)) 8 (icells (X i) 8)
section
variable {W : World} {b : Nat} {w w1 w2 : World} {va vn vr : Value} {ka kn : Nat} {A : Nat → Bool} {R C : Nat → Nat} {X : Nat → Nat → Nat} {c : Nat} {x : List Value}
theorem BuildMem.start (hb : Below b W w) (hk : w.heap[b]? = some (.cells #[.slice none 0 0, .slice none 0 0] 30 (0, 0))) : BuildMem W b w (.slice none 0 0) (.slice none 0 0) 0 0 A R C X :=
  ⟨⟨hb, hk, World.ownsRow_nil _ _ _ _, World.ownsRow_nil _ _ _ _, by intro g h; simp [Value.ownBlock] at h⟩, fun i hi => absurd hi (by omega)⟩
theorem BuildMem.below (h : BuildMem W b w va vn ka kn A R C X) (hb : Below w.heap.size w w1) : BuildMem W b w1 va vn ka kn A R C X :=
  ⟨h.two.below hb, fun i hi => ownsRow_below (h.rows i hi) hb⟩
theorem BuildMem.acc (h : BuildMem W b w va vn ka kn A R C X) {g cap : Nat} (hown : w2.ownsRow (b + 1) 4 1 (.slice (some ⟨g, 0, none⟩) (ka + 1) cap) (ka + 1) (acells A ka ++ [.bool (A ka)])) (hg : w.grownBy w2 va.ownBlock) (hf : va.ownBlock = some g ∨ g = w.heap.size) :
    BuildMem W b (w2.setCell ⟨b, 0, none⟩ (.slice (some ⟨g, 0, none⟩) (ka + 1) cap)) (.slice (some ⟨g, 0, none⟩) (ka + 1) cap) vn (ka + 1) kn A R C X := by
  refine ⟨h.two.put0 hown hg hf, fun i hi => ownsRow_setCell_below ((h.rows i hi).kept hg (.inr (fun e => own_apart (h.rows i hi) h.two.own0 (by decide) _ rfl e.symm))) (by simp) _⟩
theorem BuildMem.grown (h : BuildMem W b w va vn ka kn A R C X) (hr : w.ownsRow (b + 1) 3 1 vr c x) (hd : ∀ i, i < kn → vr.ownBlock ≠ some (R i)) (hg : w.grownBy w2 vr.ownBlock) : BuildMem W b w2 va vn ka kn A R C X := by
  have hsz := heap_lt h.two.blk
  refine ⟨⟨h.two.blw.grown hg (by omega) (fun k e => by have := (hr.lt k e).1; omega), ?_, ?_, ?_, h.two.dis⟩, fun i hi => (h.rows i hi).kept hg (.inr (fun e => hd i hi e.symm))⟩
  · rw [hg.block b hsz (fun e => by have := (hr.lt b e.symm).1; omega)]; exact h.two.blk
  · refine h.two.own0.kept hg ?_
    cases hv : va.ownBlock with
    | none => exact .inl rfl
    | some k => exact .inr (fun e => own_apart h.two.own0 hr (by decide) k hv e.symm)
  · refine h.two.own1.kept hg ?_
    cases hv : vn.ownBlock with
    | none => exact .inl rfl
    | some k => exact .inr (fun e => own_apart h.two.own1 hr (by decide) k hv e.symm)
theorem BuildMem.nxt (h : BuildMem W b w va vn ka kn A R C X) {g cap gr cr : Nat} (hr : w.ownsRow (b + 1) 3 1 (.slice (some ⟨gr, 0, none⟩) 8 cr) 8 (icells (X kn) 8))
    (hown : w2.ownsRow (b + 1) 22 1 (.slice (some ⟨g, 0, none⟩) (kn + 1) cap) (kn + 1) (scells R C kn ++ [.slice (some ⟨gr, 0, none⟩) 8 cr])) (hg : w.grownBy w2 vn.ownBlock) (hf : vn.ownBlock = some g ∨ g = w.heap.size) :
    BuildMem W b (w2.setCell ⟨b, 1, none⟩ (.slice (some ⟨g, 0, none⟩) (kn + 1) cap)) va (.slice (some ⟨g, 0, none⟩) (kn + 1) cap) ka (kn + 1) A (fun i => if i = kn then gr else R i) (fun i => if i = kn then cr else C i) X := by
  have es : scells R C kn ++ [.slice (some ⟨gr, 0, none⟩) 8 cr] = scells (fun i => if i = kn then gr else R i) (fun i => if i = kn then cr else C i) (kn + 1) := by
    rw [scells_succ]
    congr 1
    · simp only [scells]; apply List.map_congr_left; intro i hi; have : i < kn := by simpa using hi
      rw [if_neg (by omega), if_neg (by omega)]
    · simp
  refine ⟨?_, fun i hi => ?_⟩
  · have := h.two.put1 hown hg hf
    rw [es] at this; exact this
  · by_cases e : i = kn
    · subst e
      simp only [if_true]
      exact ownsRow_setCell_below (hr.kept hg (.inr (fun e => own_apart hr h.two.own1 (by decide) _ rfl e.symm))) (by simp) _
    · simp only [if_neg e]
      have h1 := h.rows i (by omega)
      exact ownsRow_setCell_below (h1.kept hg (.inr (fun e => own_apart h1 h.two.own1 (by decide) _ rfl e.symm))) (by simp) _
theorem BuildMem.done (h : BuildMem W b w va vn kn kn A R C X) (hk : 0 < kn) {N : Tab} (hn : N.n = kn) (ha : ∀ i, i < kn → N.acc i = A i) (hx : ∀ i c, i < kn → c < 8 → N.nxt i c = X i c) :
    ∃ V : Lay, va = .slice (some ⟨V.ba, V.oa, none⟩) kn V.ca ∧ vn = .slice (some ⟨V.bn, V.on, none⟩) kn V.cn ∧ TabAt w V N ∧ V.From (b + 1) kn := by
  obtain ⟨aa, ca, rfl, haa⟩ := ownsRow_shape h.two.own0
  obtain ⟨an, cn, rfl, han⟩ := ownsRow_shape h.two.own1
  obtain ⟨ga, rfl, h1⟩ := haa hk
  obtain ⟨gn, rfl, h2⟩ := han hk
  refine ⟨⟨ga, 0, ca, gn, 0, cn, R, fun _ => 0, C⟩, rfl, rfl, ⟨fun i hi => ?_, fun i hi => ?_, fun i c hi hc => ?_⟩, ⟨(h.two.own0.lt ga rfl).1, (h.two.own1.lt gn rfl).1, fun i hi => ((h.rows i hi).lt (R i) rfl).1⟩⟩
  · have hi' : i < kn := by omega
    simp only [Nat.zero_add]
    rw [h1 i (by omega), acells_at _ _ _ hi', ha i hi']
  · have hi' : i < kn := by omega
    simp only [Nat.zero_add]
    rw [h2 i (by omega)]; simp [scells, hi']
  · have hi' : i < kn := by omega
    simp only [Nat.zero_add]
    rw [(h.rows i hi').cellAt c (by omega), hx i c hi' hc]; simp [icells, hc]
end
end Go.Proofs.Ytpngikmcjkjdaab

namespace Go.Proofs.Ytpngikmcjkjdaab
open Go.RowKit
set_option linter.unusedVariables false
def linkF (beh : Nat → Nat) (L F i : Nat) : Nat := if L.testBit i then beh i ||| F else beh i
theorem icells_set (X : Nat → Nat) (n i v : Nat) : (icells X n).set i (.int .i64 ((v : Nat) : Int)) = icells (fun j => if j = i then v else X j) n := by
  apply List.ext_getElem?
  intro j
  rw [List.getElem?_set]
  simp only [icells, List.length_map, List.length_range]
  by_cases hj : j < n
  · by_cases e : i = j
    · subst e; simp [hj]
    · simp [hj, e, Ne.symm e]
  · by_cases e : i = j
    · subst e; simp [hj]
    · simp [hj, e]
set_option maxRecDepth 20000 in
set_option maxHeartbeats 1600000 in
theorem link_ok (bm base gb n cap : Nat) (beh : Nat → Nat) (L F : Nat) (w : World) (hn : n ≤ 11) (hL : L < 2048) (hF : F < 2048) (hb : ∀ i, i < n → beh i < 2048) (h0 : w.cell? ⟨bm, 0, none⟩ = some (.slice (some ⟨gb, 0, none⟩) n cap)) (hne : bm ≠ gb)
    (ho : w.ownsRow base 3 1 (.slice (some ⟨gb, 0, none⟩) n cap) n (icells beh n)) :
    Calls Try.prog 89 #[.pointer (some ⟨bm, 0, none⟩), .int .i64 L, .int .i64 F] w fun e w' => e = .returned (.tuple #[]) ∧ Touch (fun b => b = gb) w w' ∧ w'.ownsRow base 3 1 (.slice (some ⟨gb, 0, none⟩) n cap) n (icells (linkF beh L F) n) := by
  go_enter Try.func89, Try.ntmps89
  go_wp2_with fail
  go_loopw [6] (fun i' wr => ∃ i : Nat, i ≤ n ∧ i' = .int .i64 i ∧ Touch (fun b => b = gb) w wr ∧ wr.ownsRow base 3 1 (.slice (some ⟨gb, 0, none⟩) n cap) n (icells (fun j => if j < i then linkF beh L F j else beh j) n)) (fun i' _ => n - (intOf i').toNat)
  case atStart => exact ⟨0, by omega, rfl, Touch.refl _ _, by simpa using ho⟩
  case round =>
    obtain ⟨i, hi, rfl, ht, hw⟩ := hrel
    have x0 : wr.cell? ⟨bm, 0, none⟩ = some (.slice (some ⟨gb, 0, none⟩) n cap) := (World.cell?_of_block (a := ⟨bm, 0, none⟩) (ht.block bm (lt_of_cell h0) (fun e => hne e))).trans h0
    by_cases hlt : i < n
    · have c0 := (hw.cellAt i (by omega)).trans (show (icells (fun j => if j < i then linkF beh L F j else beh j) n)[i]? = some (.int .i64 ((beh i : Nat) : Int)) by simp [icells, hlt])
      have c1 := hw.frozenAt i
      have hpw := wrap64_pow i (by omega)
      have h2 : 2 ^ i ≤ 2 ^ 11 := Nat.pow_le_pow_right (by omega) (by omega)
      have ha := bits_and_i64 L (2 ^ i) (by omega) (by omega)
      have hor := bits_or_i64 (beh i) F (hb i hlt) hF
      have HS : Hid (linkF beh L F i = if L.testBit i then beh i ||| F else beh i) := rfl
      have hbit := and_pow L i
      obtain ⟨an, HAN⟩ : ∃ x, Hid (L &&& 2 ^ i = x) := ⟨_, rfl⟩
      obtain ⟨on, HON⟩ : ∃ x, Hid (beh i ||| F = x) := ⟨_, rfl⟩
      obtain ⟨tb, HTB⟩ : ∃ x, Hid (L.testBit i = x) := ⟨_, rfl⟩
      rw [HAN.out] at ha hbit
      rw [HON.out] at hor HS
      rw [HTB.out] at HS hbit
      rw [← hpw] at ha
      have hb1 : ((an : Int) != 0) = tb := by
        rw [← hbit, Bool.eq_iff_iff]
        simp
      have HW : Hid (wr.ownsRow base 3 1 (.slice (some ⟨gb, 0, none⟩) n cap) n (icells (fun j => if j < i then linkF beh L F j else beh j) n)) := hw
      have HT : Hid (Touch (fun b => b = gb) w wr) := ht
      clear hbit hpw h2 hw ht
      cases tb
      · go_wp2_with fail
        go_roundw
        case rel =>
          refine ⟨i + 1, by omega, by go_num, HT.out, ?_⟩
          have h := HW.out
          have e : icells (fun j => if j < i then linkF beh L F j else beh j) n = icells (fun j => if j < i + 1 then linkF beh L F j else beh j) n := by
            simp only [icells]; apply List.map_congr_left; intro j hj
            by_cases e : j = i
            · subst e
              simp only [Nat.lt_irrefl, if_false, Nat.lt_succ_self, if_true]
              rw [HS.out]; rfl
            · by_cases h' : j < i
              · rw [if_pos h', if_pos (by omega)]
              · rw [if_neg h', if_neg (by omega)]
          rw [e] at h
          exact h
        case measure => simp [intOf]; omega
      · go_wp2_with fail
        go_roundw
        case rel =>
          refine ⟨i + 1, by omega, by go_num, HT.out.set _ _ (.inl rfl), ?_⟩
          have h := (HW.out.stored i (.int .i64 ((on : Nat) : Int))).1
          rw [icells_set] at h
          have e : icells (fun j => if j = i then on else if j < i then linkF beh L F j else beh j) n = icells (fun j => if j < i + 1 then linkF beh L F j else beh j) n := by
            simp only [icells]; apply List.map_congr_left; intro j hj
            by_cases e : j = i
            · subst e
              simp only [Nat.lt_succ_self, if_true]
              rw [HS.out]; rfl
            · by_cases h' : j < i
              · rw [if_neg e, if_pos h', if_pos (by omega)]
              · rw [if_neg e, if_neg h', if_neg (by omega)]
          rw [e] at h
          exact h
        case measure => simp [intOf]; omega
    · have he : i = n := by omega
      subst he
      have HW : Hid (wr.ownsRow base 3 1 (.slice (some ⟨gb, 0, none⟩) i cap) i (icells (linkF beh L F) i)) := by
        have e : icells (fun j => if j < i then linkF beh L F j else beh j) i = icells (linkF beh L F) i := by
          simp only [icells]; apply List.map_congr_left; intro j hj
          rw [if_pos (by simpa using hj)]
        rw [e] at hw
        exact hw
      have HT : Hid (Touch (fun b => b = gb) w wr) := ht
      clear hw ht
      go_wp2_with fail
      go_end0
      exact ⟨rfl, HT.out, HW.out⟩
end Go.Proofs.Ytpngikmcjkjdaab
