import Derived.Test.YtpngikmcjkjdaaaGreatDoorG5
set_option linter.unusedVariables false
set_option linter.unusedSimpArgs false
namespace Go.Proofs.YtpngikmcjkjdaaaGreatDoor
set_option linter.unusedVariables false
def isNoteN (c : Nat) : Bool := decide (97 ≤ c) && decide (c ≤ 104)
def isDigitN (c : Nat) : Bool := decide (48 ≤ c) && decide (c ≤ 57)
def itemA (q d c : Nat) : Nat × Nat :=
  if isNoteN c || c == 46 then (1, d)
  else if c == 91 then (3, d)
  else if c == 40 && decide (d < 6) then (0, d + 1)
  else if c == 41 && decide (0 < d) then (1, d - 1)
  else if c == 124 then (0, d)
  else if q == 1 && (c == 42 || c == 43 || c == 63) then (2, d)
  else if q == 1 && c == 123 then (8, d)
  else (12, d)
def setA (q c : Nat) : Nat :=
  if c == 94 && q == 3 then 4
  else if isNoteN c && q == 6 then 7
  else if isNoteN c then 5
  else if c == 45 && q == 5 then 6
  else if c == 93 && (q == 5 || q == 7) then 1
  else 12
def markA (q c : Nat) : Nat :=
  if isDigitN c && q == 8 then 9
  else if isDigitN c && q == 10 then 11
  else if c == 44 && q == 9 then 10
  else if c == 125 && q != 8 then 2
  else 12
def aut (q d c : Nat) : Nat × Nat := if q ≤ 2 then itemA q d c else if q ≤ 7 then (setA q c, d) else (markA q c, d)
inductive At (s : ByteArray) : Nat → Nat → Nat → Prop where
  | zero : At s 0 0 0
  | step {a q d q' d' : Nat} (h : At s a q d) (hlt : a < s.size) (ha : aut q d (byteAt s a) = (q', d')) (hq : q' ≠ 12) : At s (a + 1) q' d'
theorem At.eq {s : ByteArray} {a q d q' d' : Nat} (h : At s a q d) (h' : At s a q' d') : q = q' ∧ d = d' := by
  induction h generalizing q' d' with
  | zero => cases h'; exact ⟨rfl, rfl⟩
  | step _ _ ha _ ih =>
    cases h' with
    | step h1 _ ha' _ =>
      obtain ⟨rfl, rfl⟩ := ih h1
      rw [ha] at ha'
      simpa using ha'
theorem At.back {s : ByteArray} {a q d : Nat} (h : At s a q d) {b : Nat} (hb : b < a) : ∃ q' d' q'' d'', At s b q' d' ∧ aut q' d' (byteAt s b) = (q'', d'') ∧ q'' ≠ 12 ∧ b < s.size := by
  induction h with
  | zero => omega
  | step h1 hlt ha hq ih =>
    rename_i a _ _ _ _
    by_cases e : b = a
    · subst e; exact ⟨_, _, _, _, h1, ha, hq, hlt⟩
    · exact ih (by omega)
theorem At.le {s : ByteArray} {a q d : Nat} (h : At s a q d) : a ≤ s.size := by cases h with
  | zero => omega
  | step _ hlt _ _ => omega
def Stuck (s : ByteArray) (a : Nat) : Prop := ∃ q d, At s a q d ∧ ((a < s.size ∧ (aut q d (byteAt s a)).1 = 12) ∨ (a = s.size ∧ (2 < q ∨ 0 < d)))
theorem Stuck.mk {s : ByteArray} {a q d : Nat} (h : At s a q d) (h1 : a < s.size → (aut q d (byteAt s a)).1 = 12) (h2 : a = s.size → 2 < q ∨ 0 < d) : Stuck s a := by
  have := h.le
  by_cases e : a < s.size
  · exact ⟨q, d, h, .inl ⟨e, h1 e⟩⟩
  · exact ⟨q, d, h, .inr ⟨by omega, h2 (by omega)⟩⟩
theorem Stuck.uniq {s : ByteArray} {a b : Nat} (ha : Stuck s a) (hb : Stuck s b) : a = b := by
  have key : ∀ {a b : Nat}, Stuck s a → Stuck s b → ¬ a < b := by
    intro a b ⟨q, d, h, h'⟩ ⟨q2, d2, h2, h2'⟩ hlt
    obtain ⟨q', d', q'', d'', h3, h4, h5, h6⟩ := h2.back hlt
    obtain ⟨rfl, rfl⟩ := h.eq h3
    rcases h' with ⟨_, h'⟩ | ⟨h', _⟩
    · rw [h4] at h'; exact h5 h'
    · omega
  have h1 := key ha hb
  have h2 := key hb ha
  omega
theorem Stuck.not_whole {s : ByteArray} {a q : Nat} (ha : Stuck s a) (h : At s s.size q 0) (hq : q ≤ 2) : False := by
  obtain ⟨q', d', h1, h2⟩ := ha
  have hle := h1.le
  by_cases hlt : a < s.size
  · obtain ⟨q2, d2, q'', d'', h3, h4, h5, h6⟩ := h.back hlt
    obtain ⟨rfl, rfl⟩ := h1.eq h3
    rcases h2 with ⟨_, h'⟩ | ⟨h', _⟩
    · rw [h4] at h'; exact h5 h'
    · omega
  · have : a = s.size := by omega
    subst this
    obtain ⟨rfl, rfl⟩ := h.eq h1
    rcases h2 with ⟨h', _⟩ | ⟨_, h' | h'⟩ <;> omega
def Bk (s : ByteArray) (i : Nat) : Bool :=
  (decide (i + 2 < s.size) && (byteAt s (i + 1) == 45) && decide (byteAt s (i + 2) < byteAt s i)) ||
  (isDigitN (byteAt s i) && decide (i + 2 < s.size) && (byteAt s (i + 1) == 44) && (byteAt s (i + 2) != 125) && decide (byteAt s (i + 2) < byteAt s i))
theorem Bk.off {s : ByteArray} {i : Nat} (h : byteAt s (i + 1) ≠ 45) (h' : byteAt s (i + 1) ≠ 44) : Bk s i = false := by
  unfold Bk
  rw [show (byteAt s (i + 1) == 45) = false by simpa using h, show (byteAt s (i + 1) == 44) = false by simpa using h']
  simp
structure Good (s : ByteArray) (t : Sp) (q d : Nat) : Prop where
  at_ : At s t.a q d
  yes : t.bk = true → Bk s t.sp = true ∧ ∀ j, j < t.sp → Bk s j = false
  no : t.bk = false → ∀ j, j + 1 < t.a → Bk s j = false
theorem Good.le {s : ByteArray} {t : Sp} {q d : Nat} (h : Good s t q d) : t.a ≤ s.size := h.at_.le
theorem Good.step {s : ByteArray} {t : Sp} {q d q' d' : Nat} (h : Good s t q d) (hlt : t.a < s.size) (ha : aut q d (byteAt s t.a) = (q', d')) (hq : q' ≠ 12) (h1 : byteAt s t.a ≠ 45) (h2 : byteAt s t.a ≠ 44) : Good s t.go q' d' := by
  refine ⟨h.at_.step hlt ha hq, h.yes, fun hb j hj => ?_⟩
  simp only [go_a] at hj
  by_cases e : j + 1 = t.a
  · exact Bk.off (by rw [e]; exact h1) (by rw [e]; exact h2)
  · exact h.no hb j (by omega)
theorem hit_eq {s : ByteArray} {a b : Nat} (h : hit s a b = true) : byteAt s a = b ∧ a < s.size := by
  unfold hit at h; rw [Bool.and_eq_true, decide_eq_true_eq, beq_iff_eq] at h; exact ⟨h.2, h.1⟩
theorem hit_ne {s : ByteArray} {a b : Nat} (h : hit s a b = false) (hb : 0 < b) : byteAt s a ≠ b := by
  intro e
  by_cases hlt : a < s.size
  · unfold hit at h; unfold byteAt at e; rw [e, decide_eq_true hlt] at h; simp at h
  · rw [byteAt_end hlt] at e; omega
theorem noteN_iff {c : Nat} : isNoteN c = true ↔ 97 ≤ c ∧ c ≤ 104 := by unfold isNoteN; simp
theorem digitN_iff {c : Nat} : isDigitN c = true ↔ 48 ≤ c ∧ c ≤ 57 := by unfold isDigitN; simp
theorem noteN_no {c : Nat} : isNoteN c = false ↔ c < 97 ∨ 104 < c := by unfold isNoteN; simp; omega
theorem digitN_no {c : Nat} : isDigitN c = false ↔ c < 48 ∨ 57 < c := by unfold isDigitN; simp; omega
def PreSet (q c : Nat) : Prop := (q = 3 ∧ c ≠ 94) ∨ q = 4 ∨ (q = 5 ∧ c ≠ 45 ∧ c ≠ 93) ∨ (q = 7 ∧ c ≠ 93)
theorem part_good {s : ByteArray} {t : Sp} {q d : Nat} (h : Good s t q d) (hq : PreSet q (byteAt s t.a)) :
    match partF s t with
    | .no t' => Stuck s t'.a
    | .ok (f, g) t' => ∃ q', Good s (spanF t.a f g t') q' d ∧ ((q' = 5 ∧ byteAt s t'.a ≠ 45) ∨ q' = 7) := by
  have hq3 : 3 ≤ q ∧ q ≤ 7 := by rcases hq with h | h | h | h <;> omega
  unfold partF
  by_cases h1 : noteHere s t.a = true
  · rw [if_pos h1]
    have n1 := noteN_iff.1 h1
    have hlt := note_lt h1
    have e1 : aut q d (byteAt s t.a) = (5, d) := by
      unfold aut setA
      rw [if_neg (by omega), if_pos (by omega)]
      have : isNoteN (byteAt s t.a) = true := h1
      rw [this]
      have e6 : (q == 6) = false := by rcases hq with h | h | h | h <;> simp <;> omega
      have e94 : (byteAt s t.a == 94) = false := by simp; omega
      simp [e6, e94]
    have g1 := h.step hlt e1 (by omega) (by omega) (by omega)
    by_cases h2 : hit s (t.a + 1) 45 = true
    · rw [if_pos h2]
      obtain ⟨b2, l2⟩ := hit_eq h2
      have e2 : aut 5 d (byteAt s (t.a + 1)) = (6, d) := by rw [b2]; unfold aut setA isNoteN; simp
      have a2 : At s (t.a + 1 + 1) 6 d := g1.at_.step l2 e2 (by omega)
      by_cases h3 : noteHere s (t.a + 1 + 1) = true
      · rw [if_pos h3]
        have n3 := noteN_iff.1 h3
        have l3 := note_lt h3
        have e3 : aut 6 d (byteAt s (t.a + 1 + 1)) = (7, d) := by
          unfold aut setA
          have : isNoteN (byteAt s (t.a + 1 + 1)) = true := h3
          simp [this]
        have a3 : At s (t.a + 1 + 1 + 1) 7 d := a2.step l3 e3 (by omega)
        refine ⟨7, ?_, .inr rfl⟩
        have hb0 : ∀ j, j + 1 < t.a + 1 → t.bk = false → Bk s j = false := fun j hj hb => g1.no hb j hj
        have hb1 : Bk s (t.a + 1) = false := Bk.off (by rw [show t.a + 1 + 1 = t.a + 2 from rfl] at n3 ⊢; omega) (by rw [show t.a + 1 + 1 = t.a + 2 from rfl] at n3 ⊢; omega)
        have hbk : Bk s t.a = decide (byteAt s (t.a + 1 + 1) < byteAt s t.a) := by
          unfold Bk
          rw [b2, show t.a + 2 = t.a + 1 + 1 from rfl]
          simp only [l3, decide_true, Bool.true_and]
          have : isDigitN (byteAt s t.a) = false := digitN_no.2 (by omega)
          simp [this]
        unfold spanF
        by_cases hlt3 : byteAt s (t.a + 1 + 1) - 97 < byteAt s t.a - 97
        · rw [if_pos hlt3]
          refine ⟨a3, fun _ => ?_, fun hb => by simp [Sp.tell] at hb⟩
          show Bk s (if t.bk then t.sp else t.a) = true ∧ ∀ j, j < (if t.bk then t.sp else t.a) → _
          cases hb : t.bk
          · simp only [Bool.false_eq_true, if_false]
            exact ⟨by rw [hbk]; simp; omega, fun j hj => hb0 j (by omega) hb⟩
          · simp only [if_true]; exact h.yes hb
        · rw [if_neg hlt3]
          refine ⟨a3, h.yes, fun hb j hj => ?_⟩
          have hb' : t.bk = false := hb
          simp only [go_a] at hj
          by_cases e : j = t.a
          · subst e; rw [hbk]; simp; omega
          · by_cases e' : j = t.a + 1
            · subst e'; exact hb1
            · exact hb0 j (by omega) hb'
      · rw [if_neg h3]
        have n3 : isNoteN (byteAt s (t.a + 1 + 1)) = false := Bool.eq_false_iff.2 h3
        refine Stuck.mk a2 (fun _ => ?_) (fun _ => .inl (by omega))
        unfold aut setA; simp [n3]
    · rw [if_neg h2]
      have b2 := hit_ne (by simpa using h2) (by omega)
      refine ⟨5, ?_, .inl ⟨rfl, b2⟩⟩
      unfold spanF
      rw [if_neg (by omega)]
      exact g1
  · rw [if_neg h1]
    have n1 : isNoteN (byteAt s t.a) = false := Bool.eq_false_iff.2 h1
    refine Stuck.mk h.at_ (fun _ => ?_) (fun _ => .inl (by omega))
    unfold aut setA
    rw [if_neg (by omega), if_pos (by omega)]
    rcases hq with ⟨rfl, h⟩ | rfl | ⟨rfl, h, h'⟩ | ⟨rfl, h⟩ <;> simp [n1, *]
theorem setLoop_good {s : ByteArray} {n : Nat} {N : Nat → Bool} {t : Sp} {q d : Nat} (h : Good s t q d) (hq : PreSet q (byteAt s t.a)) (hn : s.size - t.a < n) :
    match setLoop s n N t with
    | .no t' => Stuck s t'.a
    | .ok N' t' => Good s t' 1 d := by
  induction n generalizing N t q with
  | zero => omega
  | succ n ih =>
    have hp := part_good h hq
    simp only [setLoop]
    cases hr : partF s t with
    | no t1 => rw [hr] at hp; exact hp
    | ok x t1 =>
      obtain ⟨f, g⟩ := x
      have hok := partF_ok hr
      rw [hr] at hp
      obtain ⟨q', g1, hq'⟩ := hp
      simp only
      by_cases h2 : hit s t1.a 93 = true
      · rw [if_pos h2]
        obtain ⟨b2, l2⟩ := hit_eq h2
        refine g1.step (by simpa using l2) ?_ (by omega) (by simp; omega) (by simp; omega)
        simp only [spanF_a]
        rw [b2]
        rcases hq' with ⟨rfl, _⟩ | rfl
        · unfold aut setA isNoteN; simp
        · unfold aut setA isNoteN; simp
      · rw [if_neg h2]
        have b2 := hit_ne (by simpa using h2) (by omega)
        refine ih g1 ?_ (by simp; omega)
        simp only [spanF_a]
        rcases hq' with ⟨rfl, h5⟩ | rfl
        · exact .inr (.inr (.inl ⟨rfl, h5, b2⟩))
        · exact .inr (.inr (.inr ⟨rfl, b2⟩))
theorem set_good {s : ByteArray} {t : Sp} {d : Nat} (h : Good s t 3 d) :
    match setF s t with
    | .no t' => Stuck s t'.a
    | .ok N t' => Good s t' 1 d := by
  unfold setF
  by_cases h2 : hit s t.a 94 = true
  · rw [if_pos h2]
    obtain ⟨b2, l2⟩ := hit_eq h2
    have g1 : Good s t.go 4 d := h.step l2 (by rw [b2]; unfold aut setA; simp) (by omega) (by omega) (by omega)
    have := setLoop_good (n := s.size + 1) (N := fun _ => false) g1 (.inr (.inl rfl)) (by omega)
    cases hr : setLoop s (s.size + 1) (fun _ => false) t.go with
    | no t1 => rw [hr] at this; exact this
    | ok x t1 => rw [hr] at this; exact this
  · rw [if_neg h2]
    have b2 := hit_ne (by simpa using h2) (by omega)
    exact setLoop_good h (.inl ⟨rfl, b2⟩) (by omega)
theorem count_good {s : ByteArray} {t : Sp} {d : Nat} (h : Good s t 8 d) :
    match countF s t with
    | .no t' => Stuck s t'.a
    | .ok x t' => Good s t' 2 d := by
  unfold countF
  by_cases h1 : digitHere s t.a = true
  · rw [if_pos h1]
    have n1 := digitN_iff.1 h1
    have l1 := digit_lt h1
    have i1 : isDigitN (byteAt s t.a) = true := h1
    have g1 : Good s t.go 9 d := h.step l1 (by unfold aut markA; simp [i1]) (by omega) (by omega) (by omega)
    by_cases h2 : hit s (t.a + 1) 125 = true
    · rw [if_pos h2]
      obtain ⟨b2, l2⟩ := hit_eq h2
      exact g1.step l2 (by show aut 9 d (byteAt s (t.a + 1)) = _; rw [b2]; unfold aut markA isDigitN; simp) (by omega) (by show byteAt s (t.a + 1) ≠ 45; omega) (by show byteAt s (t.a + 1) ≠ 44; omega)
    · rw [if_neg h2]
      have b2 := hit_ne (by simpa using h2) (by omega)
      by_cases h3 : hit s (t.a + 1) 44 = true
      · rw [if_pos h3]
        obtain ⟨b3, l3⟩ := hit_eq h3
        have a3 : At s (t.a + 1 + 1) 10 d := g1.at_.step l3 (by show aut 9 d (byteAt s (t.a + 1)) = _; rw [b3]; unfold aut markA isDigitN; simp) (by omega)
        have hb0 : ∀ j, j + 1 < t.a + 1 → t.bk = false → Bk s j = false := fun j hj hb => g1.no hb j hj
        by_cases h4 : hit s (t.a + 1 + 1) 125 = true
        · rw [if_pos h4]
          obtain ⟨b4, l4⟩ := hit_eq h4
          have a4 : At s (t.a + 1 + 1 + 1) 2 d := a3.step l4 (by rw [b4]; unfold aut markA isDigitN; simp) (by omega)
          refine ⟨a4, h.yes, fun hb j hj => ?_⟩
          have hb' : t.bk = false := hb
          simp only [go_a] at hj
          by_cases e : j = t.a
          · subst e
            unfold Bk
            rw [b3, show t.a + 2 = t.a + 1 + 1 from rfl, b4]; simp
          · by_cases e' : j = t.a + 1
            · subst e'; exact Bk.off (by rw [b4]; omega) (by rw [b4]; omega)
            · exact hb0 j (by omega) hb'
        · rw [if_neg h4]
          have b4 := hit_ne (by simpa using h4) (by omega)
          by_cases h5 : digitHere s (t.a + 1 + 1) = true
          · rw [if_pos h5]
            have n5 := digitN_iff.1 h5
            have l5 := digit_lt h5
            have i5 : isDigitN (byteAt s (t.a + 1 + 1)) = true := h5
            have a5 : At s (t.a + 1 + 1 + 1) 11 d := a3.step l5 (by unfold aut markA; simp [i5]) (by omega)
            have g5 : Good s (spanF t.a (byteAt s t.a - 48) (byteAt s (t.a + 1 + 1) - 48) t.go.go.go) 11 d := by
              have hb1 : Bk s (t.a + 1) = false := Bk.off (by rw [show t.a + 1 + 1 = t.a + 2 from rfl] at n5 ⊢; omega) (by rw [show t.a + 1 + 1 = t.a + 2 from rfl] at n5 ⊢; omega)
              have hbk : Bk s t.a = decide (byteAt s (t.a + 1 + 1) < byteAt s t.a) := by
                unfold Bk
                rw [b3, i1, show t.a + 2 = t.a + 1 + 1 from rfl]
                have : (byteAt s (t.a + 1 + 1) != 125) = true := by simpa using b4
                rw [this]
                simp [l5]
              unfold spanF
              by_cases hlt3 : byteAt s (t.a + 1 + 1) - 48 < byteAt s t.a - 48
              · rw [if_pos hlt3]
                refine ⟨a5, fun _ => ?_, fun hb => by simp [Sp.tell] at hb⟩
                show Bk s (if t.bk then t.sp else t.a) = true ∧ ∀ j, j < (if t.bk then t.sp else t.a) → _
                cases hb : t.bk
                · simp only [Bool.false_eq_true, if_false]
                  exact ⟨by rw [hbk]; simp; omega, fun j hj => hb0 j (by omega) hb⟩
                · simp only [if_true]; exact h.yes hb
              · rw [if_neg hlt3]
                refine ⟨a5, h.yes, fun hb j hj => ?_⟩
                have hb' : t.bk = false := hb
                simp only [go_a] at hj
                by_cases e : j = t.a
                · subst e; rw [hbk]; simp; omega
                · by_cases e' : j = t.a + 1
                  · subst e'; exact hb1
                  · exact hb0 j (by omega) hb'
            by_cases h6 : hit s (t.a + 1 + 1 + 1) 125 = true
            · rw [if_pos h6]
              obtain ⟨b6, l6⟩ := hit_eq h6
              exact g5.step (by simpa using l6) (by simp only [spanF_a, go_a]; rw [b6]; unfold aut markA isDigitN; simp) (by omega) (by simp only [spanF_a, go_a]; omega) (by simp only [spanF_a, go_a]; omega)
            · rw [if_neg h6]
              have b6 := hit_ne (by simpa using h6) (by omega)
              refine Stuck.mk g5.at_ (fun _ => ?_) (fun _ => .inl (by omega))
              simp only [spanF_a, go_a]
              unfold aut markA
              simp [b6]
          · rw [if_neg h5]
            have n5 : isDigitN (byteAt s (t.a + 1 + 1)) = false := Bool.eq_false_iff.2 h5
            refine Stuck.mk a3 (fun _ => ?_) (fun _ => .inl (by omega))
            unfold aut markA
            simp [n5, b4]
      · rw [if_neg h3]
        have b3 := hit_ne (by simpa using h3) (by omega)
        refine Stuck.mk g1.at_ (fun _ => ?_) (fun _ => .inl (by omega))
        simp only [go_a]
        unfold aut markA
        simp [b2, b3]
  · rw [if_neg h1]
    have n1 : isDigitN (byteAt s t.a) = false := Bool.eq_false_iff.2 h1
    refine Stuck.mk h.at_ (fun _ => ?_) (fun _ => .inl (by omega))
    unfold aut markA
    simp [n1]
def NoMark (q c : Nat) : Prop := q = 1 → c ≠ 42 ∧ c ≠ 43 ∧ c ≠ 63 ∧ c ≠ 123
def Sims (s : ByteArray) (k : Nat) (atom : Sp → Res Pat) : Prop := ∀ t q d, d + k = 6 → Good s t q d → q ≤ 2 → NoMark q (byteAt s t.a) → endHere s t.a = false →
  match atom t with
  | .no t' => Stuck s t'.a
  | .ok p t' => Good s t' 1 d
theorem end_no' {s : ByteArray} {a : Nat} (h : endHere s a = false) : byteAt s a ≠ 124 ∧ byteAt s a ≠ 41 ∧ a < s.size := by
  unfold endHere at h; simp at h; exact ⟨h.1.2, h.2, by omega⟩
theorem end_yes {s : ByteArray} {a : Nat} (h : endHere s a = true) : s.size ≤ a ∨ byteAt s a = 124 ∨ byteAt s a = 41 := by
  unfold endHere at h; simp at h; omega
theorem atom0_good {s : ByteArray} {t : Sp} {q d : Nat} (h : Good s t q d) (hq : q ≤ 2) (hm : NoMark q (byteAt s t.a)) (he : endHere s t.a = false) (hd : byteAt s t.a = 40 → 6 ≤ d) :
    match atom0 s t with
    | .no t' => Stuck s t'.a
    | .ok p t' => Good s t' 1 d := by
  obtain ⟨e1, e2, hlt⟩ := end_no' he
  unfold atom0
  by_cases h1 : hit s t.a 91 = true
  · rw [if_pos h1]
    obtain ⟨b1, l1⟩ := hit_eq h1
    have g1 : Good s t.go 3 d := h.step l1 (by rw [b1]; unfold aut itemA isNoteN; rw [if_pos hq]; simp) (by omega) (by omega) (by omega)
    have := set_good g1
    cases hr : setF s t.go with
    | no t1 => rw [hr] at this; exact this
    | ok x t1 => rw [hr] at this; exact this
  · rw [if_neg h1]
    have b1 := hit_ne (by simpa using h1) (by omega)
    by_cases h2 : hit s t.a 46 = true
    · rw [if_pos h2]
      obtain ⟨b2, l2⟩ := hit_eq h2
      exact h.step l2 (by rw [b2]; unfold aut itemA isNoteN; rw [if_pos hq]; simp) (by omega) (by omega) (by omega)
    · rw [if_neg h2]
      have b2 := hit_ne (by simpa using h2) (by omega)
      by_cases h3 : noteHere s t.a = true
      · rw [if_pos h3]
        have n3 := noteN_iff.1 h3
        have i3 : isNoteN (byteAt s t.a) = true := h3
        exact h.step hlt (by unfold aut itemA; rw [if_pos hq]; simp [i3]) (by omega) (by omega) (by omega)
      · rw [if_neg h3]
        have n3 : isNoteN (byteAt s t.a) = false := Bool.eq_false_iff.2 h3
        refine Stuck.mk h.at_ (fun _ => ?_) (fun e => by omega)
        unfold aut itemA
        rw [if_pos hq, n3]
        generalize byteAt s t.a = c at *
        have x1 : (c == 46) = false := by simpa using b2
        have x2 : (c == 91) = false := by simpa using b1
        have x3 : (c == 40 && decide (d < 6)) = false := by
          by_cases hc : c = 40
          · have := hd hc; simp; omega
          · simp [hc]
        have x4 : (c == 41) = false := by simpa using e2
        have x5 : (c == 124) = false := by simpa using e1
        have x6 : (q == 1 && (c == 42 || c == 43 || c == 63)) = false := by
          by_cases hq1 : q = 1
          · have := hm hq1; simp; intro _; omega
          · simp [hq1]
        have x7 : (q == 1 && c == 123) = false := by
          by_cases hq1 : q = 1
          · have := hm hq1; simp; intro _; omega
          · simp [hq1]
        simp [x1, x2, x3, x4, x5, x6, x7]
theorem item_good {s : ByteArray} {k : Nat} {atom : Sp → Res Pat} (ha : Sims s k atom) {t : Sp} {q d : Nat} (hd : d + k = 6) (h : Good s t q d) (hq : q ≤ 2) (hm : NoMark q (byteAt s t.a)) (he : endHere s t.a = false) :
    match itemF s atom t with
    | .no t' => Stuck s t'.a
    | .ok p t' => ∃ q', Good s t' q' d ∧ q' ≤ 2 ∧ NoMark q' (byteAt s t'.a) := by
  have h0 := ha t q d hd h hq hm he
  unfold itemF
  cases hr : atom t with
  | no t1 => rw [hr] at h0; exact h0
  | ok p t1 =>
    rw [hr] at h0
    have g0 : Good s t1 1 d := h0
    simp only
    by_cases h1 : hit s t1.a 42 = true
    · rw [if_pos h1]
      obtain ⟨b1, l1⟩ := hit_eq h1
      exact ⟨2, g0.step l1 (by rw [b1]; unfold aut itemA isNoteN; simp) (by omega) (by omega) (by omega), by omega, fun h => by omega⟩
    · rw [if_neg h1]
      by_cases h2 : hit s t1.a 43 = true
      · rw [if_pos h2]
        obtain ⟨b1, l1⟩ := hit_eq h2
        exact ⟨2, g0.step l1 (by rw [b1]; unfold aut itemA isNoteN; simp) (by omega) (by omega) (by omega), by omega, fun h => by omega⟩
      · rw [if_neg h2]
        by_cases h3 : hit s t1.a 63 = true
        · rw [if_pos h3]
          obtain ⟨b1, l1⟩ := hit_eq h3
          exact ⟨2, g0.step l1 (by rw [b1]; unfold aut itemA isNoteN; simp) (by omega) (by omega) (by omega), by omega, fun h => by omega⟩
        · rw [if_neg h3]
          by_cases h4 : hit s t1.a 123 = true
          · rw [if_pos h4]
            obtain ⟨b1, l1⟩ := hit_eq h4
            have g1 : Good s t1.go 8 d := g0.step l1 (by rw [b1]; unfold aut itemA isNoteN; simp) (by omega) (by omega) (by omega)
            have := count_good g1
            cases hc : countF s t1.go with
            | no t2 => rw [hc] at this; exact this
            | ok x t2 =>
              obtain ⟨lo, co, en⟩ := x
              rw [hc] at this
              exact ⟨2, this, by omega, fun h => by omega⟩
          · rw [if_neg h4]
            exact ⟨1, g0, by omega, fun _ => ⟨hit_ne (by simpa using h1) (by omega), hit_ne (by simpa using h2) (by omega), hit_ne (by simpa using h3) (by omega), hit_ne (by simpa using h4) (by omega)⟩⟩
theorem seq_good {s : ByteArray} {k B : Nat} {atom : Sp → Res Pat} (ha : Sims s k atom) (hg : Goes s B atom) {n : Nat} {p : Pat} {t : Sp} {q d : Nat} (hd : d + k = 6) (h : Good s t q d) (hq : q ≤ 2) (hm : NoMark q (byteAt s t.a)) (hn : s.size - t.a < n) :
    match seqF s atom n p t with
    | .no t' => Stuck s t'.a
    | .ok p' t' => ∃ q', Good s t' q' d ∧ q' ≤ 2 ∧ endHere s t'.a = true := by
  induction n generalizing p t q with
  | zero => omega
  | succ n ih =>
    simp only [seqF]
    by_cases he : endHere s t.a = true
    · rw [if_pos he]; exact ⟨q, h, hq, he⟩
    · rw [if_neg he]
      have hi := item_good ha hd h hq hm (by simpa using he)
      cases hr : itemF s atom t with
      | no t1 => rw [hr] at hi; exact hi
      | ok p1 t1 =>
        rw [hr] at hi
        obtain ⟨q1, g1, hq1, hm1⟩ := hi
        have hgo := itemF_goes hg _ _ _ hr
        exact ih g1 hq1 hm1 (by omega)
theorem patLoop_good {s : ByteArray} {k B : Nat} {atom : Sp → Res Pat} (ha : Sims s k atom) (hg : Goes s B atom) {n : Nat} {p : Pat} {t : Sp} {q d : Nat} (hd : d + k = 6) (h : Good s t q d) (hq : q ≤ 2) (he : endHere s t.a = true) (hn : s.size - t.a < n) :
    match patLoop s atom n p t with
    | .no t' => Stuck s t'.a
    | .ok p' t' => ∃ q', Good s t' q' d ∧ q' ≤ 2 ∧ endHere s t'.a = true ∧ byteAt s t'.a ≠ 124 := by
  induction n generalizing p t q with
  | zero => omega
  | succ n ih =>
    simp only [patLoop]
    by_cases h1 : hit s t.a 124 = true
    · rw [if_pos h1]
      obtain ⟨b1, l1⟩ := hit_eq h1
      have g1 : Good s t.go 0 d := h.step l1 (by rw [b1]; unfold aut itemA isNoteN; rw [if_pos hq]; simp) (by omega) (by omega) (by omega)
      have hs := seq_good (n := s.size + 1) (p := .none) ha hg hd g1 (by omega) (fun h => by omega) (by omega)
      cases hr : seqF s atom (s.size + 1) .none t.go with
      | no t1 => rw [hr] at hs; exact hs
      | ok p1 t1 =>
        rw [hr] at hs
        obtain ⟨q1, g2, hq1, he1⟩ := hs
        have hgo := seqF_goes hg (by simp only [go_a]; omega) hr
        simp only [go_a] at hgo
        exact ih g2 hq1 he1 (by omega)
    · rw [if_neg h1]
      exact ⟨q, h, hq, he, hit_ne (by simpa using h1) (by omega)⟩
theorem pat_good {s : ByteArray} {k B : Nat} {atom : Sp → Res Pat} (ha : Sims s k atom) (hg : Goes s B atom) {t : Sp} {d : Nat} (hd : d + k = 6) (h : Good s t 0 d) :
    match patF s atom t with
    | .no t' => Stuck s t'.a
    | .ok p' t' => ∃ q', Good s t' q' d ∧ q' ≤ 2 ∧ endHere s t'.a = true ∧ byteAt s t'.a ≠ 124 := by
  unfold patF
  have hs := seq_good (n := s.size + 1) (p := .none) ha hg hd h (by omega) (fun h => by omega) (by omega)
  cases hr : seqF s atom (s.size + 1) .none t with
  | no t1 => rw [hr] at hs; exact hs
  | ok p1 t1 =>
    rw [hr] at hs
    obtain ⟨q1, g2, hq1, he1⟩ := hs
    exact patLoop_good ha hg hd g2 hq1 he1 (by omega)
theorem atom_sims (s : ByteArray) (k : Nat) : Sims s k (atomF s k) := by
  induction k with
  | zero =>
    intro t q d hd h hq hm he
    exact atom0_good h hq hm he (fun _ => by omega)
  | succ k ih =>
    intro t q d hd h hq hm he
    simp only [atomF]
    by_cases h1 : hit s t.a 40 = true
    · rw [if_pos h1]
      obtain ⟨b1, l1⟩ := hit_eq h1
      have g1 : Good s t.go 0 (d + 1) := h.step l1 (by rw [b1]; unfold aut itemA isNoteN; rw [if_pos hq]; simp; omega) (by omega) (by omega) (by omega)
      have hs := pat_good ih (atomF_goes k) (by omega) g1
      cases hr : patF s (atomF s k) t.go with
      | no t1 => rw [hr] at hs; exact hs
      | ok p1 t1 =>
        rw [hr] at hs
        obtain ⟨q1, g2, hq1, he1, hb⟩ := hs
        simp only
        by_cases h2 : hit s t1.a 41 = true
        · rw [if_pos h2]
          obtain ⟨b2, l2⟩ := hit_eq h2
          exact g2.step l2 (by rw [b2]; unfold aut itemA isNoteN; rw [if_pos hq1]; simp) (by omega) (by omega) (by omega)
        · rw [if_neg h2]
          have b2 := hit_ne (by simpa using h2) (by omega)
          rcases end_yes he1 with h3 | h3 | h3
          · exact Stuck.mk g2.at_ (fun h => by omega) (fun _ => .inr (by omega))
          · exact absurd h3 hb
          · exact absurd h3 b2
    · rw [if_neg h1]
      exact atom0_good h hq hm he (fun e => absurd e (hit_ne (by simpa using h1) (by omega)))
def parseF (s : ByteArray) : Res Pat := patF s (atomF s 6) ⟨0, false, 0⟩
theorem good_start (s : ByteArray) : Good s ⟨0, false, 0⟩ 0 0 := ⟨.zero, fun h => by simp at h, fun _ j hj => by simp at hj⟩
theorem parse_no {s : ByteArray} {t : Sp} (h : parseF s = .no t) : Stuck s t.a := by
  have := pat_good (atom_sims s 6) (atomF_goes 6) (by omega) (good_start s)
  rw [show patF s (atomF s 6) ⟨0, false, 0⟩ = .no t from h] at this
  exact this
theorem parse_short {s : ByteArray} {p : Pat} {t : Sp} (h : parseF s = .ok p t) (hne : t.a ≠ s.size) : Stuck s t.a := by
  have := pat_good (atom_sims s 6) (atomF_goes 6) (by omega) (good_start s)
  rw [show patF s (atomF s 6) ⟨0, false, 0⟩ = .ok p t from h] at this
  obtain ⟨q, g, hq, he, hb⟩ := this
  have hle := g.le
  refine Stuck.mk g.at_ (fun _ => ?_) (fun e => absurd e hne)
  rcases end_yes he with h3 | h3 | h3
  · omega
  · exact absurd h3 hb
  · rw [h3]; unfold aut itemA isNoteN; rw [if_pos hq]; simp
theorem parse_whole {s : ByteArray} {p : Pat} {t : Sp} (h : parseF s = .ok p t) (he : t.a = s.size) : ∃ q, Good s t q 0 ∧ q ≤ 2 := by
  have := pat_good (atom_sims s 6) (atomF_goes 6) (by omega) (good_start s)
  rw [show patF s (atomF s 6) ⟨0, false, 0⟩ = .ok p t from h] at this
  obtain ⟨q, g, hq, _, _⟩ := this
  exact ⟨q, g, hq⟩
end Go.Proofs.YtpngikmcjkjdaaaGreatDoor
