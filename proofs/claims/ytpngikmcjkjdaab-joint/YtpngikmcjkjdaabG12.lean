import Derived.Test.YtpngikmcjkjdaabG1
import Derived.Test.YtpngikmcjkjdaabG11
import Derived.Test.YtpngikmcjkjdaabG3
import Derived.Test.YtpngikmcjkjdaabG4
set_option linter.unusedVariables false
set_option linter.unusedSimpArgs false
namespace Go.Proofs.Ytpngikmcjkjdaab
set_option linter.unusedVariables false
set_option linter.unusedSimpArgs false
def Rem (s : ByteArray) (a : Nat) (r : List Nat) : Prop := (txt s).drop a = r
section
variable {s : ByteArray}
theorem Rem.cons {a c : Nat} {r : List Nat} (h : Rem s a (c :: r)) : byteAt s a = c ∧ a < s.size ∧ Rem s (a + 1) r := by
  unfold Rem at h ⊢
  have hlt : a < s.size := by
    refine Classical.byContradiction fun hn => ?_
    rw [List.drop_of_length_le (by rw [txt_len]; omega)] at h
    simp at h
  have h2 : a < (txt s).length := by rw [txt_len]; exact hlt
  have h1 := txt_get hlt
  rw [List.getElem?_eq_getElem h2] at h1
  rw [List.drop_eq_getElem_cons h2, Option.some.inj h1] at h
  injection h with h3 h4
  exact ⟨h3, hlt, h4⟩
theorem Rem.nil {a : Nat} (h : Rem s a []) : s.size ≤ a := by
  unfold Rem at h
  have := congrArg List.length h
  rw [List.length_drop, txt_len] at this
  simp at this
  omega
theorem Rem.len {a : Nat} {r : List Nat} (h : Rem s a r) : r.length ≤ s.size := by
  unfold Rem at h
  rw [← h, List.length_drop, txt_len]
  omega
theorem Rem.sees {a c : Nat} {r : List Nat} (h : Rem s a (c :: r)) (b : Nat) : hit s a b = decide (c = b) := by
  obtain ⟨h1, h2, _⟩ := h.cons
  unfold byteAt at h1
  unfold hit
  rw [h1, decide_eq_true h2, Bool.true_and]
  rfl
theorem Rem.sees0 {a : Nat} (h : Rem s a []) (b : Nat) : hit s a b = false := by
  have := h.nil
  unfold hit
  rw [decide_eq_false (by omega), Bool.false_and]
theorem Rem.note {a c : Nat} {r : List Nat} (h : Rem s a (c :: r)) : noteHere s a = isNoteN c := by rw [note_eq, h.cons.1]
theorem Rem.digit {a c : Nat} {r : List Nat} (h : Rem s a (c :: r)) : digitHere s a = isDigitN c := by rw [digit_eq, h.cons.1]
theorem Rem.end0 {a : Nat} (h : Rem s a []) : endHere s a = true := by
  have := h.nil
  unfold endHere
  simp [this]
theorem Rem.end_ {a c : Nat} {r : List Nat} (h : Rem s a (c :: r)) : endHere s a = (c == 124 || c == 41) := by
  obtain ⟨h1, h2, _⟩ := h.cons
  unfold endHere
  rw [h1, decide_eq_false (by omega), Bool.false_or]
theorem isNote_of {f : Nat} (h : f < 8) : isNoteN (97 + f) = true := noteN_iff.2 (by omega)
theorem isDigit_of {f : Nat} (h : f ≤ 9) : isDigitN (48 + f) = true := digitN_iff.2 (by omega)
theorem spanF_id {pl f g : Nat} {t : Sp} (h : f ≤ g) : spanF pl f g t = t := by unfold spanF; rw [if_neg (by omega)]
theorem text_part {x : Prt} (hx : x.ok) {c : Nat} {r : List Nat} (hc : c ≠ 45) {t : Sp} (h : Rem s t.a (x.text ++ c :: r)) : ∃ t', partF s t = .ok (x.f, x.g) t' ∧ Rem s t'.a (c :: r) ∧ t'.bk = t.bk := by
  obtain ⟨f, g, dash⟩ := x
  obtain ⟨h1, h2, h3, h4⟩ := hx
  cases dash
  · have e : g = f := h3 rfl
    subst e
    have h' : Rem s t.a ((97 + g) :: c :: r) := h
    obtain ⟨b1, l1, r1⟩ := h'.cons
    refine ⟨t.go, ?_, r1, rfl⟩
    unfold partF
    rw [h'.note, isNote_of h1, r1.sees, b1, decide_eq_false hc]
    simp
  · have h' : Rem s t.a ((97 + f) :: 45 :: (97 + g) :: c :: r) := h
    obtain ⟨b1, l1, r1⟩ := h'.cons
    obtain ⟨b2, l2, r2⟩ := r1.cons
    obtain ⟨b3, l3, r3⟩ := r2.cons
    refine ⟨t.go.go.go, ?_, r3, rfl⟩
    unfold partF
    rw [h'.note, isNote_of h1, r1.sees, r2.note, isNote_of h2, b1, b3]
    simp
theorem part_head {x : Prt} (hx : x.ok) : ∃ c l, x.text = c :: l ∧ isNoteN c = true := by
  obtain ⟨f, g, dash⟩ := x
  cases dash
  · exact ⟨97 + f, [], rfl, isNote_of hx.1⟩
  · exact ⟨97 + f, [45, 97 + g], rfl, isNote_of hx.1⟩
theorem text_setLoop (ps : List Prt) : ∀ (n : Nat) (N : Nat → Bool) (t : Sp) (r : List Nat), ps ≠ [] → (∀ x ∈ ps, x.ok) → ps.length ≤ n → Rem s t.a (ps.flatMap Prt.text ++ 93 :: r) → ∃ t', setLoop s n N t = .ok (setN N ps) t' ∧ Rem s t'.a r ∧ t'.bk = t.bk := by
  induction ps with
  | nil => intro n N t r h; exact absurd rfl h
  | cons x ps ih =>
    intro n N t r _ hok hn h
    obtain ⟨n, rfl⟩ : ∃ m, n = m + 1 := ⟨n - 1, by simp at hn; omega⟩
    have hx := hok x (by simp)
    by_cases hps : ps = []
    · subst hps
      have h' : Rem s t.a (x.text ++ 93 :: r) := by simpa using h
      obtain ⟨t1, e1, r1, b1⟩ := text_part hx (by decide) h'
      obtain ⟨_, _, r2⟩ := r1.cons
      refine ⟨t1.go, ?_, r2, b1⟩
      simp only [setLoop]
      rw [e1]
      simp only
      rw [r1.sees, spanF_id hx.2.2.2]
      simp [setN]
    · obtain ⟨y, ps', rfl⟩ := List.exists_cons_of_ne_nil hps
      obtain ⟨c, l, hl, hc⟩ := part_head (hok y (by simp))
      have hc2 := noteN_iff.1 hc
      have h' : Rem s t.a (x.text ++ c :: (l ++ (ps'.flatMap Prt.text ++ 93 :: r))) := by
        have e : (x :: y :: ps').flatMap Prt.text ++ 93 :: r = x.text ++ c :: (l ++ (ps'.flatMap Prt.text ++ 93 :: r)) := by simp [hl]
        rw [← e]; exact h
      obtain ⟨t1, e1, r1, b1⟩ := text_part hx (by omega) h'
      have r1' : Rem s t1.a ((y :: ps').flatMap Prt.text ++ 93 :: r) := by
        have e : (y :: ps').flatMap Prt.text ++ 93 :: r = c :: (l ++ (ps'.flatMap Prt.text ++ 93 :: r)) := by simp [hl]
        rw [e]; exact r1
      obtain ⟨t2, e2, r2, b2⟩ := ih n (addSpan N x.f x.g) t1 r (by simp) (fun z hz => hok z (by simp [hz])) (by simp at hn ⊢; omega) r1'
      refine ⟨t2, ?_, r2, b2.trans b1⟩
      simp only [setLoop]
      rw [e1]
      simp only
      rw [r1.sees, spanF_id hx.2.2.2, decide_eq_false (by omega)]
      simp only [Bool.false_eq_true, if_false]
      exact e2
theorem parts_len (ps : List Prt) : ps.length ≤ (ps.flatMap Prt.text).length := by
  induction ps with
  | nil => simp
  | cons x ps ih =>
    have : 1 ≤ x.text.length := by unfold Prt.text; split <;> simp
    simp only [List.flatMap_cons, List.length_cons, List.length_append]
    omega
def Opens (c : Nat) : Prop := isNoteN c = true ∨ c = 46 ∨ c = 91 ∨ c = 40
def Knows (s : ByteArray) (A : List Nat → Pat → Prop) (atom : Sp → Res Pat) : Prop :=
  (∀ l p, A l p → ∃ c l', l = c :: l' ∧ Opens c) ∧ ∀ l p r t, A l p → t.bk = false → Rem s t.a (l ++ r) → ∃ t', atom t = .ok p t' ∧ Rem s t'.a r ∧ t'.bk = false
theorem atom0_opens {l : List Nat} {p : Pat} (h : Atom0T l p) : ∃ c l', l = c :: l' ∧ Opens c ∧ c ≠ 40 := by
  rcases h with ⟨c, hc, rfl, _⟩ | ⟨rfl, _⟩ | ⟨ps, _, _, ⟨rfl, _⟩ | ⟨rfl, _⟩⟩
  · exact ⟨_, _, rfl, .inl (isNote_of hc), by omega⟩
  · exact ⟨_, _, rfl, .inr (.inl rfl), by omega⟩
  · exact ⟨_, _, rfl, .inr (.inr (.inl rfl)), by omega⟩
  · exact ⟨_, _, rfl, .inr (.inr (.inl rfl)), by omega⟩
theorem text_atom0 {l : List Nat} {p : Pat} {r : List Nat} {t : Sp} (h : Atom0T l p) (hb : t.bk = false) (hr : Rem s t.a (l ++ r)) : ∃ t', atom0 s t = .ok p t' ∧ Rem s t'.a r ∧ t'.bk = false := by
  rcases h with ⟨c, hc, rfl, rfl⟩ | ⟨rfl, rfl⟩ | ⟨ps, hne, hok, ⟨rfl, rfl⟩ | ⟨rfl, rfl⟩⟩
  · have h' : Rem s t.a ((97 + c) :: r) := hr
    obtain ⟨b1, l1, r1⟩ := h'.cons
    refine ⟨t.go, ?_, r1, hb⟩
    unfold atom0
    rw [h'.sees, h'.sees, h'.note, isNote_of hc, b1, decide_eq_false (by omega), decide_eq_false (by omega)]
    simp
  · have h' : Rem s t.a (46 :: r) := hr
    obtain ⟨b1, l1, r1⟩ := h'.cons
    refine ⟨t.go, ?_, r1, hb⟩
    unfold atom0
    rw [h'.sees, h'.sees]
    simp
  · have h' : Rem s t.a (91 :: (ps.flatMap Prt.text ++ 93 :: r)) := by simpa using hr
    obtain ⟨b1, l1, r1⟩ := h'.cons
    have hln := r1.len
    have hpl := parts_len ps
    simp only [List.length_append, List.length_cons] at hln
    obtain ⟨t1, e1, r2, b2⟩ := text_setLoop ps (s.size + 1) (fun _ => false) t.go r hne hok (by omega) r1
    refine ⟨t1, ?_, r2, b2.trans hb⟩
    obtain ⟨y, ps', rfl⟩ := List.exists_cons_of_ne_nil hne
    obtain ⟨c, l, hl, hc⟩ := part_head (hok y (by simp))
    have hc2 := noteN_iff.1 hc
    have r1' : Rem s t.go.a (c :: (l ++ (ps'.flatMap Prt.text ++ 93 :: r))) := by
      have e : (y :: ps').flatMap Prt.text ++ 93 :: r = c :: (l ++ (ps'.flatMap Prt.text ++ 93 :: r)) := by simp [hl]
      rw [← e]; exact r1
    unfold atom0 setF
    rw [h'.sees, r1'.sees, decide_eq_false (show ¬ c = 94 by omega), e1]
    simp
  · have h' : Rem s t.a (91 :: 94 :: (ps.flatMap Prt.text ++ 93 :: r)) := by simpa using hr
    obtain ⟨b1, l1, r1⟩ := h'.cons
    obtain ⟨b2, l2, r2⟩ := r1.cons
    have hln := r2.len
    have hpl := parts_len ps
    simp only [List.length_append, List.length_cons] at hln
    obtain ⟨t1, e1, r3, b3⟩ := text_setLoop ps (s.size + 1) (fun _ => false) t.go.go r hne hok (by omega) r2
    refine ⟨t1, ?_, r3, b3.trans hb⟩
    have r1' : Rem s t.go.a (94 :: (ps.flatMap Prt.text ++ 93 :: r)) := r1
    unfold atom0 setF
    rw [h'.sees, r1'.sees, e1]
    simp
def NoMk (r : List Nat) : Prop := ∀ c r', r = c :: r' → c ≠ 42 ∧ c ≠ 43 ∧ c ≠ 63 ∧ c ≠ 123
theorem count_just {u : Sp} {n : Nat} {r : List Nat} (hn : n ≤ 9) (h : Rem s u.a ((48 + n) :: 125 :: r)) : countF s u = .ok (n, n, false) u.go.go ∧ Rem s u.go.go.a r := by
  obtain ⟨c2, _, r3⟩ := h.cons
  obtain ⟨_, _, r4⟩ := r3.cons
  refine ⟨?_, r4⟩
  unfold countF
  rw [h.digit, isDigit_of hn, r3.sees, c2]
  simp
theorem count_more {u : Sp} {n : Nat} {r : List Nat} (hn : n ≤ 9) (h : Rem s u.a ((48 + n) :: 44 :: 125 :: r)) : countF s u = .ok (n, n + 1, true) u.go.go.go ∧ Rem s u.go.go.go.a r := by
  obtain ⟨c2, _, r3⟩ := h.cons
  obtain ⟨_, _, r4⟩ := r3.cons
  obtain ⟨_, _, r5⟩ := r4.cons
  refine ⟨?_, r5⟩
  unfold countF
  rw [h.digit, isDigit_of hn, r3.sees, r3.sees, r4.sees, c2]
  simp
theorem count_span {u : Sp} {n k : Nat} {r : List Nat} (hn : n ≤ k ∧ k ≤ 9) (h : Rem s u.a ((48 + n) :: 44 :: (48 + k) :: 125 :: r)) : countF s u = .ok (n, k, false) u.go.go.go.go ∧ Rem s u.go.go.go.go.a r := by
  obtain ⟨c2, _, r3⟩ := h.cons
  obtain ⟨_, _, r4⟩ := r3.cons
  obtain ⟨c4, _, r5⟩ := r4.cons
  obtain ⟨_, _, r6⟩ := r5.cons
  refine ⟨?_, r6⟩
  unfold countF
  rw [h.digit, isDigit_of (by omega), r3.sees, r3.sees, r4.sees, r4.digit, isDigit_of hn.2, r5.sees, c2, c4, Nat.add_sub_cancel_left, Nat.add_sub_cancel_left, spanF_id hn.1, decide_eq_false (show ¬ 48 + k = 125 by omega)]
  simp
theorem text_item {A : List Nat → Pat → Prop} {atom : Sp → Res Pat} (ha : Knows s A atom) {i : Itm} (hA : A i.la i.q) (hm : i.m.ok) {r : List Nat} (hr : NoMk r) {t : Sp} (hb : t.bk = false) (h : Rem s t.a (i.text ++ r)) :
    ∃ t', itemF s atom t = .ok i.pat t' ∧ Rem s t'.a r ∧ t'.bk = false := by
  obtain ⟨la, q, m⟩ := i
  have h' : Rem s t.a (la ++ (m.text ++ r)) := by rw [← List.append_assoc]; exact h
  obtain ⟨t1, e1, r1, b1⟩ := ha.2 la q (m.text ++ r) t hA hb h'
  unfold itemF Itm.pat
  rw [e1]
  cases m with
  | none =>
    have r1' : Rem s t1.a r := r1
    refine ⟨t1, ?_, r1', b1⟩
    cases r with
    | nil => simp [r1'.sees0, Mk.app]
    | cons c r =>
      obtain ⟨n1, n2, n3, n4⟩ := hr c r rfl
      simp [r1'.sees, Mk.app, n1, n2, n3, n4]
  | star =>
    have r1' : Rem s t1.a (42 :: r) := r1
    obtain ⟨_, _, r2⟩ := r1'.cons
    exact ⟨t1.go, by simp [r1'.sees, Mk.app], r2, b1⟩
  | plus =>
    have r1' : Rem s t1.a (43 :: r) := r1
    obtain ⟨_, _, r2⟩ := r1'.cons
    exact ⟨t1.go, by simp [r1'.sees, Mk.app], r2, b1⟩
  | opt =>
    have r1' : Rem s t1.a (63 :: r) := r1
    obtain ⟨_, _, r2⟩ := r1'.cons
    exact ⟨t1.go, by simp [r1'.sees, Mk.app], r2, b1⟩
  | just n =>
    have r1' : Rem s t1.a (123 :: (48 + n) :: 125 :: r) := r1
    obtain ⟨_, _, r2⟩ := r1'.cons
    obtain ⟨e2, r4⟩ := count_just (u := t1.go) hm r2
    exact ⟨t1.go.go.go, by simp [r1'.sees, Mk.app, e2], r4, b1⟩
  | more n =>
    have r1' : Rem s t1.a (123 :: (48 + n) :: 44 :: 125 :: r) := r1
    obtain ⟨_, _, r2⟩ := r1'.cons
    obtain ⟨e2, r4⟩ := count_more (u := t1.go) hm r2
    exact ⟨t1.go.go.go.go, by simp [r1'.sees, Mk.app, e2], r4, b1⟩
  | span n k =>
    have r1' : Rem s t1.a (123 :: (48 + n) :: 44 :: (48 + k) :: 125 :: r) := r1
    obtain ⟨_, _, r2⟩ := r1'.cons
    obtain ⟨e2, r4⟩ := count_span (u := t1.go) hm r2
    exact ⟨t1.go.go.go.go.go, by simp [r1'.sees, Mk.app, e2], r4, b1⟩
theorem opens_no {c : Nat} (h : Opens c) : c ≠ 42 ∧ c ≠ 43 ∧ c ≠ 63 ∧ c ≠ 123 ∧ c ≠ 124 ∧ c ≠ 41 := by
  rcases h with h | h | h | h
  · have := noteN_iff.1 h; omega
  all_goals omega
def Ends (r : List Nat) : Prop := ∀ c r', r = c :: r' → c = 124 ∨ c = 41
theorem text_seq {A : List Nat → Pat → Prop} {atom : Sp → Res Pat} (ha : Knows s A atom) (its : List Itm) : ∀ (n : Nat) (p : Pat) (t : Sp) (r : List Nat), (∀ i ∈ its, A i.la i.q ∧ i.m.ok) → its.length < n → Ends r → t.bk = false → Rem s t.a (its.flatMap Itm.text ++ r) →
    ∃ t', seqF s atom n p t = .ok (chainL p its) t' ∧ Rem s t'.a r ∧ t'.bk = false := by
  induction its with
  | nil =>
    intro n p t r _ hn he hb h
    obtain ⟨n, rfl⟩ : ∃ m, n = m + 1 := ⟨n - 1, by omega⟩
    have h' : Rem s t.a r := h
    refine ⟨t, ?_, h', hb⟩
    simp only [seqF]
    have : endHere s t.a = true := by
      cases r with
      | nil => exact h'.end0
      | cons c r =>
        rw [h'.end_]
        rcases he c r rfl with rfl | rfl <;> rfl
    rw [this]
    simp [chainL]
  | cons i its ih =>
    intro n p t r hok hn he hb h
    obtain ⟨n, rfl⟩ : ∃ m, n = m + 1 := ⟨n - 1, by simp at hn; omega⟩
    obtain ⟨hA, hm⟩ := hok i (by simp)
    obtain ⟨c, l', hl, hc⟩ := ha.1 _ _ hA
    have hno := opens_no hc
    have h' : Rem s t.a (i.text ++ (its.flatMap Itm.text ++ r)) := by simpa using h
    have hmk : NoMk (its.flatMap Itm.text ++ r) := by
      intro c' r' e
      cases its with
      | nil =>
        rcases he c' r' e with rfl | rfl <;> decide
      | cons j its =>
        obtain ⟨c2, l2, hl2, hc2⟩ := ha.1 _ _ (hok j (by simp)).1
        have hno2 := opens_no hc2
        simp only [List.flatMap_cons, Itm.text, hl2, List.cons_append] at e
        injection e with e1 _
        subst e1
        exact ⟨hno2.1, hno2.2.1, hno2.2.2.1, hno2.2.2.2.1⟩
    obtain ⟨t1, e1, r1, b1⟩ := text_item ha hA hm hmk hb h'
    obtain ⟨t2, e2, r2, b2⟩ := ih n (.chain p i.pat) t1 r (fun j hj => hok j (by simp [hj])) (by simp at hn; omega) he b1 r1
    refine ⟨t2, ?_, r2, b2⟩
    simp only [seqF]
    have : endHere s t.a = false := by
      have h3 : Rem s t.a (c :: (l' ++ (i.m.text ++ (its.flatMap Itm.text ++ r)))) := by
        simpa [Itm.text, hl] using h'
      rw [h3.end_]
      simp [hno.2.2.2.2.1, hno.2.2.2.2.2]
    rw [this, e1]
    simpa [chainL] using e2
theorem items_len {A : List Nat → Pat → Prop} {atom : Sp → Res Pat} (ha : Knows s A atom) (its : List Itm) (hok : ∀ i ∈ its, A i.la i.q ∧ i.m.ok) : its.length ≤ (its.flatMap Itm.text).length := by
  induction its with
  | nil => simp
  | cons i its ih =>
    obtain ⟨c, l', hl, _⟩ := ha.1 _ _ (hok i (by simp)).1
    have := ih (fun j hj => hok j (by simp [hj]))
    simp only [List.flatMap_cons, List.length_cons, List.length_append, Itm.text, hl]
    omega
def Shuts (r : List Nat) : Prop := ∀ c r', r = c :: r' → c = 41
theorem text_seqT {A : List Nat → Pat → Prop} {atom : Sp → Res Pat} (ha : Knows s A atom) {l : List Nat} {p : Pat} (h : SeqT A l p) {r : List Nat} (he : Ends r) {t : Sp} (hb : t.bk = false) (hr : Rem s t.a (l ++ r)) :
    ∃ t', seqF s atom (s.size + 1) .none t = .ok p t' ∧ Rem s t'.a r ∧ t'.bk = false := by
  obtain ⟨its, hok, rfl, rfl⟩ := h
  have h1 := hr.len
  have h2 := items_len ha its hok
  rw [List.length_append] at h1
  exact text_seq ha its (s.size + 1) .none t r hok (by omega) he hb hr
theorem text_patLoop {A : List Nat → Pat → Prop} {atom : Sp → Res Pat} (ha : Knows s A atom) (xs : List (List Nat × Pat)) : ∀ (n : Nat) (p : Pat) (t : Sp) (r : List Nat), (∀ y ∈ xs, SeqT A y.1 y.2) → xs.length < n → Shuts r → t.bk = false → Rem s t.a (barsL xs ++ r) →
    ∃ t', patLoop s atom n p t = .ok (altL p xs) t' ∧ Rem s t'.a r ∧ t'.bk = false := by
  induction xs with
  | nil =>
    intro n p t r _ hn he hb h
    obtain ⟨n, rfl⟩ : ∃ m, n = m + 1 := ⟨n - 1, by omega⟩
    have h' : Rem s t.a r := h
    refine ⟨t, ?_, h', hb⟩
    simp only [patLoop]
    have : hit s t.a 124 = false := by
      cases r with
      | nil => exact h'.sees0 _
      | cons c r =>
        rw [h'.sees, he c r rfl]; rfl
    rw [this]
    simp [altL]
  | cons y xs ih =>
    intro n p t r hok hn he hb h
    obtain ⟨n, rfl⟩ : ∃ m, n = m + 1 := ⟨n - 1, by simp at hn; omega⟩
    have h' : Rem s t.a (124 :: (y.1 ++ (barsL xs ++ r))) := by simpa [barsL] using h
    obtain ⟨_, _, r1⟩ := h'.cons
    have hen : Ends (barsL xs ++ r) := by
      intro c r' e
      cases xs with
      | nil => exact .inr (he c r' e)
      | cons z xs =>
        simp only [barsL, List.flatMap_cons, List.cons_append] at e
        injection e with e1 _
        exact .inl e1.symm
    obtain ⟨t1, e1, r2, b2⟩ := text_seqT ha (hok y (by simp)) hen (t := t.go) hb r1
    obtain ⟨t2, e2, r3, b3⟩ := ih n (.alt p y.2) t1 r (fun z hz => hok z (by simp [hz])) (by simp at hn; omega) he b2 r2
    refine ⟨t2, ?_, r3, b3⟩
    simp only [patLoop]
    rw [h'.sees, e1]
    simpa [altL] using e2
theorem bars_len (xs : List (List Nat × Pat)) : xs.length ≤ (barsL xs).length := by
  induction xs with
  | nil => simp
  | cons y xs ih =>
    unfold barsL at ih ⊢
    simp only [List.flatMap_cons, List.length_cons, List.length_append]
    omega
theorem text_pat {A : List Nat → Pat → Prop} {atom : Sp → Res Pat} (ha : Knows s A atom) {l : List Nat} {p : Pat} (h : PatT A l p) {r : List Nat} (he : Shuts r) {t : Sp} (hb : t.bk = false) (hr : Rem s t.a (l ++ r)) :
    ∃ t', patF s atom t = .ok p t' ∧ Rem s t'.a r ∧ t'.bk = false := by
  obtain ⟨x, xs, hx, hxs, rfl, rfl⟩ := h
  have hen : Ends (barsL xs ++ r) := by
    intro c r' e
    cases xs with
    | nil => exact .inr (he c r' e)
    | cons z xs =>
      simp only [barsL, List.flatMap_cons, List.cons_append] at e
      injection e with e1 _
      exact .inl e1.symm
  have hr' : Rem s t.a (x.1 ++ (barsL xs ++ r)) := by simpa using hr
  have h1 := hr'.len
  have h2 := bars_len xs
  simp only [List.length_append] at h1
  obtain ⟨t1, e1, r1, b1⟩ := text_seqT ha hx hen hb hr'
  obtain ⟨t2, e2, r2, b2⟩ := text_patLoop ha xs (s.size + 1) x.2 t1 r hxs (by omega) he b1 r1
  refine ⟨t2, ?_, r2, b2⟩
  unfold patF
  rw [e1]
  exact e2
theorem atom_knows (s : ByteArray) (k : Nat) : Knows s (AtomT k) (atomF s k) := by
  induction k with
  | zero => exact ⟨fun l p h => by obtain ⟨c, l', h1, h2, _⟩ := atom0_opens h; exact ⟨c, l', h1, h2⟩, fun l p r t h hb hr => text_atom0 h hb hr⟩
  | succ k ih =>
    refine ⟨fun l p h => ?_, fun l p r t h hb hr => ?_⟩
    · rcases h with h | ⟨l', rfl, _⟩
      · obtain ⟨c, l', h1, h2, _⟩ := atom0_opens h
        exact ⟨c, l', h1, h2⟩
      · exact ⟨40, _, rfl, .inr (.inr (.inr rfl))⟩
    · simp only [atomF]
      rcases h with h | ⟨l', rfl, h⟩
      · obtain ⟨c, l', rfl, _, h3⟩ := atom0_opens h
        have hr' : Rem s t.a (c :: (l' ++ r)) := hr
        rw [hr'.sees, decide_eq_false h3]
        simpa using text_atom0 h hb hr
      · have hr' : Rem s t.a (40 :: (l' ++ 41 :: r)) := by simpa using hr
        obtain ⟨_, _, r1⟩ := hr'.cons
        obtain ⟨t1, e1, r2, b2⟩ := text_pat ih h (r := 41 :: r) (fun c r' e => by injection e with e1 _; exact e1.symm) (t := t.go) hb r1
        obtain ⟨_, _, r3⟩ := r2.cons
        refine ⟨t1.go, ?_, r3, b2⟩
        rw [hr'.sees, e1]
        simp [r2.sees]
theorem text_parse {p : Pat} (h : PatT (AtomT 6) (txt s) p) : ∃ t, parseF s = .ok p t ∧ t.a = s.size ∧ t.bk = false := by
  obtain ⟨t, e, r, b⟩ := text_pat (atom_knows s 6) h (r := []) (fun c r' e => by simp at e) (t := ⟨0, false, 0⟩) rfl (by unfold Rem; simp)
  have h1 := r.nil
  have h2 := (patF_goes (atomF_goes 6) (by simp) e)
  exact ⟨t, e, by omega, b⟩
end
end Go.Proofs.Ytpngikmcjkjdaab

namespace Go.Proofs.Ytpngikmcjkjdaab
set_option linter.unusedVariables false
inductive Ex where
  | nil : Ex
  | one (S : Nat → Bool) : Ex
  | thn (a b : Ex) : Ex
  | alt (a b : Ex) : Ex
  | star (a : Ex) : Ex
def Ex.isNil : Ex → Bool
  | .nil => true
  | _ => false
def Ex.lang : Ex → List Nat → Prop
  | .nil => fun x => x = []
  | .one S => fun x => ∃ c, x = [c] ∧ S c = true
  | .thn a b => Cat a.lang b.lang
  | .alt a b => fun x => a.lang x ∨ b.lang x
  | .star a => Star a.lang
def Ex.thn' (a b : Ex) : Ex := if a.isNil then b else if b.isNil then a else .thn a b
theorem Ex.isNil_eq {a : Ex} (h : a.isNil = true) : a = .nil := by cases a <;> simp [Ex.isNil] at h ⊢
theorem cat_nil_left {l : List Nat → Prop} (x : List Nat) : Cat (fun x => x = []) l x ↔ l x :=
  ⟨fun ⟨u, v, e, hu, hv⟩ => by subst hu; rw [e]; exact hv, fun h => ⟨[], x, rfl, rfl, h⟩⟩
theorem cat_nil_right {l : List Nat → Prop} (x : List Nat) : Cat l (fun x => x = []) x ↔ l x :=
  ⟨fun ⟨u, v, e, hu, hv⟩ => by subst hv; rw [e, List.append_nil]; exact hu, fun h => ⟨x, [], by simp, h, rfl⟩⟩
theorem thn'_lang (a b : Ex) (x : List Nat) : (a.thn' b).lang x ↔ Cat a.lang b.lang x := by
  unfold Ex.thn'
  by_cases h1 : a.isNil = true
  · rw [if_pos h1, Ex.isNil_eq h1]; exact (cat_nil_left x).symm
  · rw [if_neg h1]
    by_cases h2 : b.isNil = true
    · rw [if_pos h2, Ex.isNil_eq h2]; exact (cat_nil_right x).symm
    · rw [if_neg h2]; exact Iff.rfl
def Ex.empty : Ex → Bool
  | .nil => true
  | .one _ => false
  | .thn a b => a.empty && b.empty
  | .alt a b => a.empty || b.empty
  | .star _ => true
theorem empty_lang (e : Ex) : e.empty = true ↔ e.lang [] := by
  induction e with
  | nil => simp [Ex.empty, Ex.lang]
  | one S => simp [Ex.empty, Ex.lang]
  | thn a b iha ihb =>
    simp only [Ex.empty, Bool.and_eq_true, iha, ihb]
    constructor
    · rintro ⟨h1, h2⟩; exact ⟨[], [], rfl, h1, h2⟩
    · rintro ⟨u, v, e, h1, h2⟩
      have := List.append_eq_nil_iff.1 e.symm
      rw [this.1] at h1; rw [this.2] at h2; exact ⟨h1, h2⟩
  | alt a b iha ihb => simp only [Ex.empty, Bool.or_eq_true, iha, ihb]; exact Iff.rfl
  | star a _ => exact ⟨fun _ => .nil, fun _ => rfl⟩
def Ex.behind : Ex → Nat → List Ex
  | .nil, _ => []
  | .one S, c => if S c then [.nil] else []
  | .alt a b, c => a.behind c ++ b.behind c
  | .star a, c => (a.behind c).map fun x => x.thn' (.star a)
  | .thn a b, c => ((a.behind c).map fun x => x.thn' b) ++ if a.empty then b.behind c else []
theorem star_cons {l : List Nat → Prop} (c : Nat) (x : List Nat) : Star l (c :: x) ↔ ∃ u v, x = u ++ v ∧ l (c :: u) ∧ Star l v := by
  constructor
  · intro h
    generalize hy : c :: x = y at h
    induction h with
    | nil => simp at hy
    | cons hu hv ih =>
      rename_i u v
      cases u with
      | nil => exact ih (by simpa using hy)
      | cons d u =>
        simp only [List.cons_append, List.cons.injEq] at hy
        obtain ⟨rfl, rfl⟩ := hy
        exact ⟨u, v, rfl, hu, hv⟩
  · rintro ⟨u, v, rfl, hu, hv⟩
    exact .cons (u := c :: u) hu hv
theorem behind_lang (e : Ex) (c : Nat) (x : List Nat) : e.lang (c :: x) ↔ ∃ d ∈ e.behind c, d.lang x := by
  induction e generalizing x with
  | nil => simp [Ex.lang, Ex.behind]
  | one S =>
    simp only [Ex.lang, Ex.behind]
    by_cases h : S c = true
    · rw [if_pos h]
      simp only [List.mem_singleton, exists_eq_left, Ex.lang, List.cons.injEq]
      constructor
      · rintro ⟨d, ⟨_, rfl⟩, _⟩; rfl
      · rintro rfl; exact ⟨c, ⟨rfl, rfl⟩, h⟩
    · rw [if_neg h]
      simp only [List.not_mem_nil, false_and, exists_false, iff_false, List.cons.injEq]
      rintro ⟨d, ⟨rfl, _⟩, hd⟩; exact h hd
  | alt a b iha ihb =>
    show a.lang (c :: x) ∨ b.lang (c :: x) ↔ _
    rw [iha x, ihb x]
    simp only [Ex.behind, List.mem_append]
    constructor
    · rintro (⟨d, h1, h2⟩ | ⟨d, h1, h2⟩)
      · exact ⟨d, .inl h1, h2⟩
      · exact ⟨d, .inr h1, h2⟩
    · rintro ⟨d, h1 | h1, h2⟩
      · exact .inl ⟨d, h1, h2⟩
      · exact .inr ⟨d, h1, h2⟩
  | star a iha =>
    show Star a.lang (c :: x) ↔ _
    rw [star_cons]
    simp only [Ex.behind, List.mem_map]
    constructor
    · rintro ⟨u, v, rfl, hu, hv⟩
      obtain ⟨d, h1, h2⟩ := (iha u).1 hu
      exact ⟨_, ⟨d, h1, rfl⟩, (thn'_lang d (.star a) _).2 ⟨u, v, rfl, h2, hv⟩⟩
    · rintro ⟨_, ⟨d, h1, rfl⟩, h2⟩
      obtain ⟨u, v, rfl, h3, h4⟩ := (thn'_lang d (.star a) _).1 h2
      exact ⟨u, v, rfl, (iha u).2 ⟨d, h1, h3⟩, h4⟩
  | thn a b iha ihb =>
    simp only [Ex.behind, List.mem_append, List.mem_map]
    constructor
    · rintro ⟨u, v, e, hu, hv⟩
      cases u with
      | nil =>
        simp only [List.nil_append] at e
        subst e
        obtain ⟨d, h1, h2⟩ := (ihb x).1 hv
        exact ⟨d, .inr (by rw [if_pos ((empty_lang a).2 hu)]; exact h1), h2⟩
      | cons d u =>
        simp only [List.cons_append, List.cons.injEq] at e
        obtain ⟨rfl, rfl⟩ := e
        obtain ⟨d, h1, h2⟩ := (iha u).1 hu
        exact ⟨_, .inl ⟨d, h1, rfl⟩, (thn'_lang d b _).2 ⟨u, v, rfl, h2, hv⟩⟩
    · rintro ⟨d, ⟨d', h1, rfl⟩ | h1, h2⟩
      · obtain ⟨u, v, rfl, h3, h4⟩ := (thn'_lang d' b _).1 h2
        exact ⟨c :: u, v, rfl, (iha u).2 ⟨d', h1, h3⟩, h4⟩
      · by_cases he : a.empty = true
        · rw [if_pos he] at h1
          exact ⟨[], c :: x, rfl, (empty_lang a).1 he, (ihb x).2 ⟨d, h1, h2⟩⟩
        · rw [if_neg he] at h1; simp at h1
def Ex.pds : Ex → List Ex
  | .nil => []
  | .one _ => [.nil]
  | .alt a b => a.pds ++ b.pds
  | .thn a b => (a.pds.map fun x => x.thn' b) ++ b.pds
  | .star a => a.pds.map fun x => x.thn' (.star a)
def Ex.letters : Ex → Nat
  | .nil => 0
  | .one _ => 1
  | .alt a b => a.letters + b.letters
  | .thn a b => a.letters + b.letters
  | .star a => a.letters
theorem pds_length (e : Ex) : e.pds.length = e.letters := by
  induction e with
  | nil => rfl
  | one S => rfl
  | alt a b iha ihb => simp [Ex.pds, Ex.letters, iha, ihb]
  | thn a b iha ihb => simp [Ex.pds, Ex.letters, iha, ihb]
  | star a iha => simp [Ex.pds, Ex.letters, iha]
theorem behind_thn' (x b d : Ex) (c : Nat) (h : d ∈ (x.thn' b).behind c) : (∃ y ∈ x.behind c, d = y.thn' b) ∨ d ∈ b.behind c := by
  unfold Ex.thn' at h
  by_cases h1 : x.isNil = true
  · rw [if_pos h1] at h; exact .inr h
  · rw [if_neg h1] at h
    by_cases h2 : b.isNil = true
    · rw [if_pos h2] at h
      rw [Ex.isNil_eq h2]
      refine .inl ⟨d, h, ?_⟩
      unfold Ex.thn'
      by_cases h3 : d.isNil = true
      · rw [if_pos h3]; exact Ex.isNil_eq h3
      · rw [if_neg h3, if_pos (show Ex.nil.isNil = true from rfl)]
    · rw [if_neg h2] at h
      simp only [Ex.behind, List.mem_append, List.mem_map] at h
      rcases h with ⟨y, h3, rfl⟩ | h3
      · exact .inl ⟨y, h3, rfl⟩
      · by_cases h4 : x.empty = true
        · rw [if_pos h4] at h3; exact .inr h3
        · rw [if_neg h4] at h3; simp at h3
theorem behind_pds (e : Ex) (c : Nat) : ∀ d ∈ e.behind c, d ∈ e.pds := by
  induction e with
  | nil => intro d h; simp [Ex.behind] at h
  | one S =>
    intro d h
    simp only [Ex.behind] at h
    by_cases hs : S c = true
    · rw [if_pos hs] at h; exact h
    · rw [if_neg hs] at h; simp at h
  | alt a b iha ihb =>
    intro d h
    simp only [Ex.behind, Ex.pds, List.mem_append] at h ⊢
    exact h.imp (iha d) (ihb d)
  | star a iha =>
    intro d h
    simp only [Ex.behind, Ex.pds, List.mem_map] at h ⊢
    obtain ⟨y, h1, rfl⟩ := h
    exact ⟨y, iha y h1, rfl⟩
  | thn a b iha ihb =>
    intro d h
    simp only [Ex.behind, Ex.pds, List.mem_append, List.mem_map] at h ⊢
    rcases h with ⟨y, h1, rfl⟩ | h1
    · exact .inl ⟨y, iha y h1, rfl⟩
    · by_cases h4 : a.empty = true
      · rw [if_pos h4] at h1; exact .inr (ihb d h1)
      · rw [if_neg h4] at h1; simp at h1
theorem pds_closed (e : Ex) (c : Nat) : ∀ d ∈ e.pds, ∀ d' ∈ d.behind c, d' ∈ e.pds := by
  induction e with
  | nil => intro d h; simp [Ex.pds] at h
  | one S =>
    intro d h d' h'
    simp only [Ex.pds, List.mem_singleton] at h
    subst h
    simp [Ex.behind] at h'
  | alt a b iha ihb =>
    intro d h d' h'
    simp only [Ex.pds, List.mem_append] at h ⊢
    exact h.imp (fun h => iha d h d' h') (fun h => ihb d h d' h')
  | star a iha =>
    intro d h d' h'
    simp only [Ex.pds, List.mem_map] at h ⊢
    obtain ⟨y, h1, rfl⟩ := h
    rcases behind_thn' y (.star a) d' c h' with ⟨z, h2, rfl⟩ | h2
    · exact ⟨z, iha y h1 z h2, rfl⟩
    · simp only [Ex.behind, List.mem_map] at h2
      obtain ⟨z, h3, rfl⟩ := h2
      exact ⟨z, behind_pds a c z h3, rfl⟩
  | thn a b iha ihb =>
    intro d h d' h'
    simp only [Ex.pds, List.mem_append, List.mem_map] at h ⊢
    rcases h with ⟨y, h1, rfl⟩ | h1
    · rcases behind_thn' y b d' c h' with ⟨z, h2, rfl⟩ | h2
      · exact .inl ⟨z, iha y h1 z h2, rfl⟩
      · exact .inr (behind_pds b c d' h2)
    · exact .inr (ihb d h1 d' h')
end Go.Proofs.Ytpngikmcjkjdaab

namespace Go.Proofs.Ytpngikmcjkjdaab
set_option linter.unusedVariables false
set_option linter.unusedSimpArgs false
def Ex.copyE (x : Ex) (lo i : Nat) (en : Bool) : Ex := if i < lo then x else if en then .star x else .alt .nil x
def Ex.copiesE (x : Ex) (lo : Nat) (en : Bool) : Nat → Ex
  | 0 => .nil
  | k + 1 => .thn (x.copiesE lo en k) (x.copyE lo k en)
def Pat.ex : Pat → Ex
  | .none => .nil
  | .one S => .one S
  | .chain a b => .thn a.ex b.ex
  | .alt a b => .alt a.ex b.ex
  | .rep a lo co en => a.ex.copiesE lo en co
theorem copiesE_lang (x : Ex) (l : List Nat → Prop) (h : ∀ y, x.lang y ↔ l y) (lo : Nat) (en : Bool) (k : Nat) (y : List Nat) : (x.copiesE lo en k).lang y ↔ Copies l lo en k y := by
  induction k generalizing y with
  | zero => exact Iff.rfl
  | succ k ih =>
    refine Cat.congr ih (fun z => ?_) y
    unfold Ex.copyE Copy
    by_cases h1 : k < lo
    · rw [if_pos h1, if_pos h1]; exact h z
    · rw [if_neg h1, if_neg h1]
      cases en
      · show (z = [] ∨ x.lang z) ↔ (z = [] ∨ l z)
        rw [h z]
      · exact Star.congr h z
theorem Pat.ex_lang (p : Pat) (y : List Nat) : p.ex.lang y ↔ p.lang y := by
  induction p generalizing y with
  | none => exact Iff.rfl
  | one S => exact Iff.rfl
  | chain a b iha ihb => exact Cat.congr iha ihb y
  | alt a b iha ihb => exact or_congr (iha y) (ihb y)
  | rep a lo co en ih => exact copiesE_lang a.ex a.lang ih lo en co y
theorem copiesE_letters (x : Ex) (lo : Nat) (en : Bool) (k : Nat) : (x.copiesE lo en k).letters = x.letters * k := by
  induction k with
  | zero => rfl
  | succ k ih =>
    have : (x.copyE lo k en).letters = x.letters := by
      unfold Ex.copyE
      by_cases h1 : k < lo
      · rw [if_pos h1]
      · rw [if_neg h1]
        cases en
        · show 0 + x.letters = x.letters; omega
        · rfl
    show (x.copiesE lo en k).letters + (x.copyE lo k en).letters = _
    rw [ih, this, Nat.mul_succ]
theorem Pat.ex_letters (p : Pat) : p.ex.letters = p.size := by
  induction p with
  | none => rfl
  | one S => rfl
  | chain a b iha ihb => show a.ex.letters + b.ex.letters = a.size + b.size; rw [iha, ihb]
  | alt a b iha ihb => show a.ex.letters + b.ex.letters = a.size + b.size; rw [iha, ihb]
  | rep a lo co en ih => show (a.ex.copiesE lo en co).letters = a.size * co; rw [copiesE_letters, ih]
def subsN : Nat → List (List Nat)
  | 0 => [[]]
  | n + 1 => subsN n ++ (subsN n).map (fun l => n :: l)
def flN (f : Nat → Bool) : Nat → List Nat
  | 0 => []
  | n + 1 => if f n then n :: flN f n else flN f n
theorem subsN_len (n : Nat) : (subsN n).length = 2 ^ n := by
  induction n with
  | zero => rfl
  | succ n ih => simp [subsN, ih, Nat.pow_succ]; omega
theorem flN_mem (f : Nat → Bool) (n : Nat) : flN f n ∈ subsN n := by
  induction n with
  | zero => simp [subsN, flN]
  | succ n ih =>
    simp only [subsN, flN, List.mem_append, List.mem_map]
    cases f n
    · exact .inl (by simpa using ih)
    · exact .inr ⟨_, ih, by simp⟩
theorem mem_flN (f : Nat → Bool) (n j : Nat) : j ∈ flN f n ↔ j < n ∧ f j = true := by
  induction n with
  | zero => simp [flN]
  | succ n ih =>
    simp only [flN]
    cases h : f n
    · simp only [Bool.false_eq_true, if_false, ih]
      constructor
      · intro ⟨h1, h2⟩; exact ⟨by omega, h2⟩
      · intro ⟨h1, h2⟩
        refine ⟨?_, h2⟩
        refine Classical.byContradiction fun hn => ?_
        obtain rfl : j = n := by omega
        rw [h] at h2; cases h2
    · simp only [if_true, List.mem_cons, ih]
      constructor
      · rintro (rfl | ⟨h1, h2⟩)
        · exact ⟨by omega, h⟩
        · exact ⟨by omega, h2⟩
      · intro ⟨h1, h2⟩
        by_cases e : j = n
        · exact .inl e
        · exact .inr ⟨by omega, h2⟩
def detS (E : Ex) (i : Nat) : List Ex := if i = 0 then [E] else ((subsN E.pds.length).getD (i - 1) []).map fun j => E.pds.getD j .nil
noncomputable def detF (E : Ex) (i c : Nat) (j : Nat) : Bool := @decide (∃ d ∈ detS E i, E.pds.getD j .nil ∈ d.behind c) (Classical.propDecidable _)
noncomputable def detT (E : Ex) : Tab where
  n := 1 + 2 ^ E.pds.length
  acc i := (detS E i).any Ex.empty
  nxt i c := 1 + (subsN E.pds.length).idxOf (flN (detF E i c) E.pds.length)
theorem detF_iff (E : Ex) (i c j : Nat) : detF E i c j = true ↔ ∃ d ∈ detS E i, E.pds.getD j .nil ∈ d.behind c := by unfold detF; simp
theorem detS_nxt (E : Ex) (i c : Nat) : detS E ((detT E).nxt i c) = (flN (detF E i c) E.pds.length).map fun j => E.pds.getD j .nil := by
  have hm := flN_mem (detF E i c) E.pds.length
  have hl := List.idxOf_lt_length_of_mem hm
  show detS E (1 + _) = _
  unfold detS
  rw [if_neg (by omega), Nat.add_sub_cancel_left, List.getD_eq_getElem?_getD, List.getElem?_eq_getElem hl, List.getElem_idxOf hl]
  rfl
def DetOk (E : Ex) (i : Nat) : Prop := ∀ d ∈ detS E i, d = E ∨ d ∈ E.pds
theorem detOk_zero (E : Ex) : DetOk E 0 := fun d hd => by
  simp [detS] at hd
  exact .inl hd
theorem detOk_nxt (E : Ex) (i c : Nat) : DetOk E ((detT E).nxt i c) := fun d hd => by
  rw [detS_nxt] at hd
  obtain ⟨j, hj, rfl⟩ := List.mem_map.1 hd
  have hj := ((mem_flN _ _ _).1 hj).1
  rw [List.getD_eq_getElem?_getD, List.getElem?_eq_getElem hj]
  exact .inr (List.getElem_mem hj)
theorem det_step (E : Ex) (i c : Nat) (h : DetOk E i) (x : List Nat) : (∃ d ∈ detS E ((detT E).nxt i c), d.lang x) ↔ ∃ d ∈ detS E i, d.lang (c :: x) := by
  rw [detS_nxt]
  constructor
  · rintro ⟨d, hd, hx⟩
    obtain ⟨j, hj, rfl⟩ := List.mem_map.1 hd
    obtain ⟨d0, h0, h1⟩ := (detF_iff E i c j).1 ((mem_flN _ _ _).1 hj).2
    exact ⟨d0, h0, (behind_lang d0 c x).2 ⟨_, h1, hx⟩⟩
  · rintro ⟨d0, h0, hx⟩
    obtain ⟨d, hd, hx⟩ := (behind_lang d0 c x).1 hx
    have hp : d ∈ E.pds := by
      rcases h d0 h0 with rfl | h1
      · exact behind_pds _ c d hd
      · exact pds_closed E c d0 h1 d hd
    obtain ⟨j, hj, rfl⟩ := List.mem_iff_getElem.1 hp
    have e : E.pds.getD j .nil = E.pds[j] := by rw [List.getD_eq_getElem?_getD, List.getElem?_eq_getElem hj]; rfl
    exact ⟨_, List.mem_map.2 ⟨j, (mem_flN _ _ _).2 ⟨hj, (detF_iff E i c j).2 ⟨d0, h0, by rw [e]; exact hd⟩⟩, e⟩, hx⟩
theorem det_read (E : Ex) (x : List Nat) : ∀ i, DetOk E i → ((detT E).acc ((detT E).read i x) = true ↔ ∃ d ∈ detS E i, d.lang x) := by
  induction x with
  | nil =>
    intro i _
    show (detS E i).any Ex.empty = true ↔ _
    rw [List.any_eq_true]
    exact ⟨fun ⟨d, h1, h2⟩ => ⟨d, h1, (empty_lang d).1 h2⟩, fun ⟨d, h1, h2⟩ => ⟨d, h1, (empty_lang d).2 h2⟩⟩
  | cons c x ih =>
    intro i hi
    show (detT E).acc ((detT E).read ((detT E).nxt i c) x) = true ↔ _
    rw [ih _ (detOk_nxt E i c), det_step E i c hi x]
theorem detT_accepts (E : Ex) (x : List Nat) : (detT E).accepts x = true ↔ E.lang x := by
  show (detT E).acc ((detT E).read 0 x) = true ↔ _
  rw [det_read E x 0 (detOk_zero E)]
  simp [detS]
theorem detT_ok (E : Ex) (h : E.pds.length ≤ 5) : (detT E).Ok where
  lo := Nat.le_add_right 1 _
  hi := by
    show 1 + 2 ^ E.pds.length ≤ 40
    have := Nat.pow_le_pow_right (show 0 < 2 by omega) h
    omega
  nx i c _ _ := by
    have hl := List.idxOf_lt_length_of_mem (flN_mem (detF E i c) E.pds.length)
    rw [subsN_len] at hl
    show 1 + _ < 1 + 2 ^ E.pds.length
    omega
theorem mild_tab (p : Pat) (h : p.size ≤ 3) : ∃ M : Tab, M.Ok ∧ M.n ≤ 9 ∧ ∀ x, M.accepts x = true ↔ p.lang x := by
  have hl : p.ex.pds.length ≤ 3 := by rw [pds_length, p.ex_letters]; exact h
  refine ⟨detT p.ex, detT_ok _ (by omega), ?_, fun x => by rw [detT_accepts, p.ex_lang]⟩
  show 1 + 2 ^ p.ex.pds.length ≤ 9
  have := Nat.pow_le_pow_right (show 0 < 2 by omega) hl
  omega
end Go.Proofs.Ytpngikmcjkjdaab

namespace Go.Proofs.Ytpngikmcjkjdaab
set_option linter.unusedVariables false
set_option linter.unusedSimpArgs false
theorem cat_nl (l : List Nat → Prop) : Cat (fun x => x = []) l = l := funext fun x => propext (cat_nil_left x)
theorem copy_star {l : List Nat → Prop} {lo i : Nat} (h : ¬ i < lo) : Copy l lo i true = Star l := by funext x; simp [Copy, h]
theorem PatT.mono {A B : List Nat → Pat → Prop} (h : ∀ l p, A l p → B l p) {l : List Nat} {p : Pat} (hp : PatT A l p) : PatT B l p := by
  have hs : ∀ l p, SeqT A l p → SeqT B l p := fun l p ⟨its, h1, h2, h3⟩ => ⟨its, fun i hi => ⟨h _ _ (h1 i hi).1, (h1 i hi).2⟩, h2, h3⟩
  obtain ⟨x, xs, h1, h2, h3, h4⟩ := hp
  exact ⟨x, xs, hs _ _ h1, fun y hy => hs _ _ (h2 y hy), h3, h4⟩
theorem AtomT.zero {k : Nat} {l : List Nat} {p : Pat} (h : Atom0T l p) : AtomT k l p := by
  cases k
  · exact h
  · exact .inl h
theorem PatT.zero {k : Nat} {l : List Nat} {p : Pat} (h : PatT Atom0T l p) : PatT (AtomT k) l p := h.mono fun _ _ => AtomT.zero
theorem AtomT.par {k : Nat} {l : List Nat} {p : Pat} (h : PatT (AtomT k) l p) : AtomT (k + 1) (40 :: l ++ [41]) p := .inr ⟨l, rfl, h⟩
theorem PatT.items {A : List Nat → Pat → Prop} (its : List Itm) (h : ∀ i ∈ its, A i.la i.q ∧ i.m.ok) : PatT A (its.flatMap Itm.text) (chainL .none its) :=
  ⟨(its.flatMap Itm.text, chainL .none its), [], ⟨its, h, rfl, rfl⟩, by simp, by simp [barsL], rfl⟩
theorem PatT.one {A : List Nat → Pat → Prop} {la : List Nat} {q : Pat} (m : Mk) (h : A la q) (hm : m.ok) : PatT A (la ++ m.text) (.chain .none (m.app q)) := by
  have := PatT.items (A := A) [⟨la, q, m⟩] (by intro i hi; simp at hi; subst hi; exact ⟨h, hm⟩)
  simpa [Itm.text, chainL, Itm.pat] using this
theorem PatT.two {A : List Nat → Pat → Prop} {la lb : List Nat} {q r : Pat} (m n : Mk) (h : A la q) (hm : m.ok) (h' : A lb r) (hn : n.ok) : PatT A (la ++ m.text ++ (lb ++ n.text)) (.chain (.chain .none (m.app q)) (n.app r)) := by
  have := PatT.items (A := A) [⟨la, q, m⟩, ⟨lb, r, n⟩] (by
                                                                                          intro i hi
                                                                                          simp at hi
                                                                                          rcases hi with rfl | rfl
                                                                                          · exact ⟨h, hm⟩
                                                                                          · exact ⟨h', hn⟩)
  simpa [Itm.text, chainL, Itm.pat] using this
theorem PatT.bar {A : List Nat → Pat → Prop} {l l' : List Nat} {p p' : Pat} (h : PatT A l p) (h' : SeqT A l' p') : PatT A (l ++ 124 :: l') (.alt p p') := by
  obtain ⟨x, xs, h1, h2, rfl, rfl⟩ := h
  refine ⟨x, xs ++ [(l', p')], h1, fun y hy => ?_, ?_, ?_⟩
  · rcases List.mem_append.1 hy with hy | hy
    · exact h2 y hy
    · simp at hy; subst hy; exact h'
  · simp [barsL]
  · simp [altL]
theorem SeqT.one {A : List Nat → Pat → Prop} {la : List Nat} {q : Pat} (m : Mk) (h : A la q) (hm : m.ok) : SeqT A (la ++ m.text) (.chain .none (m.app q)) :=
  ⟨[⟨la, q, m⟩], by intro i hi; simp at hi; subst hi; exact ⟨h, hm⟩, by simp [Itm.text], rfl⟩
theorem SeqT.nil {A : List Nat → Pat → Prop} : SeqT A [] .none := ⟨[], by simp, rfl, rfl⟩
theorem SeqT.pat {A : List Nat → Pat → Prop} {l : List Nat} {p : Pat} (h : SeqT A l p) : PatT A l p := ⟨(l, p), [], h, by simp, by simp [barsL], rfl⟩
def Tells (t : List Nat) (L : List Nat → Prop) : Prop := ∃ p, PatT (AtomT 6) t p ∧ p.size ≤ 10 ∧ p.lang = L
section
variable {la : List Nat} {q : Pat}
theorem tells_item (h : AtomT 6 la q) (m : Mk) (hm : m.ok) (hz : (m.app q).size ≤ 10) : Tells (la ++ m.text) (m.app q).lang :=
  ⟨_, .one m h hm, by show 0 + _ ≤ 10; omega, cat_nl _⟩
theorem star_lang (q : Pat) : (Mk.star.app q).lang = Star q.lang := by show Cat _ _ = _; rw [copy_star (by decide)]; exact cat_nl _
end
end Go.Proofs.Ytpngikmcjkjdaab

namespace Go.Proofs.Ytpngikmcjkjdaab
set_option linter.unusedVariables false
def Eqv (M : Tab) (i j : Nat) : Prop := ∀ x, Notes x → M.acc (M.read i x) = M.acc (M.read j x)
theorem Eqv.refl (M : Tab) (i : Nat) : Eqv M i i := fun _ _ => rfl
theorem Eqv.symm {M : Tab} {i j : Nat} (h : Eqv M i j) : Eqv M j i := fun x hx => (h x hx).symm
theorem Eqv.trans {M : Tab} {i j k : Nat} (h : Eqv M i j) (h' : Eqv M j k) : Eqv M i k := fun x hx => (h x hx).trans (h' x hx)
theorem Eqv.nxt {M : Tab} {i j : Nat} (h : Eqv M i j) (c : Nat) (hc : c < 8) : Eqv M (M.nxt i c) (M.nxt j c) := fun x hx => h (c :: x) (by
  intro d hd
  simp only [List.mem_cons] at hd
  rcases hd with rfl | hd
  · exact hc
  · exact hx d hd)
theorem Eqv.acc {M : Tab} {i j : Nat} (h : Eqv M i j) : M.acc i = M.acc j := h [] (by intro d hd; simp at hd)
noncomputable def crTo (M : Tab) (s : Nat) : Nat → Nat
  | 0 => s
  | k + 1 => @ite _ (Eqv M (s - (k + 1)) s) (Classical.propDecidable _) (min (s - (k + 1)) (crTo M s k)) (crTo M s k)
noncomputable def cr (M : Tab) (s : Nat) : Nat := crTo M s s
theorem crTo_spec (M : Tab) (s : Nat) : ∀ k, k ≤ s → crTo M s k ≤ s ∧ Eqv M (crTo M s k) s ∧ ∀ t, s - k ≤ t → t ≤ s → Eqv M t s → crTo M s k ≤ t := by
  intro k
  induction k with
  | zero => intro _; exact ⟨Nat.le_refl _, Eqv.refl _ _, fun t h1 h2 _ => h1⟩
  | succ k ih =>
    intro hk
    obtain ⟨a, b, c⟩ := ih (by omega)
    simp only [crTo]
    by_cases e : Eqv M (s - (k + 1)) s
    · rw [if_pos e]
      refine ⟨by omega, ?_, fun t h1 h2 h3 => ?_⟩
      · by_cases h : s - (k + 1) ≤ crTo M s k
        · rw [Nat.min_eq_left h]; exact e
        · rw [Nat.min_eq_right (by omega)]; exact b
      · by_cases h : t = s - (k + 1)
        · subst h; exact Nat.min_le_left _ _
        · have := c t (by omega) h2 h3; exact Nat.le_trans (Nat.min_le_right _ _) this
    · rw [if_neg e]
      refine ⟨a, b, fun t h1 h2 h3 => ?_⟩
      by_cases h : t = s - (k + 1)
      · subst h; exact absurd h3 e
      · exact c t (by omega) h2 h3
theorem cr_le (M : Tab) (s : Nat) : cr M s ≤ s := (crTo_spec M s s (Nat.le_refl _)).1
theorem cr_eqv (M : Tab) (s : Nat) : Eqv M (cr M s) s := (crTo_spec M s s (Nat.le_refl _)).2.1
theorem cr_min (M : Tab) (s t : Nat) (h : t ≤ s) (he : Eqv M t s) : cr M s ≤ t := (crTo_spec M s s (Nat.le_refl _)).2.2 t (by omega) h he
theorem cr_of_eqv {M : Tab} {s t : Nat} (h : Eqv M s t) : cr M s = cr M t := by
  have h1 := cr_eqv M s
  have h2 := cr_eqv M t
  have l1 := cr_le M s
  have l2 := cr_le M t
  apply Nat.le_antisymm
  · by_cases hh : cr M t ≤ s
    · exact cr_min M s _ hh (h2.trans h.symm)
    · omega
  · by_cases hh : cr M s ≤ t
    · exact cr_min M t _ hh (h1.trans h)
    · omega
theorem cr_cr (M : Tab) (s : Nat) : cr M (cr M s) = cr M s := cr_of_eqv (cr_eqv M s)
noncomputable def crS (M : Tab) (q c : Nat) : Nat := cr M (M.nxt q c)
noncomputable def quotTab (M : Tab) (ps : List Nat) : Tab where
  n := ps.length
  acc k := M.acc (ps.getD k 0)
  nxt := pn (crS M) ps
def goodC (M : Tab) (q : Nat) : Prop := q < M.n ∧ cr M q = q
theorem quot_numbered {M : Tab} {ps : List Nat} (h : PRel (goodC M) (crS M) ps (8 * ps.length)) : Numbered (quotTab M ps) where
  pos := h.len
  nx i c hi hc := by
    have := (h.clo (8 * i + c) (by have : i < ps.length := hi; omega)).2
    rw [show (8 * i + c) / 8 = i by omega, show (8 * i + c) % 8 = c by omega] at this
    exact List.idxOf_lt_length_of_mem this
  step p hp := h.num p hp
  row i hi := h.row i (by have : i < ps.length := hi; omega)
  all := h.cm
theorem quot_read {M : Tab} {ps : List Nat} (h : PRel (goodC M) (crS M) ps (8 * ps.length)) (k : Nat) (hk : k < ps.length) (x : List Nat) (hx : Notes x) :
    (quotTab M ps).read k x < ps.length ∧ Eqv M (ps.getD ((quotTab M ps).read k x) 0) (M.read (ps.getD k 0) x) := by
  induction x generalizing k with
  | nil => exact ⟨hk, Eqv.refl _ _⟩
  | cons c x ih =>
    have hc : c < 8 := hx c (by simp)
    have hx' : Notes x := fun d hd => hx d (by simp [hd])
    have hcl := (h.clo (8 * k + c) (by omega)).2
    rw [show (8 * k + c) / 8 = k by omega, show (8 * k + c) % 8 = c by omega] at hcl
    have hlt : (quotTab M ps).nxt k c < ps.length := List.idxOf_lt_length_of_mem hcl
    have he : ps.getD ((quotTab M ps).nxt k c) 0 = crS M (ps.getD k 0) c := getD_idxOf ps _ hcl
    simp only [Tab.read, List.foldl_cons]
    have := ih _ hlt hx'
    rw [he] at this
    refine ⟨this.1, this.2.trans ?_⟩
    intro y hy
    have hq : Eqv M (crS M (ps.getD k 0) c) (M.nxt (ps.getD k 0) c) := cr_eqv M _
    have := hq (x ++ y) (by
      intro d hd
      simp only [List.mem_append] at hd
      rcases hd with hd | hd
      · exact hx' d hd
      · exact hy d hd)
    rw [Tab.read_append, Tab.read_append] at this
    exact this
theorem quot_least {M : Tab} {ps : List Nat} (h : PRel (goodC M) (crS M) ps (8 * ps.length)) : IsLeast (quotTab M ps) M.accepts where
  num := quot_numbered h
  apart i j hi hj hij := by
    have hi' : i < ps.length := hi
    have hj' : j < ps.length := hj
    have g1 := h.inr _ (getD_mem ps i hi')
    have g2 := h.inr _ (getD_mem ps j hj')
    have hne : ps.getD i 0 ≠ ps.getD j 0 := by
      intro e
      apply hij
      have hnd := h.nd
      rw [List.Nodup, List.pairwise_iff_getElem] at hnd
      rw [List.getD_eq_getElem?_getD, List.getElem?_eq_getElem hi', List.getD_eq_getElem?_getD, List.getElem?_eq_getElem hj'] at e
      simp only [Option.getD_some] at e
      rcases Nat.lt_trichotomy i j with hlt | heq | hlt
      · exact absurd e (hnd i j hi' hj' hlt)
      · exact heq
      · exact absurd e.symm (hnd j i hj' hi' hlt)
    have hap : ¬ Eqv M (ps.getD i 0) (ps.getD j 0) := by
      intro e
      have := cr_of_eqv e
      rw [g1.2, g2.2] at this
      exact hne this
    apply Classical.byContradiction
    intro hn
    apply hap
    intro x hx
    have r1 := (quot_read h i hi' x hx).2.acc
    have r2 := (quot_read h j hj' x hx).2.acc
    rw [← r1, ← r2]
    apply Classical.byContradiction
    intro hd
    exact hn ⟨x, hx, hd⟩
  lang x hx := by
    have := (quot_read h 0 h.len x hx).2.acc
    rw [h.hd] at this
    exact this
end Go.Proofs.Ytpngikmcjkjdaab

namespace Go.Proofs.Ytpngikmcjkjdaab
set_option linter.unusedVariables false
set_option linter.unusedSimpArgs false
theorem prel_bd {M : Tab} {S : Nat → Nat → Nat} {ps : List Nat} {p : Nat} (h : PRel (goodC M) S ps p) : ps.length ≤ M.n := nodup_bound M.n ps h.nd (fun x hx => (h.inr x hx).1)
theorem prel_all {M : Tab} (hnx : ∀ i c, i < M.n → c < 8 → M.nxt i c < M.n) : ∀ (k : Nat) (ps : List Nat) (p : Nat), PRel (goodC M) (crS M) ps p → p ≤ 8 * ps.length → 8 * M.n - p ≤ k → ∃ qs, PRel (goodC M) (crS M) qs (8 * qs.length) := by
  intro k
  induction k with
  | zero =>
    intro ps p h hp hk
    have := prel_bd h
    exact ⟨ps, by rw [show 8 * ps.length = p by omega]; exact h⟩
  | succ k ih =>
    intro ps p h hp hk
    by_cases he : p = 8 * ps.length
    · exact ⟨ps, by rw [← he]; exact h⟩
    · have hb := prel_bd h
      have hlt : p / 8 < ps.length := by omega
      by_cases hq : crS M (ps.getD (p / 8) 0) (p % 8) ∈ ps
      · exact ih ps (p + 1) (h.old hlt hq) (by omega) (by omega)
      · have hg := h.inr _ (getD_mem ps (p / 8) hlt)
        have hn := hnx (ps.getD (p / 8) 0) (p % 8) hg.1 (by omega)
        exact ih _ (p + 1) (h.new hlt hq ⟨by have := cr_le M (M.nxt (ps.getD (p / 8) 0) (p % 8)); show cr M _ < M.n; omega, cr_cr M _⟩) (by simp; omega) (by omega)
theorem least_ex {M : Tab} (hM : M.Ok) : ∃ R, IsLeast R M.accepts ∧ R.n ≤ M.n := by
  have l1 := hM.lo
  have hg0 : goodC M 0 := ⟨by omega, by have := cr_le M 0; omega⟩
  obtain ⟨qs, h⟩ := prel_all hM.nx (8 * M.n) [0] 0 (PRel.start hg0) (by simp) (by omega)
  exact ⟨quotTab M qs, quot_least h, prel_bd h⟩
theorem IsLeast.to {R : Tab} {L L' : List Nat → Bool} (h : IsLeast R L) (he : ∀ x, Notes x → L x = L' x) : IsLeast R L' := ⟨h.num, h.apart, fun x hx => (h.lang x hx).trans (he x hx)⟩
theorem least_of {M : Tab} {L : List Nat → Bool} (hM : M.Ok) (hL : ∀ x, Notes x → M.accepts x = L x) : ∃ R, IsLeast R L ∧ R.n ≤ M.n := by
  obtain ⟨R, h1, h2⟩ := least_ex hM
  exact ⟨R, h1.to hL, h2⟩
theorem IsLeast.isOk {R : Tab} {L : List Nat → Bool} (h : IsLeast R L) (hn : R.n ≤ 40) : R.Ok := ⟨h.num.pos, hn, h.num.nx⟩
end Go.Proofs.Ytpngikmcjkjdaab
