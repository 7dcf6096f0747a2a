import Derived.Deep.AppendLies
import Derived.Deep.RegionHeld3
import Derived.Test.YtpngikmcjkjdaabG1
import Derived.Test.YtpngikmcjkjdaabG12
import Derived.Test.YtpngikmcjkjdaabG2
import Derived.Test.YtpngikmcjkjdaabG3
import Derived.Test.YtpngikmcjkjdaabG5
import Derived.Test.YtpngikmcjkjdaabG6
set_option linter.unusedVariables false
set_option linter.unusedSimpArgs false
namespace Go.Proofs.Ytpngikmcjkjdaab
set_option linter.unusedVariables false
set_option linter.unusedSimpArgs false
def Rem (s : ByteArray) (a : Nat) (r : List Nat) : Prop := (txt s).drop a = r
section
variable {s : ByteArray}
theorem Rem.cons {a c : Nat} {r : List Nat} (h : Rem s a (c :: r)) : byteAt s a = c ∧ a < s.size ∧ Rem s (a + 1) r := by
  unfold Rem at h ⊢
  have hlt : a < s.size := by
    refine Classical.byContradiction fun hn => ?_
    rw [List.drop_of_length_le (by rw [txt_len]; omega)] at h
    simp at h
  have h2 : a < (txt s).length := by rw [txt_len]; exact hlt
  have h1 := txt_get hlt
  rw [List.getElem?_eq_getElem h2] at h1
  rw [List.drop_eq_getElem_cons h2, Option.some.inj h1] at h
  injection h with h3 h4
  exact ⟨h3, hlt, h4⟩
theorem Rem.nil {a : Nat} (h : Rem s a []) : s.size ≤ a := by
  unfold Rem at h
  have := congrArg List.length h
  rw [List.length_drop, txt_len] at this
  simp at this
  omega
theorem Rem.len {a : Nat} {r : List Nat} (h : Rem s a r) : r.length ≤ s.size := by
  unfold Rem at h
  rw [← h, List.length_drop, txt_len]
  omega
theorem Rem.sees {a c : Nat} {r : List Nat} (h : Rem s a (c :: r)) (b : Nat) : hit s a b = decide (c = b) := by
  obtain ⟨h1, h2, _⟩ := h.cons
  unfold byteAt at h1
  unfold hit
  rw [h1, decide_eq_true h2, Bool.true_and]
  rfl
theorem Rem.sees0 {a : Nat} (h : Rem s a []) (b : Nat) : hit s a b = false := by
  have := h.nil
  unfold hit
  rw [decide_eq_false (by omega), Bool.false_and]
theorem Rem.note {a c : Nat} {r : List Nat} (h : Rem s a (c :: r)) : noteHere s a = isNoteN c := by rw [note_eq, h.cons.1]
theorem Rem.digit {a c : Nat} {r : List Nat} (h : Rem s a (c :: r)) : digitHere s a = isDigitN c := by rw [digit_eq, h.cons.1]
theorem Rem.end0 {a : Nat} (h : Rem s a []) : endHere s a = true := by
  have := h.nil
  unfold endHere
  simp [this]
theorem Rem.end_ {a c : Nat} {r : List Nat} (h : Rem s a (c :: r)) : endHere s a = (c == 124 || c == 41) := by
  obtain ⟨h1, h2, _⟩ := h.cons
  unfold endHere
  rw [h1, decide_eq_false (by omega), Bool.false_or]
theorem isNote_of {f : Nat} (h : f < 8) : isNoteN (97 + f) = true := noteN_iff.2 (by omega)
theorem isDigit_of {f : Nat} (h : f ≤ 9) : isDigitN (48 + f) = true := digitN_iff.2 (by omega)
theorem spanF_id {pl f g : Nat} {t : Sp} (h : f ≤ g) : spanF pl f g t = t := by unfold spanF; rw [if_neg (by omega)]
theorem text_part {x : Prt} (hx : x.ok) {c : Nat} {r : List Nat} (hc : c ≠ 45) {t : Sp} (h : Rem s t.a (x.text ++ c :: r)) : ∃ t', partF s t = .ok (x.f, x.g) t' ∧ Rem s t'.a (c :: r) ∧ t'.bk = t.bk := by
  obtain ⟨f, g, dash⟩ := x
  obtain ⟨h1, h2, h3, h4⟩ := hx
  cases dash
  · have e : g = f := h3 rfl
    subst e
    have h' : Rem s t.a ((97 + g) :: c :: r) := h
    obtain ⟨b1, l1, r1⟩ := h'.cons
    refine ⟨t.go, ?_, r1, rfl⟩
    unfold partF
    rw [h'.note, isNote_of h1, r1.sees, b1, decide_eq_false hc]
    simp
  · have h' : Rem s t.a ((97 + f) :: 45 :: (97 + g) :: c :: r) := h
    obtain ⟨b1, l1, r1⟩ := h'.cons
    obtain ⟨b2, l2, r2⟩ := r1.cons
    obtain ⟨b3, l3, r3⟩ := r2.cons
    refine ⟨t.go.go.go, ?_, r3, rfl⟩
    unfold partF
    rw [h'.note, isNote_of h1, r1.sees, r2.note, isNote_of h2, b1, b3]
    simp
theorem part_head {x : Prt} (hx : x.ok) : ∃ c l, x.text = c :: l ∧ isNoteN c = true := by
  obtain ⟨f, g, dash⟩ := x
  cases dash
  · exact ⟨97 + f, [], rfl, isNote_of hx.1⟩
  · exact ⟨97 + f, [45, 97 + g], rfl, isNote_of hx.1⟩
theorem text_setLoop (ps : List Prt) : ∀ (n : Nat) (N : Nat → Bool) (t : Sp) (r : List Nat), ps ≠ [] → (∀ x ∈ ps, x.ok) → ps.length ≤ n → Rem s t.a (ps.flatMap Prt.text ++ 93 :: r) → ∃ t', setLoop s n N t = .ok (setN N ps) t' ∧ Rem s t'.a r ∧ t'.bk = t.bk := by
  induction ps with
  | nil => intro n N t r h; exact absurd rfl h
  | cons x ps ih =>
    intro n N t r _ hok hn h
    obtain ⟨n, rfl⟩ : ∃ m, n = m + 1 := ⟨n - 1, by simp at hn; omega⟩
    have hx := hok x (by simp)
    by_cases hps : ps = []
    · subst hps
      have h' : Rem s t.a (x.text ++ 93 :: r) := by simpa using h
      obtain ⟨t1, e1, r1, b1⟩ := text_part hx (by decide) h'
      obtain ⟨_, _, r2⟩ := r1.cons
      refine ⟨t1.go, ?_, r2, b1⟩
      simp only [setLoop]
      rw [e1]
      simp only
      rw [r1.sees, spanF_id hx.2.2.2]
      simp [setN]
    · obtain ⟨y, ps', rfl⟩ := List.exists_cons_of_ne_nil hps
      obtain ⟨c, l, hl, hc⟩ := part_head (hok y (by simp))
      have hc2 := noteN_iff.1 hc
      have h' : Rem s t.a (x.text ++ c :: (l ++ (ps'.flatMap Prt.text ++ 93 :: r))) := by
        have e : (x :: y :: ps').flatMap Prt.text ++ 93 :: r = x.text ++ c :: (l ++ (ps'.flatMap Prt.text ++ 93 :: r)) := by simp [hl]
        rw [← e]; exact h
      obtain ⟨t1, e1, r1, b1⟩ := text_part hx (by omega) h'
      have r1' : Rem s t1.a ((y :: ps').flatMap Prt.text ++ 93 :: r) := by
        have e : (y :: ps').flatMap Prt.text ++ 93 :: r = c :: (l ++ (ps'.flatMap Prt.text ++ 93 :: r)) := by simp [hl]
        rw [e]; exact r1
      obtain ⟨t2, e2, r2, b2⟩ := ih n (addSpan N x.f x.g) t1 r (by simp) (fun z hz => hok z (by simp [hz])) (by simp at hn ⊢; omega) r1'
      refine ⟨t2, ?_, r2, b2.trans b1⟩
      simp only [setLoop]
      rw [e1]
      simp only
      rw [r1.sees, spanF_id hx.2.2.2, decide_eq_false (by omega)]
      simp only [Bool.false_eq_true, if_false]
      exact e2
theorem parts_len (ps : List Prt) : ps.length ≤ (ps.flatMap Prt.text).length := by
  induction ps with
  | nil => simp
  | cons x ps ih =>
    have : 1 ≤ x.text.length := by unfold Prt.text; split <;> simp
    simp only [List.flatMap_cons, List.length_cons, List.length_append]
    omega
def Opens (c : Nat) : Prop := isNoteN c = true ∨ c = 46 ∨ c = 91 ∨ c = 40
def Knows (s : ByteArray) (A : List Nat → Pat → Prop) (atom : Sp → Res Pat) : Prop :=
  (∀ l p, A l p → ∃ c l', l = c :: l' ∧ Opens c) ∧ ∀ l p r t, A l p → t.bk = false → Rem s t.a (l ++ r) → ∃ t', atom t = .ok p t' ∧ Rem s t'.a r ∧ t'.bk = false
theorem atom0_opens {l : List Nat} {p : Pat} (h : Atom0T l p) : ∃ c l', l = c :: l' ∧ Opens c ∧ c ≠ 40 := by
  rcases h with ⟨c, hc, rfl, _⟩ | ⟨rfl, _⟩ | ⟨ps, _, _, ⟨rfl, _⟩ | ⟨rfl, _⟩⟩
  · exact ⟨_, _, rfl, .inl (isNote_of hc), by omega⟩
  · exact ⟨_, _, rfl, .inr (.inl rfl), by omega⟩
  · exact ⟨_, _, rfl, .inr (.inr (.inl rfl)), by omega⟩
  · exact ⟨_, _, rfl, .inr (.inr (.inl rfl)), by omega⟩
theorem text_atom0 {l : List Nat} {p : Pat} {r : List Nat} {t : Sp} (h : Atom0T l p) (hb : t.bk = false) (hr : Rem s t.a (l ++ r)) : ∃ t', atom0 s t = .ok p t' ∧ Rem s t'.a r ∧ t'.bk = false := by
  rcases h with ⟨c, hc, rfl, rfl⟩ | ⟨rfl, rfl⟩ | ⟨ps, hne, hok, ⟨rfl, rfl⟩ | ⟨rfl, rfl⟩⟩
  · have h' : Rem s t.a ((97 + c) :: r) := hr
    obtain ⟨b1, l1, r1⟩ := h'.cons
    refine ⟨t.go, ?_, r1, hb⟩
    unfold atom0
    rw [h'.sees, h'.sees, h'.note, isNote_of hc, b1, decide_eq_false (by omega), decide_eq_false (by omega)]
    simp
  · have h' : Rem s t.a (46 :: r) := hr
    obtain ⟨b1, l1, r1⟩ := h'.cons
    refine ⟨t.go, ?_, r1, hb⟩
    unfold atom0
    rw [h'.sees, h'.sees]
    simp
  · have h' : Rem s t.a (91 :: (ps.flatMap Prt.text ++ 93 :: r)) := by simpa using hr
    obtain ⟨b1, l1, r1⟩ := h'.cons
    have hln := r1.len
    have hpl := parts_len ps
    simp only [List.length_append, List.length_cons] at hln
    obtain ⟨t1, e1, r2, b2⟩ := text_setLoop ps (s.size + 1) (fun _ => false) t.go r hne hok (by omega) r1
    refine ⟨t1, ?_, r2, b2.trans hb⟩
    obtain ⟨y, ps', rfl⟩ := List.exists_cons_of_ne_nil hne
    obtain ⟨c, l, hl, hc⟩ := part_head (hok y (by simp))
    have hc2 := noteN_iff.1 hc
    have r1' : Rem s t.go.a (c :: (l ++ (ps'.flatMap Prt.text ++ 93 :: r))) := by
      have e : (y :: ps').flatMap Prt.text ++ 93 :: r = c :: (l ++ (ps'.flatMap Prt.text ++ 93 :: r)) := by simp [hl]
      rw [← e]; exact r1
    unfold atom0 setF
    rw [h'.sees, r1'.sees, decide_eq_false (show ¬ c = 94 by omega), e1]
    simp
  · have h' : Rem s t.a (91 :: 94 :: (ps.flatMap Prt.text ++ 93 :: r)) := by simpa using hr
    obtain ⟨b1, l1, r1⟩ := h'.cons
    obtain ⟨b2, l2, r2⟩ := r1.cons
    have hln := r2.len
    have hpl := parts_len ps
    simp only [List.length_append, List.length_cons] at hln
    obtain ⟨t1, e1, r3, b3⟩ := text_setLoop ps (s.size + 1) (fun _ => false) t.go.go r hne hok (by omega) r2
    refine ⟨t1, ?_, r3, b3.trans hb⟩
    have r1' : Rem s t.go.a (94 :: (ps.flatMap Prt.text ++ 93 :: r)) := r1
    unfold atom0 setF
    rw [h'.sees, r1'.sees, e1]
    simp
def NoMk (r : List Nat) : Prop := ∀ c r', r = c :: r' → c ≠ 42 ∧ c ≠ 43 ∧ c ≠ 63 ∧ c ≠ 123
theorem count_just {u : Sp} {n : Nat} {r : List Nat} (hn : n ≤ 9) (h : Rem s u.a ((48 + n) :: 125 :: r)) : countF s u = .ok (n, n, false) u.go.go ∧ Rem s u.go.go.a r := by
  obtain ⟨c2, _, r3⟩ := h.cons
  obtain ⟨_, _, r4⟩ := r3.cons
  refine ⟨?_, r4⟩
  unfold countF
  rw [h.digit, isDigit_of hn, r3.sees, c2]
  simp
theorem count_more {u : Sp} {n : Nat} {r : List Nat} (hn : n ≤ 9) (h : Rem s u.a ((48 + n) :: 44 :: 125 :: r)) : countF s u = .ok (n, n + 1, true) u.go.go.go ∧ Rem s u.go.go.go.a r := by
  obtain ⟨c2, _, r3⟩ := h.cons
  obtain ⟨_, _, r4⟩ := r3.cons
  obtain ⟨_, _, r5⟩ := r4.cons
  refine ⟨?_, r5⟩
  unfold countF
  rw [h.digit, isDigit_of hn, r3.sees, r3.sees, r4.sees, c2]
  simp
theorem count_span {u : Sp} {n k : Nat} {r : List Nat} (hn : n ≤ k ∧ k ≤ 9) (h : Rem s u.a ((48 + n) :: 44 :: (48 + k) :: 125 :: r)) : countF s u = .ok (n, k, false) u.go.go.go.go ∧ Rem s u.go.go.go.go.a r := by
  obtain ⟨c2, _, r3⟩ := h.cons
  obtain ⟨_, _, r4⟩ := r3.cons
  obtain ⟨c4, _, r5⟩ := r4.cons
  obtain ⟨_, _, r6⟩ := r5.cons
  refine ⟨?_, r6⟩
  unfold countF
  rw [h.digit, isDigit_of (by omega), r3.sees, r3.sees, r4.sees, r4.digit, isDigit_of hn.2, r5.sees, c2, c4, Nat.add_sub_cancel_left, Nat.add_sub_cancel_left, spanF_id hn.1, decide_eq_false (show ¬ 48 + k = 125 by omega)]
  simp
theorem text_item {A : List Nat → Pat → Prop} {atom : Sp → Res Pat} (ha : Knows s A atom) {i : Itm} (hA : A i.la i.q) (hm : i.m.ok) {r : List Nat} (hr : NoMk r) {t : Sp} (hb : t.bk = false) (h : Rem s t.a (i.text ++ r)) :
    ∃ t', itemF s atom t = .ok i.pat t' ∧ Rem s t'.a r ∧ t'.bk = false := by
  obtain ⟨la, q, m⟩ := i
  have h' : Rem s t.a (la ++ (m.text ++ r)) := by rw [← List.append_assoc]; exact h
  obtain ⟨t1, e1, r1, b1⟩ := ha.2 la q (m.text ++ r) t hA hb h'
  unfold itemF Itm.pat
  rw [e1]
  cases m with
  | none =>
    have r1' : Rem s t1.a r := r1
    refine ⟨t1, ?_, r1', b1⟩
    cases r with
    | nil => simp [r1'.sees0, Mk.app]
    | cons c r =>
      obtain ⟨n1, n2, n3, n4⟩ := hr c r rfl
      simp [r1'.sees, Mk.app, n1, n2, n3, n4]
  | star =>
    have r1' : Rem s t1.a (42 :: r) := r1
    obtain ⟨_, _, r2⟩ := r1'.cons
    exact ⟨t1.go, by simp [r1'.sees, Mk.app], r2, b1⟩
  | plus =>
    have r1' : Rem s t1.a (43 :: r) := r1
    obtain ⟨_, _, r2⟩ := r1'.cons
    exact ⟨t1.go, by simp [r1'.sees, Mk.app], r2, b1⟩
  | opt =>
    have r1' : Rem s t1.a (63 :: r) := r1
    obtain ⟨_, _, r2⟩ := r1'.cons
    exact ⟨t1.go, by simp [r1'.sees, Mk.app], r2, b1⟩
  | just n =>
    have r1' : Rem s t1.a (123 :: (48 + n) :: 125 :: r) := r1
    obtain ⟨_, _, r2⟩ := r1'.cons
    obtain ⟨e2, r4⟩ := count_just (u := t1.go) hm r2
    exact ⟨t1.go.go.go, by simp [r1'.sees, Mk.app, e2], r4, b1⟩
  | more n =>
    have r1' : Rem s t1.a (123 :: (48 + n) :: 44 :: 125 :: r) := r1
    obtain ⟨_, _, r2⟩ := r1'.cons
    obtain ⟨e2, r4⟩ := count_more (u := t1.go) hm r2
    exact ⟨t1.go.go.go.go, by simp [r1'.sees, Mk.app, e2], r4, b1⟩
  | span n k =>
    have r1' : Rem s t1.a (123 :: (48 + n) :: 44 :: (48 + k) :: 125 :: r) := r1
    obtain ⟨_, _, r2⟩ := r1'.cons
    obtain ⟨e2, r4⟩ := count_span (u := t1.go) hm r2
    exact ⟨t1.go.go.go.go.go, by simp [r1'.sees, Mk.app, e2], r4, b1⟩
theorem opens_no {c : Nat} (h : Opens c) : c ≠ 42 ∧ c ≠ 43 ∧ c ≠ 63 ∧ c ≠ 123 ∧ c ≠ 124 ∧ c ≠ 41 := by
  rcases h with h | h | h | h
  · have := noteN_iff.1 h; omega
  all_goals omega
def Ends (r : List Nat) : Prop := ∀ c r', r = c :: r' → c = 124 ∨ c = 41
theorem text_seq {A : List Nat → Pat → Prop} {atom : Sp → Res Pat} (ha : Knows s A atom) (its : List Itm) : ∀ (n : Nat) (p : Pat) (t : Sp) (r : List Nat), (∀ i ∈ its, A i.la i.q ∧ i.m.ok) → its.length < n → Ends r → t.bk = false → Rem s t.a (its.flatMap Itm.text ++ r) →
    ∃ t', seqF s atom n p t = .ok (chainL p its) t' ∧ Rem s t'.a r ∧ t'.bk = false := by
  induction its with
  | nil =>
    intro n p t r _ hn he hb h
    obtain ⟨n, rfl⟩ : ∃ m, n = m + 1 := ⟨n - 1, by omega⟩
    have h' : Rem s t.a r := h
    refine ⟨t, ?_, h', hb⟩
    simp only [seqF]
    have : endHere s t.a = true := by
      cases r with
      | nil => exact h'.end0
      | cons c r =>
        rw [h'.end_]
        rcases he c r rfl with rfl | rfl <;> rfl
    rw [this]
    simp [chainL]
  | cons i its ih =>
    intro n p t r hok hn he hb h
    obtain ⟨n, rfl⟩ : ∃ m, n = m + 1 := ⟨n - 1, by simp at hn; omega⟩
    obtain ⟨hA, hm⟩ := hok i (by simp)
    obtain ⟨c, l', hl, hc⟩ := ha.1 _ _ hA
    have hno := opens_no hc
    have h' : Rem s t.a (i.text ++ (its.flatMap Itm.text ++ r)) := by simpa using h
    have hmk : NoMk (its.flatMap Itm.text ++ r) := by
      intro c' r' e
      cases its with
      | nil =>
        rcases he c' r' e with rfl | rfl <;> decide
      | cons j its =>
        obtain ⟨c2, l2, hl2, hc2⟩ := ha.1 _ _ (hok j (by simp)).1
        have hno2 := opens_no hc2
        simp only [List.flatMap_cons, Itm.text, hl2, List.cons_append] at e
        injection e with e1 _
        subst e1
        exact ⟨hno2.1, hno2.2.1, hno2.2.2.1, hno2.2.2.2.1⟩
    obtain ⟨t1, e1, r1, b1⟩ := text_item ha hA hm hmk hb h'
    obtain ⟨t2, e2, r2, b2⟩ := ih n (.chain p i.pat) t1 r (fun j hj => hok j (by simp [hj])) (by simp at hn; omega) he b1 r1
    refine ⟨t2, ?_, r2, b2⟩
    simp only [seqF]
    have : endHere s t.a = false := by
      have h3 : Rem s t.a (c :: (l' ++ (i.m.text ++ (its.flatMap Itm.text ++ r)))) := by
        simpa [Itm.text, hl] using h'
      rw [h3.end_]
      simp [hno.2.2.2.2.1, hno.2.2.2.2.2]
    rw [this, e1]
    simpa [chainL] using e2
theorem items_len {A : List Nat → Pat → Prop} {atom : Sp → Res Pat} (ha : Knows s A atom) (its : List Itm) (hok : ∀ i ∈ its, A i.la i.q ∧ i.m.ok) : its.length ≤ (its.flatMap Itm.text).length := by
  induction its with
  | nil => simp
  | cons i its ih =>
    obtain ⟨c, l', hl, _⟩ := ha.1 _ _ (hok i (by simp)).1
    have := ih (fun j hj => hok j (by simp [hj]))
    simp only [List.flatMap_cons, List.length_cons, List.length_append, Itm.text, hl]
    omega
def Shuts (r : List Nat) : Prop := ∀ c r', r = c :: r' → c = 41
theorem text_seqT {A : List Nat → Pat → Prop} {atom : Sp → Res Pat} (ha : Knows s A atom) {l : List Nat} {p : Pat} (h : SeqT A l p) {r : List Nat} (he : Ends r) {t : Sp} (hb : t.bk = false) (hr : Rem s t.a (l ++ r)) :
    ∃ t', seqF s atom (s.size + 1) .none t = .ok p t' ∧ Rem s t'.a r ∧ t'.bk = false := by
  obtain ⟨its, hok, rfl, rfl⟩ := h
  have h1 := hr.len
  have h2 := items_len ha its hok
  rw [List.length_append] at h1
  exact text_seq ha its (s.size + 1) .none t r hok (by omega) he hb hr
theorem text_patLoop {A : List Nat → Pat → Prop} {atom : Sp → Res Pat} (ha : Knows s A atom) (xs : List (List Nat × Pat)) : ∀ (n : Nat) (p : Pat) (t : Sp) (r : List Nat), (∀ y ∈ xs, SeqT A y.1 y.2) → xs.length < n → Shuts r → t.bk = false → Rem s t.a (barsL xs ++ r) →
    ∃ t', patLoop s atom n p t = .ok (altL p xs) t' ∧ Rem s t'.a r ∧ t'.bk = false := by
  induction xs with
  | nil =>
    intro n p t r _ hn he hb h
    obtain ⟨n, rfl⟩ : ∃ m, n = m + 1 := ⟨n - 1, by omega⟩
    have h' : Rem s t.a r := h
    refine ⟨t, ?_, h', hb⟩
    simp only [patLoop]
    have : hit s t.a 124 = false := by
      cases r with
      | nil => exact h'.sees0 _
      | cons c r =>
        rw [h'.sees, he c r rfl]; rfl
    rw [this]
    simp [altL]
  | cons y xs ih =>
    intro n p t r hok hn he hb h
    obtain ⟨n, rfl⟩ : ∃ m, n = m + 1 := ⟨n - 1, by simp at hn; omega⟩
    have h' : Rem s t.a (124 :: (y.1 ++ (barsL xs ++ r))) := by simpa [barsL] using h
    obtain ⟨_, _, r1⟩ := h'.cons
    have hen : Ends (barsL xs ++ r) := by
      intro c r' e
      cases xs with
      | nil => exact .inr (he c r' e)
      | cons z xs =>
        simp only [barsL, List.flatMap_cons, List.cons_append] at e
        injection e with e1 _
        exact .inl e1.symm
    obtain ⟨t1, e1, r2, b2⟩ := text_seqT ha (hok y (by simp)) hen (t := t.go) hb r1
    obtain ⟨t2, e2, r3, b3⟩ := ih n (.alt p y.2) t1 r (fun z hz => hok z (by simp [hz])) (by simp at hn; omega) he b2 r2
    refine ⟨t2, ?_, r3, b3⟩
    simp only [patLoop]
    rw [h'.sees, e1]
    simpa [altL] using e2
theorem bars_len (xs : List (List Nat × Pat)) : xs.length ≤ (barsL xs).length := by
  induction xs with
  | nil => simp
  | cons y xs ih =>
    unfold barsL at ih ⊢
    simp only [List.flatMap_cons, List.length_cons, List.length_append]
    omega
theorem text_pat {A : List Nat → Pat → Prop} {atom : Sp → Res Pat} (ha : Knows s A atom) {l : List Nat} {p : Pat} (h : PatT A l p) {r : List Nat} (he : Shuts r) {t : Sp} (hb : t.bk = false) (hr : Rem s t.a (l ++ r)) :
    ∃ t', patF s atom t = .ok p t' ∧ Rem s t'.a r ∧ t'.bk = false := by
  obtain ⟨x, xs, hx, hxs, rfl, rfl⟩ := h
  have hen : Ends (barsL xs ++ r) := by
    intro c r' e
    cases xs with
    | nil => exact .inr (he c r' e)
    | cons z xs =>
      simp only [barsL, List.flatMap_cons, List.cons_append] at e
      injection e with e1 _
      exact .inl e1.symm
  have hr' : Rem s t.a (x.1 ++ (barsL xs ++ r)) := by simpa using hr
  have h1 := hr'.len
  have h2 := bars_len xs
  simp only [List.length_append] at h1
  obtain ⟨t1, e1, r1, b1⟩ := text_seqT ha hx hen hb hr'
  obtain ⟨t2, e2, r2, b2⟩ := text_patLoop ha xs (s.size + 1) x.2 t1 r hxs (by omega) he b1 r1
  refine ⟨t2, ?_, r2, b2⟩
  unfold patF
  rw [e1]
  exact e2
theorem atom_knows (s : ByteArray) (k : Nat) : Knows s (AtomT k) (atomF s k) := by
  induction k with
  | zero => exact ⟨fun l p h => by obtain ⟨c, l', h1, h2, _⟩ := atom0_opens h; exact ⟨c, l', h1, h2⟩, fun l p r t h hb hr => text_atom0 h hb hr⟩
  | succ k ih =>
    refine ⟨fun l p h => ?_, fun l p r t h hb hr => ?_⟩
    · rcases h with h | ⟨l', rfl, _⟩
      · obtain ⟨c, l', h1, h2, _⟩ := atom0_opens h
        exact ⟨c, l', h1, h2⟩
      · exact ⟨40, _, rfl, .inr (.inr (.inr rfl))⟩
    · simp only [atomF]
      rcases h with h | ⟨l', rfl, h⟩
      · obtain ⟨c, l', rfl, _, h3⟩ := atom0_opens h
        have hr' : Rem s t.a (c :: (l' ++ r)) := hr
        rw [hr'.sees, decide_eq_false h3]
        simpa using text_atom0 h hb hr
      · have hr' : Rem s t.a (40 :: (l' ++ 41 :: r)) := by simpa using hr
        obtain ⟨_, _, r1⟩ := hr'.cons
        obtain ⟨t1, e1, r2, b2⟩ := text_pat ih h (r := 41 :: r) (fun c r' e => by injection e with e1 _; exact e1.symm) (t := t.go) hb r1
        obtain ⟨_, _, r3⟩ := r2.cons
        refine ⟨t1.go, ?_, r3, b2⟩
        rw [hr'.sees, e1]
        simp [r2.sees]
theorem text_parse {p : Pat} (h : PatT (AtomT 6) (txt s) p) : ∃ t, parseF s = .ok p t ∧ t.a = s.size ∧ t.bk = false := by
  obtain ⟨t, e, r, b⟩ := text_pat (atom_knows s 6) h (r := []) (fun c r' e => by simp at e) (t := ⟨0, false, 0⟩) rfl (by unfold Rem; simp)
  have h1 := r.nil
  have h2 := (patF_goes (atomF_goes 6) (by simp) e)
  exact ⟨t, e, by omega, b⟩
end
end Go.Proofs.Ytpngikmcjkjdaab

namespace Go.Proofs.Ytpngikmcjkjdaab
set_option linter.unusedVariables false
set_option linter.unusedSimpArgs false
def inits (x : List Nat) : List (List Nat) := (List.range (x.length + 1)).map fun k => x.take k
def trieP (ws : List (List Nat)) : List (List Nat) := [] :: ws.flatMap inits
noncomputable def trieT (ws : List (List Nat)) : Tab where
  n := (trieP ws).length + 1
  acc i := if i < (trieP ws).length then ws.contains ((trieP ws).getD i []) else false
  nxt i c := if i < (trieP ws).length then (trieP ws).idxOf ((trieP ws).getD i [] ++ [c]) else i
theorem mem_inits {x y : List Nat} : y ∈ inits x ↔ ∃ z, x = y ++ z := by
  unfold inits
  rw [List.mem_map]
  constructor
  · rintro ⟨k, _, rfl⟩
    exact ⟨x.drop k, (List.take_append_drop k x).symm⟩
  · rintro ⟨z, rfl⟩
    exact ⟨y.length, by simp [List.mem_range]; omega, by simp⟩
theorem mem_trieP {ws : List (List Nat)} {y : List Nat} : y ∈ trieP ws ↔ y = [] ∨ ∃ w ∈ ws, ∃ z, w = y ++ z := by
  unfold trieP
  rw [List.mem_cons, List.mem_flatMap]
  simp only [mem_inits]
theorem trie_dead (ws : List (List Nat)) (x : List Nat) : (trieT ws).read (trieP ws).length x = (trieP ws).length := by
  induction x with
  | nil => rfl
  | cons c x ih =>
    show (trieT ws).read ((trieT ws).nxt (trieP ws).length c) x = _
    have : (trieT ws).nxt (trieP ws).length c = (trieP ws).length := by
      show (if (trieP ws).length < (trieP ws).length then _ else _) = _
      rw [if_neg (by omega)]
    rw [this, ih]
theorem trie_read (ws : List (List Nat)) (x : List Nat) : ∀ i, i < (trieP ws).length → ((trieT ws).acc ((trieT ws).read i x) = true ↔ (trieP ws).getD i [] ++ x ∈ ws) := by
  induction x with
  | nil =>
    intro i hi
    show (if i < (trieP ws).length then _ else _) = true ↔ _
    rw [if_pos hi, List.append_nil]
    show ws.contains ((trieP ws).getD i []) = true ↔ _
    simp
  | cons c x ih =>
    intro i hi
    have hn : (trieT ws).nxt i c = (trieP ws).idxOf ((trieP ws).getD i [] ++ [c]) := by
      show (if i < (trieP ws).length then _ else _) = _
      rw [if_pos hi]
    show (trieT ws).acc ((trieT ws).read ((trieT ws).nxt i c) x) = true ↔ _
    by_cases hm : (trieP ws).getD i [] ++ [c] ∈ trieP ws
    · have hl := List.idxOf_lt_length_of_mem hm
      rw [hn, ih _ hl, List.getD_eq_getElem?_getD, List.getElem?_eq_getElem hl, List.getElem_idxOf hl]
      simp
    · have e : (trieP ws).idxOf ((trieP ws).getD i [] ++ [c]) = (trieP ws).length := List.idxOf_eq_length hm
      rw [hn, e, trie_dead]
      constructor
      · intro h
        have : (trieT ws).acc (trieP ws).length = false := by
          show (if (trieP ws).length < (trieP ws).length then _ else _) = false
          rw [if_neg (by omega)]
        rw [this] at h; cases h
      · intro h
        exact absurd (mem_trieP.2 (.inr ⟨_, h, x, by simp⟩)) hm
theorem trieT_accepts (ws : List (List Nat)) (x : List Nat) : (trieT ws).accepts x = true ↔ x ∈ ws := by
  have := trie_read ws x 0 (by simp [trieP])
  show (trieT ws).acc ((trieT ws).read 0 x) = true ↔ _
  rw [this]
  simp [trieP]
theorem trieT_ok (ws : List (List Nat)) (h : (trieP ws).length < 40) : (trieT ws).Ok where
  lo := by show 1 ≤ _ + 1; omega
  hi := h
  nx i c hi _ := by
    show (if i < (trieP ws).length then _ else _) < (trieP ws).length + 1
    split
    · have := List.idxOf_le_length (l := trieP ws) (a := (trieP ws).getD i [] ++ [c])
      omega
    · exact hi
end Go.Proofs.Ytpngikmcjkjdaab

namespace Go.Proofs.Ytpngikmcjkjdaab
set_option linter.unusedVariables false
def Eqv (M : Tab) (i j : Nat) : Prop := ∀ x, Notes x → M.acc (M.read i x) = M.acc (M.read j x)
theorem Eqv.refl (M : Tab) (i : Nat) : Eqv M i i := fun _ _ => rfl
theorem Eqv.symm {M : Tab} {i j : Nat} (h : Eqv M i j) : Eqv M j i := fun x hx => (h x hx).symm
theorem Eqv.trans {M : Tab} {i j k : Nat} (h : Eqv M i j) (h' : Eqv M j k) : Eqv M i k := fun x hx => (h x hx).trans (h' x hx)
theorem Eqv.nxt {M : Tab} {i j : Nat} (h : Eqv M i j) (c : Nat) (hc : c < 8) : Eqv M (M.nxt i c) (M.nxt j c) := fun x hx => h (c :: x) (by
  intro d hd
  simp only [List.mem_cons] at hd
  rcases hd with rfl | hd
  · exact hc
  · exact hx d hd)
theorem Eqv.acc {M : Tab} {i j : Nat} (h : Eqv M i j) : M.acc i = M.acc j := h [] (by intro d hd; simp at hd)
noncomputable def crTo (M : Tab) (s : Nat) : Nat → Nat
  | 0 => s
  | k + 1 => @ite _ (Eqv M (s - (k + 1)) s) (Classical.propDecidable _) (min (s - (k + 1)) (crTo M s k)) (crTo M s k)
noncomputable def cr (M : Tab) (s : Nat) : Nat := crTo M s s
theorem crTo_spec (M : Tab) (s : Nat) : ∀ k, k ≤ s → crTo M s k ≤ s ∧ Eqv M (crTo M s k) s ∧ ∀ t, s - k ≤ t → t ≤ s → Eqv M t s → crTo M s k ≤ t := by
  intro k
  induction k with
  | zero => intro _; exact ⟨Nat.le_refl _, Eqv.refl _ _, fun t h1 h2 _ => h1⟩
  | succ k ih =>
    intro hk
    obtain ⟨a, b, c⟩ := ih (by omega)
    simp only [crTo]
    by_cases e : Eqv M (s - (k + 1)) s
    · rw [if_pos e]
      refine ⟨by omega, ?_, fun t h1 h2 h3 => ?_⟩
      · by_cases h : s - (k + 1) ≤ crTo M s k
        · rw [Nat.min_eq_left h]; exact e
        · rw [Nat.min_eq_right (by omega)]; exact b
      · by_cases h : t = s - (k + 1)
        · subst h; exact Nat.min_le_left _ _
        · have := c t (by omega) h2 h3; exact Nat.le_trans (Nat.min_le_right _ _) this
    · rw [if_neg e]
      refine ⟨a, b, fun t h1 h2 h3 => ?_⟩
      by_cases h : t = s - (k + 1)
      · subst h; exact absurd h3 e
      · exact c t (by omega) h2 h3
theorem cr_le (M : Tab) (s : Nat) : cr M s ≤ s := (crTo_spec M s s (Nat.le_refl _)).1
theorem cr_eqv (M : Tab) (s : Nat) : Eqv M (cr M s) s := (crTo_spec M s s (Nat.le_refl _)).2.1
theorem cr_min (M : Tab) (s t : Nat) (h : t ≤ s) (he : Eqv M t s) : cr M s ≤ t := (crTo_spec M s s (Nat.le_refl _)).2.2 t (by omega) h he
theorem cr_of_eqv {M : Tab} {s t : Nat} (h : Eqv M s t) : cr M s = cr M t := by
  have h1 := cr_eqv M s
  have h2 := cr_eqv M t
  have l1 := cr_le M s
  have l2 := cr_le M t
  apply Nat.le_antisymm
  · by_cases hh : cr M t ≤ s
    · exact cr_min M s _ hh (h2.trans h.symm)
    · omega
  · by_cases hh : cr M s ≤ t
    · exact cr_min M t _ hh (h1.trans h)
    · omega
theorem cr_cr (M : Tab) (s : Nat) : cr M (cr M s) = cr M s := cr_of_eqv (cr_eqv M s)
noncomputable def crS (M : Tab) (q c : Nat) : Nat := cr M (M.nxt q c)
noncomputable def quotTab (M : Tab) (ps : List Nat) : Tab where
  n := ps.length
  acc k := M.acc (ps.getD k 0)
  nxt := pn (crS M) ps
def goodC (M : Tab) (q : Nat) : Prop := q < M.n ∧ cr M q = q
theorem quot_numbered {M : Tab} {ps : List Nat} (h : PRel (goodC M) (crS M) ps (8 * ps.length)) : Numbered (quotTab M ps) where
  pos := h.len
  nx i c hi hc := by
    have := (h.clo (8 * i + c) (by have : i < ps.length := hi; omega)).2
    rw [show (8 * i + c) / 8 = i by omega, show (8 * i + c) % 8 = c by omega] at this
    exact List.idxOf_lt_length_of_mem this
  step p hp := h.num p hp
  row i hi := h.row i (by have : i < ps.length := hi; omega)
  all := h.cm
theorem quot_read {M : Tab} {ps : List Nat} (h : PRel (goodC M) (crS M) ps (8 * ps.length)) (k : Nat) (hk : k < ps.length) (x : List Nat) (hx : Notes x) :
    (quotTab M ps).read k x < ps.length ∧ Eqv M (ps.getD ((quotTab M ps).read k x) 0) (M.read (ps.getD k 0) x) := by
  induction x generalizing k with
  | nil => exact ⟨hk, Eqv.refl _ _⟩
  | cons c x ih =>
    have hc : c < 8 := hx c (by simp)
    have hx' : Notes x := fun d hd => hx d (by simp [hd])
    have hcl := (h.clo (8 * k + c) (by omega)).2
    rw [show (8 * k + c) / 8 = k by omega, show (8 * k + c) % 8 = c by omega] at hcl
    have hlt : (quotTab M ps).nxt k c < ps.length := List.idxOf_lt_length_of_mem hcl
    have he : ps.getD ((quotTab M ps).nxt k c) 0 = crS M (ps.getD k 0) c := getD_idxOf ps _ hcl
    simp only [Tab.read, List.foldl_cons]
    have := ih _ hlt hx'
    rw [he] at this
    refine ⟨this.1, this.2.trans ?_⟩
    intro y hy
    have hq : Eqv M (crS M (ps.getD k 0) c) (M.nxt (ps.getD k 0) c) := cr_eqv M _
    have := hq (x ++ y) (by
      intro d hd
      simp only [List.mem_append] at hd
      rcases hd with hd | hd
      · exact hx' d hd
      · exact hy d hd)
    rw [Tab.read_append, Tab.read_append] at this
    exact this
theorem quot_least {M : Tab} {ps : List Nat} (h : PRel (goodC M) (crS M) ps (8 * ps.length)) : IsLeast (quotTab M ps) M.accepts where
  num := quot_numbered h
  apart i j hi hj hij := by
    have hi' : i < ps.length := hi
    have hj' : j < ps.length := hj
    have g1 := h.inr _ (getD_mem ps i hi')
    have g2 := h.inr _ (getD_mem ps j hj')
    have hne : ps.getD i 0 ≠ ps.getD j 0 := by
      intro e
      apply hij
      have hnd := h.nd
      rw [List.Nodup, List.pairwise_iff_getElem] at hnd
      rw [List.getD_eq_getElem?_getD, List.getElem?_eq_getElem hi', List.getD_eq_getElem?_getD, List.getElem?_eq_getElem hj'] at e
      simp only [Option.getD_some] at e
      rcases Nat.lt_trichotomy i j with hlt | heq | hlt
      · exact absurd e (hnd i j hi' hj' hlt)
      · exact heq
      · exact absurd e.symm (hnd j i hj' hi' hlt)
    have hap : ¬ Eqv M (ps.getD i 0) (ps.getD j 0) := by
      intro e
      have := cr_of_eqv e
      rw [g1.2, g2.2] at this
      exact hne this
    apply Classical.byContradiction
    intro hn
    apply hap
    intro x hx
    have r1 := (quot_read h i hi' x hx).2.acc
    have r2 := (quot_read h j hj' x hx).2.acc
    rw [← r1, ← r2]
    apply Classical.byContradiction
    intro hd
    exact hn ⟨x, hx, hd⟩
  lang x hx := by
    have := (quot_read h 0 h.len x hx).2.acc
    rw [h.hd] at this
    exact this
end Go.Proofs.Ytpngikmcjkjdaab

namespace Go.Proofs.Ytpngikmcjkjdaab
set_option linter.unusedVariables false
set_option linter.unusedSimpArgs false
theorem prel_bd {M : Tab} {S : Nat → Nat → Nat} {ps : List Nat} {p : Nat} (h : PRel (goodC M) S ps p) : ps.length ≤ M.n := nodup_bound M.n ps h.nd (fun x hx => (h.inr x hx).1)
theorem prel_all {M : Tab} (hnx : ∀ i c, i < M.n → c < 8 → M.nxt i c < M.n) : ∀ (k : Nat) (ps : List Nat) (p : Nat), PRel (goodC M) (crS M) ps p → p ≤ 8 * ps.length → 8 * M.n - p ≤ k → ∃ qs, PRel (goodC M) (crS M) qs (8 * qs.length) := by
  intro k
  induction k with
  | zero =>
    intro ps p h hp hk
    have := prel_bd h
    exact ⟨ps, by rw [show 8 * ps.length = p by omega]; exact h⟩
  | succ k ih =>
    intro ps p h hp hk
    by_cases he : p = 8 * ps.length
    · exact ⟨ps, by rw [← he]; exact h⟩
    · have hb := prel_bd h
      have hlt : p / 8 < ps.length := by omega
      by_cases hq : crS M (ps.getD (p / 8) 0) (p % 8) ∈ ps
      · exact ih ps (p + 1) (h.old hlt hq) (by omega) (by omega)
      · have hg := h.inr _ (getD_mem ps (p / 8) hlt)
        have hn := hnx (ps.getD (p / 8) 0) (p % 8) hg.1 (by omega)
        exact ih _ (p + 1) (h.new hlt hq ⟨by have := cr_le M (M.nxt (ps.getD (p / 8) 0) (p % 8)); show cr M _ < M.n; omega, cr_cr M _⟩) (by simp; omega) (by omega)
theorem least_ex {M : Tab} (hM : M.Ok) : ∃ R, IsLeast R M.accepts ∧ R.n ≤ M.n := by
  have l1 := hM.lo
  have hg0 : goodC M 0 := ⟨by omega, by have := cr_le M 0; omega⟩
  obtain ⟨qs, h⟩ := prel_all hM.nx (8 * M.n) [0] 0 (PRel.start hg0) (by simp) (by omega)
  exact ⟨quotTab M qs, quot_least h, prel_bd h⟩
theorem IsLeast.to {R : Tab} {L L' : List Nat → Bool} (h : IsLeast R L) (he : ∀ x, Notes x → L x = L' x) : IsLeast R L' := ⟨h.num, h.apart, fun x hx => (h.lang x hx).trans (he x hx)⟩
theorem least_of {M : Tab} {L : List Nat → Bool} (hM : M.Ok) (hL : ∀ x, Notes x → M.accepts x = L x) : ∃ R, IsLeast R L ∧ R.n ≤ M.n := by
  obtain ⟨R, h1, h2⟩ := least_ex hM
  exact ⟨R, h1.to hL, h2⟩
theorem IsLeast.isOk {R : Tab} {L : List Nat → Bool} (h : IsLeast R L) (hn : R.n ≤ 40) : R.Ok := ⟨h.num.pos, hn, h.num.nx⟩
end Go.Proofs.Ytpngikmcjkjdaab

namespace Go.Proofs.Ytpngikmcjkjdaab
open Go.RowKit
set_option linter.unusedVariables false
set_option maxRecDepth 20000 in
set_option maxHeartbeats 2000000 in
theorem same_ok (V U : Lay) (M N : Tab) (w : World) (hM : M.Ok) (hN : N.Ok) (hV : TabAt w V M) (hU : TabAt w U N) :
    Calls Try.prog 16 #[.agg #[.slice (some ⟨V.ba, V.oa, none⟩) M.n V.ca, .slice (some ⟨V.bn, V.on, none⟩) M.n V.cn], .agg #[.slice (some ⟨U.ba, U.oa, none⟩) N.n U.ca, .slice (some ⟨U.bn, U.on, none⟩) N.n U.cn]] w
      fun e w' => ∃ sb : Bool, e = .returned (.bool sb) ∧ (sb = true ↔ SameTab M N) ∧ Below w.heap.size w w' := by
  have l1 := hM.lo
  have l2 := hM.hi
  have l3 := hN.lo
  have l4 := hN.hi
  obtain ⟨W, hW⟩ : ∃ W, W = (w.alloc (.cells #[.slice (some ⟨V.ba, V.oa, none⟩) M.n V.ca, .slice (some ⟨V.bn, V.on, none⟩) M.n V.cn] 30)).alloc (.cells #[.slice (some ⟨U.ba, U.oa, none⟩) N.n U.ca, .slice (some ⟨U.bn, U.on, none⟩) N.n U.cn] 30) := ⟨_, rfl⟩
  have BW : Below w.heap.size w W := by
    rw [hW]; exact ((Below.refl _ _).alloc (Nat.le_refl _) _).alloc (by simp) _
  have b0 : W.heap[w.heap.size]? = some (.cells #[.slice (some ⟨V.ba, V.oa, none⟩) M.n V.ca, .slice (some ⟨V.bn, V.on, none⟩) M.n V.cn] 30 (0, 0)) := by rw [hW]; exact heap_at_old (heap_at_new (by simp))
  have b1 : W.heap[w.heap.size + 1]? = some (.cells #[.slice (some ⟨U.ba, U.oa, none⟩) N.n U.ca, .slice (some ⟨U.bn, U.on, none⟩) N.n U.cn] 30 (0, 0)) := by rw [hW]; exact heap_at_new (by simp)
  obtain ⟨x0, x1, _, _⟩ := cell_two b0
  obtain ⟨x2, x3, _, _⟩ := cell_two b1
  have hV0 := hV.below BW
  have hU0 := hU.below BW
  have e0 : ((M.n : Int) == 0) = false := by simp; omega
  by_cases hn : M.n = N.n
  · have ho : N.Ok := hN
    obtain ⟨n, HN⟩ : ∃ n, Hid (M.n = n) := ⟨_, rfl⟩
    have HN2 : Hid (N.n = n) := by unfold Hid; rw [← hn]; exact HN.out
    have hv : ∀ i, i < n → W.cell? ⟨V.ba, V.oa + i, none⟩ = some (.bool (M.acc i)) := fun i hi => hV0.acc i (by rw [HN.out]; exact hi)
    have hvr : ∀ i, i < n → W.cell? ⟨V.bn, V.on + i, none⟩ = some (.slice (some ⟨V.rb i, V.ro i, none⟩) 8 (V.rc i)) := fun i hi => hV0.row i (by rw [HN.out]; exact hi)
    have hvc : ∀ i c, i < n → c < 8 → W.cell? ⟨V.rb i, V.ro i + c, none⟩ = some (.int .i64 (M.nxt i c)) := fun i c hi hc => hV0.cel i c (by rw [HN.out]; exact hi) hc
    have hu : ∀ i, i < n → W.cell? ⟨U.ba, U.oa + i, none⟩ = some (.bool (N.acc i)) := fun i hi => hU0.acc i (by rw [HN2.out]; exact hi)
    have hur : ∀ i, i < n → W.cell? ⟨U.bn, U.on + i, none⟩ = some (.slice (some ⟨U.rb i, U.ro i, none⟩) 8 (U.rc i)) := fun i hi => hU0.row i (by rw [HN2.out]; exact hi)
    have huc : ∀ i c, i < n → c < 8 → W.cell? ⟨U.rb i, U.ro i + c, none⟩ = some (.int .i64 (N.nxt i c)) := fun i c hi hc => hU0.cel i c (by rw [HN2.out]; exact hi) hc
    have HST : Hid (SameTab M N ↔ ((∀ i, i < n → M.acc i = N.acc i) ∧ ∀ i c, i < n → c < 8 → M.nxt i c = N.nxt i c)) := by
      constructor
      · intro h; exact ⟨fun i hi => h.acc i (by rw [HN.out]; exact hi), fun i c hi hc => h.nxt i c (by rw [HN.out]; exact hi) hc⟩
      · intro h; exact ⟨hn, fun i hi => h.1 i (by rw [← HN.out]; exact hi), fun i c hi hc => h.2 i c (by rw [← HN.out]; exact hi) hc⟩
    rw [HN2.out] at x2 x3 l3 l4 hW ⊢
    rw [HN.out] at x0 x1 l1 l2 e0 hW ⊢
    clear hV0 hU0 hV hU ho hN hM hn b0 b1
    go_enter Try.func16, Try.ntmps16
    go_wp2_with fail
    rw [← hW]
    clear hW
    go_loopw [5] (fun i' wr => ∃ i q : Nat, i ≤ n ∧ i' = .int .i64 i ∧ (∀ j, j < i → M.acc j = N.acc j ∧ ∀ c, c < 8 → M.nxt j c = N.nxt j c) ∧ wr = W.drewN q)
      (fun i' _ => n - (intOf i').toNat)
    case atStart => exact ⟨0, 0, by omega, rfl, fun j hj => absurd hj (by omega), rfl⟩
    case round =>
      obtain ⟨i, q, hi, rfl, hsame, rfl⟩ := hrel
      have HS : Hid (∀ j, j < i → M.acc j = N.acc j ∧ ∀ c, c < 8 → M.nxt j c = N.nxt j c) := hsame
      clear hsame
      by_cases hlt : i < n
      · have y0 := hv i hlt
        have y1 := hvr i hlt
        have y2 := hu i hlt
        have y3 := hur i hlt
        have z1 := hvc i
        have z2 := huc i
        clear hv hvr hvc hu hur huc
        by_cases ha : M.acc i = N.acc i
        · rw [ha] at y0
          have HA : Hid (M.acc i = N.acc i) := ha
          have hb : (N.acc i != N.acc i) = false := by simp
          clear ha
          go_wp2_with fail
          go_quiet (fail)
          go_wp2_with fail
          clear y0 y2
          go_loopw [6] (fun c' wr => ∃ c q : Nat, c ≤ 8 ∧ c' = .int .i64 c ∧ (∀ d, d < c → M.nxt i d = N.nxt i d) ∧ wr = W.drewN q)
            (fun c' _ => 8 - (intOf c').toNat)
          case atStart => exact ⟨0, _, by omega, rfl, fun d hd => absurd hd (by omega), by first | rfl | (simp; rfl)⟩
          case round =>
            obtain ⟨c, q2, hc, rfl, hrow, rfl⟩ := hrel
            have HRW : Hid (∀ d, d < c → M.nxt i d = N.nxt i d) := hrow
            clear hrow
            by_cases hl8 : c < 8
            · have c1 := z1 c hlt hl8
              have c2 := z2 c hlt hl8
              clear z1 z2
              by_cases hx : M.nxt i c = N.nxt i c
              · rw [hx] at c1
                have HX : Hid (M.nxt i c = N.nxt i c) := hx
                clear hx
                go_wp2_with fail
                go_quiet (fail)
                go_wp2_with fail
                go_roundw
                case rel =>
                  refine ⟨c + 1, _, by omega, by go_num, ?_, by first | rfl | (simp; rfl)⟩
                  intro d hd
                  by_cases e : d = c
                  · subst e; exact HX.out
                  · exact HRW.out d (by omega)
                case measure => simp [intOf]; omega
              · have hb : (((M.nxt i c : Nat) : Int) == ((N.nxt i c : Nat) : Int)) = false := by simp; omega
                have HX : Hid (¬ M.nxt i c = N.nxt i c) := hx
                clear hx
                go_wp2_with fail
                go_quiet (fail)
                go_wp2_with fail
                go_ret
                exact ⟨false, rfl, ⟨fun h => (by cases h), fun h => absurd ((HST.out.1 h).2 i c hlt hl8) HX.out⟩, by simp only [World.drewN_drewN]; exact below_drewN BW _⟩
            · have he : c = 8 := by omega
              subst he
              clear z1 z2 y1 y3
              go_wp2_with fail
              go_roundw
              case rel =>
                refine ⟨i + 1, _, by omega, by go_num, ?_, rfl⟩
                intro j hj
                by_cases e : j = i
                · subst e; exact ⟨HA.out, HRW.out⟩
                · exact HS.out j (by omega)
              case measure => simp [intOf]; omega
        · have hb : (M.acc i == N.acc i) = false := by simp [ha]
          have HA : Hid (¬ M.acc i = N.acc i) := ha
          clear ha z1 z2
          go_wp2_with fail
          go_quiet (fail)
          go_wp2_with fail
          go_ret
          exact ⟨false, rfl, ⟨fun h => (by cases h), fun h => absurd ((HST.out.1 h).1 i hlt) HA.out⟩, by simp only [World.drewN_drewN]; exact below_drewN BW _⟩
      · have he : i = n := by omega
        subst he
        clear hv hvr hvc hu hur huc
        go_wp2_with fail
        go_ret
        exact ⟨true, rfl, ⟨fun _ => HST.out.2 ⟨fun j hj => (HS.out j hj).1, fun j c hj hc => (HS.out j hj).2 c hc⟩, fun _ => rfl⟩, below_drewN BW _⟩
  · have e1 : ((M.n : Int) == (N.n : Int)) = false := by simp; omega
    clear hV0 hU0 hV hU
    go_enter Try.func16, Try.ntmps16
    go_wp2_with fail
    rw [← hW]
    go_ret
    exact ⟨false, rfl, ⟨fun h => (by cases h), fun h => absurd h.n hn⟩, BW⟩
end Go.Proofs.Ytpngikmcjkjdaab

namespace Go.Proofs.Ytpngikmcjkjdaab
open Go.RowKit
set_option linter.unusedVariables false
def atN (len : Nat) (z : Nat → Int) (i : Nat) : Int := if i < len then z i else 0
theorem atN_rng {w : World} {ao : Option Addr} {len : Nat} {z : Nat → Int} (h : CodeAt w ao len z) (i : Nat) : -9223372036854775808 ≤ atN len z i ∧ atN len z i ≤ 9223372036854775807 := by
  unfold atN; split
  · exact h.rng i ‹_›
  · omega
set_option maxRecDepth 20000 in
set_option maxHeartbeats 400000 in
theorem at_ok (ao : Option Addr) (len cap : Nat) (z : Nat → Int) (i : Int) (w : World) (h : CodeAt w ao len z) (hi : 0 ≤ i) :
    Calls Try.prog 18 #[.slice ao len cap, .int .i64 i] w fun e w' => e = .returned (.int .i64 (atN len z i.toNat)) ∧ w' = w := by
  obtain ⟨k, rfl⟩ := Int.eq_ofNat_of_zero_le hi
  rw [Int.toNat_natCast]
  have hl := h.ln
  by_cases hlt : k < len
  · obtain ⟨b, o, rfl, hc⟩ := h.cell k hlt
    have e : atN len z k = z k := if_pos hlt
    rw [e]
    clear h e
    go_enter Try.func18, Try.ntmps18
    go_wp2
    go_ret
    exact ⟨rfl, rfl⟩
  · have e : atN len z k = 0 := if_neg hlt
    rw [e]
    clear h e
    go_enter Try.func18, Try.ntmps18
    go_wp2
    go_ret
    exact ⟨rfl, rfl⟩
end Go.Proofs.Ytpngikmcjkjdaab

namespace Go.Proofs.Ytpngikmcjkjdaab
open Go.RowKit
set_option linter.unusedVariables false
set_option maxRecDepth 20000 in
set_option maxHeartbeats 2000000 in
theorem numbered_ok (V : Lay) (M : Tab) (w : World) (hM : M.Ok) (hV : TabAt w V M) (hN : Numbered M) :
    Calls Try.prog 23 #[.agg #[.slice (some ⟨V.ba, V.oa, none⟩) M.n V.ca, .slice (some ⟨V.bn, V.on, none⟩) M.n V.cn]] w
      fun e w' => e = .returned (.bool true) ∧ Below w.heap.size w w' := by
  have l1 := hM.lo
  have l2 := hM.hi
  obtain ⟨W, hW⟩ : ∃ W, W = w.alloc (.cells #[.slice (some ⟨V.ba, V.oa, none⟩) M.n V.ca, .slice (some ⟨V.bn, V.on, none⟩) M.n V.cn] 30) := ⟨_, rfl⟩
  have BW : Below w.heap.size w W := by rw [hW]; exact (Below.refl _ _).alloc (Nat.le_refl _) _
  have b0 : W.heap[w.heap.size]? = some (.cells #[.slice (some ⟨V.ba, V.oa, none⟩) M.n V.ca, .slice (some ⟨V.bn, V.on, none⟩) M.n V.cn] 30 (0, 0)) := by rw [hW]; exact heap_at_new (by simp)
  obtain ⟨x0, x1, _, _⟩ := cell_two b0
  have hV0 := hV.below BW
  have e0 : ((M.n : Int) == 0) = false := by simp; omega
  have hcl := come_le hN
  go_enter Try.func23, Try.ntmps23
  go_wp2_with fail
  rw [← hW]
  clear hW hV
  go_loop [3, 4] (fun cm i' => ∃ i : Nat, i ≤ M.n ∧ i' = .int .i64 i ∧ cm = .int .i64 (come M.nxt (8 * i))) (fun _ i' => M.n - (intOf i').toNat)
  case atStart => exact ⟨0, by omega, rfl, rfl⟩
  case round =>
    obtain ⟨i, hi, rfl, rfl⟩ := hrel
    have hc1 := hcl (8 * i) (by omega)
    have hcp := come_pos M.nxt (8 * i)
    by_cases hlt : i < M.n
    · have hrow := hN.row i hlt
      have y1 := hV0.row i hlt
      obtain ⟨cm0, HC0⟩ : ∃ x, Hid (come M.nxt (8 * i) = x) := ⟨_, rfl⟩
      rw [HC0.out] at hc1 hcp hrow ⊢
      have hzc := fun c => hV0.cel i c hlt
      have HZ : Hid (∀ c, c < 8 → W.cell? ⟨V.rb i, V.ro i + c, none⟩ = some (.int .i64 (M.nxt i c))) := hzc
      have HCL : Hid (∀ p, p ≤ 8 * M.n → come M.nxt p ≤ M.n) := hcl
      clear hzc hcl hV0
      go_wp2_with fail
      go_loop [3, 5, 6] (fun cm c' _ => ∃ c : Nat, c ≤ 8 ∧ c' = .int .i64 c ∧ cm = .int .i64 (come M.nxt (8 * i + c))) (fun _ c' _ => 8 - (intOf c').toNat)
      case atStart => exact ⟨0, by omega, rfl, by simp only [Nat.add_zero]; rw [HC0.out]⟩
      case round =>
        obtain ⟨c, hc, rfl, rfl⟩ := hrel
        have hc2 := HCL.out (8 * i + c) (by omega)
        have hcp2 := come_pos M.nxt (8 * i + c)
        by_cases hl8 : c < 8
        · have z1 := HZ.out c hl8
          have hnx := hN.nx i c hlt hl8
          have hst := hN.step (8 * i + c) (by omega)
          have HCS : Hid (come M.nxt (8 * i + (c + 1)) = max (come M.nxt (8 * i + c)) (M.nxt i c + 1)) := by
            unfold Hid; rw [← Nat.add_assoc]; simp only [come]
            rw [show (8 * i + c) / 8 = i by omega, show (8 * i + c) % 8 = c by omega]
          rw [show (8 * i + c) / 8 = i by omega, show (8 * i + c) % 8 = c by omega] at hst
          obtain ⟨cm, HC⟩ : ∃ x, Hid (come M.nxt (8 * i + c) = x) := ⟨_, rfl⟩
          obtain ⟨nv, HNV⟩ : ∃ x, Hid (M.nxt i c = x) := ⟨_, rfl⟩
          have HCS2 : Hid (come M.nxt (8 * i + (c + 1)) = max cm (nv + 1)) := by unfold Hid; rw [← HC.out, ← HNV.out]; exact HCS.out
          rw [HC.out] at hc2 hcp2 hst ⊢
          rw [HNV.out] at z1 hnx hst
          by_cases hq : nv = cm
          · have hb : ((nv : Int) == (cm : Int)) = true := by simp; omega
            have HQ : Hid (nv = cm) := hq
            clear hq
            go_wp2_with fail
            go_round
            case rel =>
              refine ⟨c + 1, by omega, by go_num, ?_⟩
              have := HQ.out
              rw [HCS2.out, show max cm (nv + 1) = cm + 1 by omega]; go_num
            case measure => simp [intOf]; omega
          · have hb : ((nv : Int) == (cm : Int)) = false := by simp; omega
            have HQ : Hid (nv < cm) := by unfold Hid; omega
            clear hq
            go_wp2_with fail
            go_round
            case rel =>
              refine ⟨c + 1, by omega, by go_num, ?_⟩
              have := HQ.out
              rw [HCS2.out, show max cm (nv + 1) = cm by omega]
            case measure => simp [intOf]; omega
        · have he : c = 8 := by omega
          subst he
          clear HZ y1
          rw [show 8 * i + 8 = 8 * (i + 1) by omega] at hc2 hcp2 ⊢
          obtain ⟨cm, HC⟩ : ∃ x, Hid (come M.nxt (8 * (i + 1)) = x) := ⟨_, rfl⟩
          rw [HC.out] at hc2 hcp2 ⊢
          go_wp2_with fail
          go_round
          case rel => exact ⟨i + 1, by omega, by go_num, by rw [HC.out]⟩
          case measure => simp [intOf]; omega
    · have he : i = M.n := by omega
      subst he
      rw [hN.all]
      have hb : ((M.n : Int) == (M.n : Int)) = true := by simp
      clear hcl hV0 hc1 hcp
      go_wp2_with fail
      go_ret
      exact ⟨rfl, BW⟩
end Go.Proofs.Ytpngikmcjkjdaab

namespace Go.Proofs.Ytpngikmcjkjdaab
open Go.RowKit
set_option linter.unusedVariables false
set_option linter.unusedSimpArgs false
noncomputable def langB (L : List Nat → Prop) (x : List Nat) : Bool := @decide (L x) (Classical.propDecidable _)
theorem langB_iff (L : List Nat → Prop) (x : List Nat) : langB L x = true ↔ L x := by unfold langB; simp
theorem compile_text (s : ByteArray) (b : Nat) (w : World) {L : List Nat → Prop} (h : Tells (txt s) L) (hs : s.size ≤ 40) (hb1 : 1 ≤ b) (hb2 : b ≤ 40) :
    Calls Try.prog 13 #[.string s, .int .i64 (b : Int)] w fun e w' => ∃ n, CompPost (langB L) b n w e w' := by
  obtain ⟨p, h1, h2, rfl⟩ := h
  obtain ⟨t, h3, h4, h5⟩ := text_parse h1
  exact compile_ok s b w h3 h4 h5 h2 hs hb1 hb2
def CompYes (L : List Nat → Bool) (w : World) (e : Ending) (w' : World) : Prop := Below w.heap.size w w' ∧ ∃ (R : Tab) (V : Lay), IsLeast R L ∧ R.n ≤ 40 ∧ e = .returned (.tuple #[.agg #[.slice (some ⟨V.ba, V.oa, none⟩) R.n V.ca, .slice (some ⟨V.bn, V.on, none⟩) R.n V.cn], .int .i64 0, .int .i64 0]) ∧ TabAt w' V R ∧ V.From w.heap.size R.n
theorem CompPost.yes {L : List Nat → Bool} {n : Nat} {w w' : World} {e : Ending} (h : CompPost L 40 n w e w') {M : Tab} (hM : M.Ok) (hL : ∀ x, Notes x → M.accepts x = L x) : CompYes L w e w' := by
  obtain ⟨v, er, rfl, hB, ⟨R, V, hR, hRd, hev, hT, hF, _⟩ | ⟨_, _, hno⟩⟩ := h
  · obtain ⟨rfl, rfl⟩ : v = _ ∧ er = _ := by simpa using hev
    exact ⟨hB, R, V, hR, hRd, rfl, hT, hF⟩
  · obtain ⟨R, h1, h2⟩ := least_of hM hL
    have := hno R h1
    have := hM.hi
    omega
end Go.Proofs.Ytpngikmcjkjdaab

namespace Go.Proofs.Ytpngikmcjkjdaab
set_option linter.unusedVariables false
theorem cat_assoc {l m n : List Nat → Prop} (x : List Nat) : Cat (Cat l m) n x ↔ Cat l (Cat m n) x := by
  constructor
  · rintro ⟨_, w, rfl, ⟨u, v, rfl, hu, hv⟩, hw⟩
    exact ⟨u, v ++ w, by simp, hu, v, w, rfl, hv, hw⟩
  · rintro ⟨u, _, rfl, hu, v, w, rfl, hv, hw⟩
    exact ⟨u ++ v, w, by simp, ⟨u, v, rfl, hu, hv⟩, hw⟩
def Pow (l : List Nat → Prop) : Nat → List Nat → Prop
  | 0 => fun x => x = []
  | n + 1 => Cat l (Pow l n)
theorem pow_add {l : List Nat → Prop} (m n : Nat) (x : List Nat) : Cat (Pow l m) (Pow l n) x ↔ Pow l (m + n) x := by
  induction m generalizing x with
  | zero => rw [Nat.zero_add]; exact cat_nil_left x
  | succ m ih =>
    rw [show m + 1 + n = (m + n) + 1 by omega]
    show Cat (Cat l (Pow l m)) (Pow l n) x ↔ Cat l (Pow l (m + n)) x
    rw [cat_assoc]
    exact Cat.congr (fun _ => Iff.rfl) ih x
end Go.Proofs.Ytpngikmcjkjdaab

namespace Go.Proofs.Ytpngikmcjkjdaab
set_option linter.unusedVariables false
def splitF : List Nat → Int → List Nat → List (List Nat)
  | [], _, cur => [cur]
  | c :: l, n, cur => if c = 40 then splitF l (n + 1) (cur ++ [c]) else if c = 41 then splitF l (n - 1) (cur ++ [c]) else if c = 124 ∧ n = 0 then cur :: splitF l n [] else splitF l n (cur ++ [c])
def closF : List Nat → Int → Nat → Nat
  | [], _, k => k
  | c :: l, n, k => if c = 40 then closF l (n + 1) (k + 1) else if c = 41 then (if n - 1 = 0 then k else closF l (n - 1) (k + 1)) else closF l n (k + 1)
def Flat (m : Int) (l : List Nat) : Prop := ∀ n cur rest, m ≤ n → splitF (l ++ rest) n cur = splitF rest n (cur ++ l)
def Skip (l : List Nat) : Prop := ∀ n k rest, 1 ≤ n → closF (l ++ rest) n k = closF rest n (k + l.length)
theorem Flat.nil (m : Int) : Flat m [] := fun n cur rest _ => by simp
theorem Flat.app {m : Int} {l l' : List Nat} (h : Flat m l) (h' : Flat m l') : Flat m (l ++ l') := fun n cur rest hn => by rw [List.append_assoc, h n cur _ hn, h' n _ rest hn, List.append_assoc]
theorem Flat.one {c : Nat} (m : Int) (h1 : c ≠ 40) (h2 : c ≠ 41) (h3 : c ≠ 124) : Flat m [c] := fun n cur rest _ => by
  simp only [List.cons_append, List.nil_append, splitF]
  rw [if_neg h1, if_neg h2, if_neg (fun h => h3 h.1)]
theorem Flat.mono {m m' : Int} {l : List Nat} (h : Flat m l) (hm : m ≤ m') : Flat m' l := fun n cur rest hn => h n cur rest (by omega)
theorem Flat.par {l : List Nat} (h : Flat 1 l) : Flat 0 (40 :: l ++ [41]) := fun n cur rest hn => by
  rw [show 40 :: l ++ [41] ++ rest = 40 :: (l ++ (41 :: rest)) by simp]
  rw [show splitF (40 :: (l ++ (41 :: rest))) n cur = splitF (l ++ (41 :: rest)) (n + 1) (cur ++ [40]) by simp [splitF]]
  rw [h (n + 1) _ _ (by omega)]
  rw [show splitF (41 :: rest) (n + 1) (cur ++ [40] ++ l) = splitF rest (n + 1 - 1) (cur ++ [40] ++ l ++ [41]) by simp [splitF]]
  rw [show n + 1 - 1 = n by omega]
  congr 1; simp
theorem Skip.nil : Skip [] := fun n k rest _ => by simp
theorem Skip.app {l l' : List Nat} (h : Skip l) (h' : Skip l') : Skip (l ++ l') := fun n k rest hn => by rw [List.append_assoc, h n k _ hn, h' n _ rest hn, List.length_append, Nat.add_assoc]
theorem Skip.one {c : Nat} (h1 : c ≠ 40) (h2 : c ≠ 41) : Skip [c] := fun n k rest _ => by
  simp only [List.cons_append, List.nil_append, closF]
  rw [if_neg h1, if_neg h2]; simp
theorem Skip.par {l : List Nat} (h : Skip l) : Skip (40 :: l ++ [41]) := fun n k rest hn => by
  rw [show 40 :: l ++ [41] ++ rest = 40 :: (l ++ (41 :: rest)) by simp]
  rw [show closF (40 :: (l ++ (41 :: rest))) n k = closF (l ++ (41 :: rest)) (n + 1) (k + 1) by simp [closF]]
  rw [h (n + 1) _ _ (by omega)]
  rw [show closF (41 :: rest) (n + 1) (k + 1 + l.length) = closF rest (n + 1 - 1) (k + 1 + l.length + 1) by
    simp only [closF]; rw [if_neg (by omega), if_pos trivial, if_neg (by omega)]]
  rw [show n + 1 - 1 = n by omega]
  congr 1; simp; omega
theorem AtomT.head {k : Nat} {l : List Nat} {p : Pat} (h : AtomT k l p) : ∃ c l', l = c :: l' ∧ c ≠ 42 ∧ c ≠ 43 ∧ c ≠ 63 ∧ c ≠ 123 := by
  have h0 : ∀ {l : List Nat} {p : Pat}, Atom0T l p → ∃ c l', l = c :: l' ∧ c ≠ 42 ∧ c ≠ 43 ∧ c ≠ 63 ∧ c ≠ 123 := by
    intro l p h
    rcases h with ⟨c, hc, rfl, _⟩ | ⟨rfl, _⟩ | ⟨ps, _, h1, ⟨rfl, _⟩ | ⟨rfl, _⟩⟩
    · exact ⟨_, _, rfl, by omega, by omega, by omega, by omega⟩
    · exact ⟨_, _, rfl, by omega, by omega, by omega, by omega⟩
    · exact ⟨_, _, rfl, by omega, by omega, by omega, by omega⟩
    · exact ⟨_, _, rfl, by omega, by omega, by omega, by omega⟩
  cases k with
  | zero => exact h0 h
  | succ k =>
    rcases h with h | ⟨l', rfl, _⟩
    · exact h0 h
    · exact ⟨_, _, rfl, by omega, by omega, by omega, by omega⟩
def Mk.lo : Mk → Nat
  | .none => 1
  | .star => 0
  | .plus => 1
  | .opt => 0
  | .just n => n
  | .more n => n
  | .span n _ => n
def Mk.hi : Mk → Int
  | .none => 1
  | .star => -1
  | .plus => -1
  | .opt => 1
  | .just n => n
  | .more _ => -1
  | .span _ m => m
theorem chainL_lang (p : Pat) (its : List Itm) (y : List Nat) : (chainL p its).lang y ↔ Cat p.lang (chainL .none its).lang y := by
  induction its generalizing p y with
  | nil => exact (cat_nil_right y).symm
  | cons i its ih =>
    show (chainL (.chain p i.pat) its).lang y ↔ Cat p.lang (chainL (.chain .none i.pat) its).lang y
    rw [ih (.chain p i.pat) y]
    have h1 : ∀ z, (chainL (.chain .none i.pat) its).lang z ↔ Cat i.pat.lang (chainL .none its).lang z := by
      intro z
      rw [ih (.chain .none i.pat) z]
      exact Cat.congr (fun u => cat_nil_left u) (fun _ => Iff.rfl) z
    rw [Cat.congr (fun _ => Iff.rfl) h1 y]
    exact cat_assoc y
theorem chainL_size (p : Pat) (its : List Itm) : (chainL p its).size = p.size + (its.map fun i => i.pat.size).sum := by
  induction its generalizing p with
  | nil => simp [chainL]
  | cons i its ih =>
    show (chainL (.chain p i.pat) its).size = _
    rw [ih]
    simp only [Pat.size, List.map_cons, List.sum_cons]; omega
end Go.Proofs.Ytpngikmcjkjdaab

namespace Go.Proofs.Ytpngikmcjkjdaab
open Go.RowKit
set_option linter.unusedVariables false
set_option linter.unusedSimpArgs false
structure BoxK (w : World) (b : Nat) (V : Lay) (M : Tab) : Prop where
  blk : w.heap[b]? = some (.cells #[.slice (some ⟨V.ba, V.oa, none⟩) M.n V.ca, .slice (some ⟨V.bn, V.on, none⟩) M.n V.cn] 30 (0, 0))
  tab : TabAt w V M
theorem BoxK.below {w w' : World} {b : Nat} {V : Lay} {M : Tab} (h : BoxK w b V M) (hb : Below w.heap.size w w') : BoxK w' b V M :=
  ⟨by rw [hb.block _ (heap_lt h.blk)]; exact h.blk, h.tab.below hb⟩
theorem BoxK.new {w : World} {V : Lay} {M : Tab} (h : TabAt w V M) : BoxK (w.alloc (.cells #[.slice (some ⟨V.ba, V.oa, none⟩) M.n V.ca, .slice (some ⟨V.bn, V.on, none⟩) M.n V.cn] 30)) w.heap.size V M :=
  ⟨heap_at_new rfl, h.below ((Below.refl _ _).alloc (Nat.le_refl _) _)⟩
structure NilK (w : World) (b : Nat) : Prop where
  blk : w.heap[b]? = some (.cells #[.slice none 0 0, .slice none 0 0] 30 (0, 0))
theorem NilK.below {w w' : World} {b : Nat} (h : NilK w b) (hb : Below w.heap.size w w') : NilK w' b := ⟨by rw [hb.block _ (heap_lt h.blk)]; exact h.blk⟩
theorem NilK.new {w : World} : NilK (w.alloc (.cells #[.slice none 0 0, .slice none 0 0] 30)) w.heap.size := ⟨heap_at_new rfl⟩
def CompC (s : ByteArray) (L : List Nat → Bool) : Prop := ∀ w1 : World, Calls Try.prog 13 #[.string s, .int .i64 40] w1 fun e w' => CompYes L w1 e w'
end Go.Proofs.Ytpngikmcjkjdaab

namespace Go.Proofs.Ytpngikmcjkjdaab
open Go.RowKit
set_option linter.unusedVariables false
set_option linter.unusedSimpArgs false
def noteItm (c : Nat) : Itm := ⟨[97 + c], .one (fun x => decide (x = c)), .none⟩
def tuneP (ns : List Nat) : Pat := chainL .none (ns.map noteItm)
theorem tune_seq (ns : List Nat) (h : Notes ns) : SeqT Atom0T (ns.map fun c => 97 + c) (tuneP ns) := by
  refine ⟨ns.map noteItm, ?_, ?_, rfl⟩
  · intro i hi
    obtain ⟨c, hc, rfl⟩ := List.mem_map.1 hi
    exact ⟨.inl ⟨c, h c hc, rfl, rfl⟩, trivial⟩
  · clear h
    induction ns with
    | nil => rfl
    | cons c ns ih => rw [List.map_cons, List.map_cons, List.flatMap_cons, ← ih]; rfl
theorem tune_size (ns : List Nat) : (tuneP ns).size = ns.length := by
  unfold tuneP
  rw [chainL_size]
  show 0 + _ = _
  rw [List.map_map, Nat.zero_add]
  induction ns with
  | nil => rfl
  | cons c ns ih => rw [List.map_cons, List.sum_cons, ih]; show 1 + _ = _; simp; omega
theorem tune_lang (ns x : List Nat) : (tuneP ns).lang x ↔ x = ns := by
  induction ns generalizing x with
  | nil => exact Iff.rfl
  | cons c ns ih =>
    have e : tuneP (c :: ns) = chainL (.chain .none (noteItm c).pat) (ns.map noteItm) := rfl
    rw [e, chainL_lang]
    have e2 : (chainL .none (ns.map noteItm)).lang = fun x => x = ns := funext fun y => propext (ih y)
    rw [e2]
    constructor
    · rintro ⟨u, v, rfl, ⟨u1, u2, rfl, rfl, d, rfl, hd⟩, rfl⟩
      have : d = c := by simpa using hd
      subst this
      simp
    · rintro rfl
      exact ⟨[c], ns, by simp, ⟨[], [c], rfl, rfl, c, rfl, by simp⟩, rfl⟩
theorem txt_notes {s : ByteArray} (h : IsText s) : txt s = (notesOf s).map fun c => 97 + c := by
  unfold txt notesOf
  rw [List.map_map]
  refine List.map_congr_left fun c hc => ?_
  have := h c hc
  show c.toNat = 97 + (c.toNat - 97)
  omega
theorem notesOf_len (s : ByteArray) : (notesOf s).length = s.size := by unfold notesOf; simp
theorem inits_len (x : List Nat) : (inits x).length = x.length + 1 := by simp [inits]
end Go.Proofs.Ytpngikmcjkjdaab

namespace Go.Proofs.Ytpngikmcjkjdaab
open Go.RowKit
set_option linter.unusedVariables false
set_option linter.unusedSimpArgs false
set_option maxRecDepth 20000 in
set_option maxHeartbeats 1000000 in
theorem text_any (most : Nat) (hmost : most ≤ 1000) (ao : Option Addr) (len cap : Nat) (z : Nat → Int) (w : World) (h : CodeAt w ao len z) :
    Calls Try.prog 19 #[.slice ao len cap, .int .i64 (most : Int)] w fun e w' => ∃ s : ByteArray, e = .returned (.string s) ∧ IsText s ∧ s.size ≤ most ∧ Below w.heap.size w w' := by
  have hln := h.ln
  go_enter Try.func19, Try.ntmps19
  go_wp2_with fail
  go_loopw [5, 6] (fun sv i' wr => ∃ (i : Nat) (s : ByteArray), i ≤ most ∧ i' = .int .i64 i ∧ sv = .string s ∧ IsText s ∧ s.size = i ∧ Below w.heap.size w wr)
    (fun _ i' _ => most - (intOf i').toNat)
  case atStart => exact ⟨0, _, by omega, rfl, rfl, by intro c hc; simp at hc, rfl, Below.refl _ _⟩
  case round =>
    obtain ⟨i, s, hi, rfl, rfl, hs, hsz, hb⟩ := hrel
    have HS : Hid (IsText s) := hs
    have HSZ : Hid (s.size = i) := hsz
    have hsle : s.size ≤ most := by omega
    clear hs hsz
    by_cases hlt : i < len
    · by_cases hl : i < most
      · obtain ⟨b, o, rfl, hc⟩ := (h.below hb).cell i hlt
        have hr := h.rng i hlt
        obtain ⟨pv, HPV⟩ : ∃ x, Hid (pickN (z i) 8 = x) := ⟨_, rfl⟩
        have hpv : pv < 8 := by rw [← HPV.out]; exact pickN_lt _ _ (by omega)
        have HB : Hid (Below w.heap.size w wr) := hb
        have hbs := hb.size
        clear h hb
        go_wp2_with fail
        refine (pick_any (z i) 8 _ (by omega) (by omega) hr.1 hr.2).mono ?_
        rw [show (8 : Int).toNat = 8 from rfl, HPV.out]
        rintro e w' ⟨rfl, hw'⟩
        obtain rfl : wr = w' := hw'.symm
        have hcv := conv_note pv hpv
        go_wp2_with fail
        go_roundw
        case rel =>
          have hz := HSZ.out
          refine ⟨i + 1, s ++ ⟨#[noteB pv]⟩, by omega, by go_num, ?_, isText_push _ _ HS.out (isText_note pv hpv), ?_, ?_⟩
          · rfl
          · rw [ByteArray.size_append, hz]; rfl
          · exact HB.out.alloc (by omega) _
        case measure => simp [intOf]; omega
      · have hbn : ((i : Int) < (most : Int)) = False := by simp; omega
        clear h
        go_wp2_with fail
        go_ret
        exact ⟨s, rfl, HS.out, hsle, hb⟩
    · clear h
      go_wp2_with fail
      go_ret
      exact ⟨s, rfl, HS.out, hsle, hb⟩
end Go.Proofs.Ytpngikmcjkjdaab
