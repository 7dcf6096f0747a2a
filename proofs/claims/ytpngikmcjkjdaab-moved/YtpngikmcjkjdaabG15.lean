import Derived.Deep.AppendLies
import Derived.Deep.DeepCutAuto
import Derived.Deep.RegionHeld3
import Derived.Deep.RegionLaw
import Derived.Test.YtpngikmcjkjdaabG1
import Derived.Test.YtpngikmcjkjdaabG14
import Derived.Test.YtpngikmcjkjdaabG2
import Derived.Test.YtpngikmcjkjdaabG3
import Derived.Test.YtpngikmcjkjdaabG5
import Derived.Test.YtpngikmcjkjdaabG6
import Derived.Test.YtpngikmcjkjdaabG7
import Derived.Test.YtpngikmcjkjdaabG8
set_option linter.unusedVariables false
set_option linter.unusedSimpArgs false
namespace Go.Proofs.Ytpngikmcjkjdaab
set_option linter.unusedVariables false
set_option linter.unusedSimpArgs false
def Rem (s : ByteArray) (a : Nat) (r : List Nat) : Prop := (txt s).drop a = r
section
variable {s : ByteArray}
theorem Rem.cons {a c : Nat} {r : List Nat} (h : Rem s a (c :: r)) : byteAt s a = c ∧ a < s.size ∧ Rem s (a + 1) r := by
  unfold Rem at h ⊢
  have hlt : a < s.size := by
    refine Classical.byContradiction fun hn => ?_
    rw [List.drop_of_length_le (by rw [txt_len]; omega)] at h
    simp at h
  have h2 : a < (txt s).length := by rw [txt_len]; exact hlt
  have h1 := txt_get hlt
  rw [List.getElem?_eq_getElem h2] at h1
  rw [List.drop_eq_getElem_cons h2, Option.some.inj h1] at h
  injection h with h3 h4
  exact ⟨h3, hlt, h4⟩
theorem Rem.nil {a : Nat} (h : Rem s a []) : s.size ≤ a := by
  unfold Rem at h
  have := congrArg List.length h
  rw [List.length_drop, txt_len] at this
  simp at this
  omega
theorem Rem.len {a : Nat} {r : List Nat} (h : Rem s a r) : r.length ≤ s.size := by
  unfold Rem at h
  rw [← h, List.length_drop, txt_len]
  omega
theorem Rem.sees {a c : Nat} {r : List Nat} (h : Rem s a (c :: r)) (b : Nat) : hit s a b = decide (c = b) := by
  obtain ⟨h1, h2, _⟩ := h.cons
  unfold byteAt at h1
  unfold hit
  rw [h1, decide_eq_true h2, Bool.true_and]
  rfl
theorem Rem.sees0 {a : Nat} (h : Rem s a []) (b : Nat) : hit s a b = false := by
  have := h.nil
  unfold hit
  rw [decide_eq_false (by omega), Bool.false_and]
theorem Rem.note {a c : Nat} {r : List Nat} (h : Rem s a (c :: r)) : noteHere s a = isNoteN c := by rw [note_eq, h.cons.1]
theorem Rem.digit {a c : Nat} {r : List Nat} (h : Rem s a (c :: r)) : digitHere s a = isDigitN c := by rw [digit_eq, h.cons.1]
theorem Rem.end0 {a : Nat} (h : Rem s a []) : endHere s a = true := by
  have := h.nil
  unfold endHere
  simp [this]
theorem Rem.end_ {a c : Nat} {r : List Nat} (h : Rem s a (c :: r)) : endHere s a = (c == 124 || c == 41) := by
  obtain ⟨h1, h2, _⟩ := h.cons
  unfold endHere
  rw [h1, decide_eq_false (by omega), Bool.false_or]
theorem isNote_of {f : Nat} (h : f < 8) : isNoteN (97 + f) = true := noteN_iff.2 (by omega)
theorem isDigit_of {f : Nat} (h : f ≤ 9) : isDigitN (48 + f) = true := digitN_iff.2 (by omega)
theorem spanF_id {pl f g : Nat} {t : Sp} (h : f ≤ g) : spanF pl f g t = t := by unfold spanF; rw [if_neg (by omega)]
theorem text_part {x : Prt} (hx : x.ok) {c : Nat} {r : List Nat} (hc : c ≠ 45) {t : Sp} (h : Rem s t.a (x.text ++ c :: r)) : ∃ t', partF s t = .ok (x.f, x.g) t' ∧ Rem s t'.a (c :: r) ∧ t'.bk = t.bk := by
  obtain ⟨f, g, dash⟩ := x
  obtain ⟨h1, h2, h3, h4⟩ := hx
  cases dash
  · have e : g = f := h3 rfl
    subst e
    have h' : Rem s t.a ((97 + g) :: c :: r) := h
    obtain ⟨b1, l1, r1⟩ := h'.cons
    refine ⟨t.go, ?_, r1, rfl⟩
    unfold partF
    rw [h'.note, isNote_of h1, r1.sees, b1, decide_eq_false hc]
    simp
  · have h' : Rem s t.a ((97 + f) :: 45 :: (97 + g) :: c :: r) := h
    obtain ⟨b1, l1, r1⟩ := h'.cons
    obtain ⟨b2, l2, r2⟩ := r1.cons
    obtain ⟨b3, l3, r3⟩ := r2.cons
    refine ⟨t.go.go.go, ?_, r3, rfl⟩
    unfold partF
    rw [h'.note, isNote_of h1, r1.sees, r2.note, isNote_of h2, b1, b3]
    simp
theorem part_head {x : Prt} (hx : x.ok) : ∃ c l, x.text = c :: l ∧ isNoteN c = true := by
  obtain ⟨f, g, dash⟩ := x
  cases dash
  · exact ⟨97 + f, [], rfl, isNote_of hx.1⟩
  · exact ⟨97 + f, [45, 97 + g], rfl, isNote_of hx.1⟩
theorem text_setLoop (ps : List Prt) : ∀ (n : Nat) (N : Nat → Bool) (t : Sp) (r : List Nat), ps ≠ [] → (∀ x ∈ ps, x.ok) → ps.length ≤ n → Rem s t.a (ps.flatMap Prt.text ++ 93 :: r) → ∃ t', setLoop s n N t = .ok (setN N ps) t' ∧ Rem s t'.a r ∧ t'.bk = t.bk := by
  induction ps with
  | nil => intro n N t r h; exact absurd rfl h
  | cons x ps ih =>
    intro n N t r _ hok hn h
    obtain ⟨n, rfl⟩ : ∃ m, n = m + 1 := ⟨n - 1, by simp at hn; omega⟩
    have hx := hok x (by simp)
    by_cases hps : ps = []
    · subst hps
      have h' : Rem s t.a (x.text ++ 93 :: r) := by simpa using h
      obtain ⟨t1, e1, r1, b1⟩ := text_part hx (by decide) h'
      obtain ⟨_, _, r2⟩ := r1.cons
      refine ⟨t1.go, ?_, r2, b1⟩
      simp only [setLoop]
      rw [e1]
      simp only
      rw [r1.sees, spanF_id hx.2.2.2]
      simp [setN]
    · obtain ⟨y, ps', rfl⟩ := List.exists_cons_of_ne_nil hps
      obtain ⟨c, l, hl, hc⟩ := part_head (hok y (by simp))
      have hc2 := noteN_iff.1 hc
      have h' : Rem s t.a (x.text ++ c :: (l ++ (ps'.flatMap Prt.text ++ 93 :: r))) := by
        have e : (x :: y :: ps').flatMap Prt.text ++ 93 :: r = x.text ++ c :: (l ++ (ps'.flatMap Prt.text ++ 93 :: r)) := by simp [hl]
        rw [← e]; exact h
      obtain ⟨t1, e1, r1, b1⟩ := text_part hx (by omega) h'
      have r1' : Rem s t1.a ((y :: ps').flatMap Prt.text ++ 93 :: r) := by
        have e : (y :: ps').flatMap Prt.text ++ 93 :: r = c :: (l ++ (ps'.flatMap Prt.text ++ 93 :: r)) := by simp [hl]
        rw [e]; exact r1
      obtain ⟨t2, e2, r2, b2⟩ := ih n (addSpan N x.f x.g) t1 r (by simp) (fun z hz => hok z (by simp [hz])) (by simp at hn ⊢; omega) r1'
      refine ⟨t2, ?_, r2, b2.trans b1⟩
      simp only [setLoop]
      rw [e1]
      simp only
      rw [r1.sees, spanF_id hx.2.2.2, decide_eq_false (by omega)]
      simp only [Bool.false_eq_true, if_false]
      exact e2
theorem parts_len (ps : List Prt) : ps.length ≤ (ps.flatMap Prt.text).length := by
  induction ps with
  | nil => simp
  | cons x ps ih =>
    have : 1 ≤ x.text.length := by unfold Prt.text; split <;> simp
    simp only [List.flatMap_cons, List.length_cons, List.length_append]
    omega
def Opens (c : Nat) : Prop := isNoteN c = true ∨ c = 46 ∨ c = 91 ∨ c = 40
def Knows (s : ByteArray) (A : List Nat → Pat → Prop) (atom : Sp → Res Pat) : Prop :=
  (∀ l p, A l p → ∃ c l', l = c :: l' ∧ Opens c) ∧ ∀ l p r t, A l p → t.bk = false → Rem s t.a (l ++ r) → ∃ t', atom t = .ok p t' ∧ Rem s t'.a r ∧ t'.bk = false
theorem atom0_opens {l : List Nat} {p : Pat} (h : Atom0T l p) : ∃ c l', l = c :: l' ∧ Opens c ∧ c ≠ 40 := by
  rcases h with ⟨c, hc, rfl, _⟩ | ⟨rfl, _⟩ | ⟨ps, _, _, ⟨rfl, _⟩ | ⟨rfl, _⟩⟩
  · exact ⟨_, _, rfl, .inl (isNote_of hc), by omega⟩
  · exact ⟨_, _, rfl, .inr (.inl rfl), by omega⟩
  · exact ⟨_, _, rfl, .inr (.inr (.inl rfl)), by omega⟩
  · exact ⟨_, _, rfl, .inr (.inr (.inl rfl)), by omega⟩
theorem text_atom0 {l : List Nat} {p : Pat} {r : List Nat} {t : Sp} (h : Atom0T l p) (hb : t.bk = false) (hr : Rem s t.a (l ++ r)) : ∃ t', atom0 s t = .ok p t' ∧ Rem s t'.a r ∧ t'.bk = false := by
  rcases h with ⟨c, hc, rfl, rfl⟩ | ⟨rfl, rfl⟩ | ⟨ps, hne, hok, ⟨rfl, rfl⟩ | ⟨rfl, rfl⟩⟩
  · have h' : Rem s t.a ((97 + c) :: r) := hr
    obtain ⟨b1, l1, r1⟩ := h'.cons
    refine ⟨t.go, ?_, r1, hb⟩
    unfold atom0
    rw [h'.sees, h'.sees, h'.note, isNote_of hc, b1, decide_eq_false (by omega), decide_eq_false (by omega)]
    simp
  · have h' : Rem s t.a (46 :: r) := hr
    obtain ⟨b1, l1, r1⟩ := h'.cons
    refine ⟨t.go, ?_, r1, hb⟩
    unfold atom0
    rw [h'.sees, h'.sees]
    simp
  · have h' : Rem s t.a (91 :: (ps.flatMap Prt.text ++ 93 :: r)) := by simpa using hr
    obtain ⟨b1, l1, r1⟩ := h'.cons
    have hln := r1.len
    have hpl := parts_len ps
    simp only [List.length_append, List.length_cons] at hln
    obtain ⟨t1, e1, r2, b2⟩ := text_setLoop ps (s.size + 1) (fun _ => false) t.go r hne hok (by omega) r1
    refine ⟨t1, ?_, r2, b2.trans hb⟩
    obtain ⟨y, ps', rfl⟩ := List.exists_cons_of_ne_nil hne
    obtain ⟨c, l, hl, hc⟩ := part_head (hok y (by simp))
    have hc2 := noteN_iff.1 hc
    have r1' : Rem s t.go.a (c :: (l ++ (ps'.flatMap Prt.text ++ 93 :: r))) := by
      have e : (y :: ps').flatMap Prt.text ++ 93 :: r = c :: (l ++ (ps'.flatMap Prt.text ++ 93 :: r)) := by simp [hl]
      rw [← e]; exact r1
    unfold atom0 setF
    rw [h'.sees, r1'.sees, decide_eq_false (show ¬ c = 94 by omega), e1]
    simp
  · have h' : Rem s t.a (91 :: 94 :: (ps.flatMap Prt.text ++ 93 :: r)) := by simpa using hr
    obtain ⟨b1, l1, r1⟩ := h'.cons
    obtain ⟨b2, l2, r2⟩ := r1.cons
    have hln := r2.len
    have hpl := parts_len ps
    simp only [List.length_append, List.length_cons] at hln
    obtain ⟨t1, e1, r3, b3⟩ := text_setLoop ps (s.size + 1) (fun _ => false) t.go.go r hne hok (by omega) r2
    refine ⟨t1, ?_, r3, b3.trans hb⟩
    have r1' : Rem s t.go.a (94 :: (ps.flatMap Prt.text ++ 93 :: r)) := r1
    unfold atom0 setF
    rw [h'.sees, r1'.sees, e1]
    simp
def NoMk (r : List Nat) : Prop := ∀ c r', r = c :: r' → c ≠ 42 ∧ c ≠ 43 ∧ c ≠ 63 ∧ c ≠ 123
theorem count_just {u : Sp} {n : Nat} {r : List Nat} (hn : n ≤ 9) (h : Rem s u.a ((48 + n) :: 125 :: r)) : countF s u = .ok (n, n, false) u.go.go ∧ Rem s u.go.go.a r := by
  obtain ⟨c2, _, r3⟩ := h.cons
  obtain ⟨_, _, r4⟩ := r3.cons
  refine ⟨?_, r4⟩
  unfold countF
  rw [h.digit, isDigit_of hn, r3.sees, c2]
  simp
theorem count_more {u : Sp} {n : Nat} {r : List Nat} (hn : n ≤ 9) (h : Rem s u.a ((48 + n) :: 44 :: 125 :: r)) : countF s u = .ok (n, n + 1, true) u.go.go.go ∧ Rem s u.go.go.go.a r := by
  obtain ⟨c2, _, r3⟩ := h.cons
  obtain ⟨_, _, r4⟩ := r3.cons
  obtain ⟨_, _, r5⟩ := r4.cons
  refine ⟨?_, r5⟩
  unfold countF
  rw [h.digit, isDigit_of hn, r3.sees, r3.sees, r4.sees, c2]
  simp
theorem count_span {u : Sp} {n k : Nat} {r : List Nat} (hn : n ≤ k ∧ k ≤ 9) (h : Rem s u.a ((48 + n) :: 44 :: (48 + k) :: 125 :: r)) : countF s u = .ok (n, k, false) u.go.go.go.go ∧ Rem s u.go.go.go.go.a r := by
  obtain ⟨c2, _, r3⟩ := h.cons
  obtain ⟨_, _, r4⟩ := r3.cons
  obtain ⟨c4, _, r5⟩ := r4.cons
  obtain ⟨_, _, r6⟩ := r5.cons
  refine ⟨?_, r6⟩
  unfold countF
  rw [h.digit, isDigit_of (by omega), r3.sees, r3.sees, r4.sees, r4.digit, isDigit_of hn.2, r5.sees, c2, c4, Nat.add_sub_cancel_left, Nat.add_sub_cancel_left, spanF_id hn.1, decide_eq_false (show ¬ 48 + k = 125 by omega)]
  simp
theorem text_item {A : List Nat → Pat → Prop} {atom : Sp → Res Pat} (ha : Knows s A atom) {i : Itm} (hA : A i.la i.q) (hm : i.m.ok) {r : List Nat} (hr : NoMk r) {t : Sp} (hb : t.bk = false) (h : Rem s t.a (i.text ++ r)) :
    ∃ t', itemF s atom t = .ok i.pat t' ∧ Rem s t'.a r ∧ t'.bk = false := by
  obtain ⟨la, q, m⟩ := i
  have h' : Rem s t.a (la ++ (m.text ++ r)) := by rw [← List.append_assoc]; exact h
  obtain ⟨t1, e1, r1, b1⟩ := ha.2 la q (m.text ++ r) t hA hb h'
  unfold itemF Itm.pat
  rw [e1]
  cases m with
  | none =>
    have r1' : Rem s t1.a r := r1
    refine ⟨t1, ?_, r1', b1⟩
    cases r with
    | nil => simp [r1'.sees0, Mk.app]
    | cons c r =>
      obtain ⟨n1, n2, n3, n4⟩ := hr c r rfl
      simp [r1'.sees, Mk.app, n1, n2, n3, n4]
  | star =>
    have r1' : Rem s t1.a (42 :: r) := r1
    obtain ⟨_, _, r2⟩ := r1'.cons
    exact ⟨t1.go, by simp [r1'.sees, Mk.app], r2, b1⟩
  | plus =>
    have r1' : Rem s t1.a (43 :: r) := r1
    obtain ⟨_, _, r2⟩ := r1'.cons
    exact ⟨t1.go, by simp [r1'.sees, Mk.app], r2, b1⟩
  | opt =>
    have r1' : Rem s t1.a (63 :: r) := r1
    obtain ⟨_, _, r2⟩ := r1'.cons
    exact ⟨t1.go, by simp [r1'.sees, Mk.app], r2, b1⟩
  | just n =>
    have r1' : Rem s t1.a (123 :: (48 + n) :: 125 :: r) := r1
    obtain ⟨_, _, r2⟩ := r1'.cons
    obtain ⟨e2, r4⟩ := count_just (u := t1.go) hm r2
    exact ⟨t1.go.go.go, by simp [r1'.sees, Mk.app, e2], r4, b1⟩
  | more n =>
    have r1' : Rem s t1.a (123 :: (48 + n) :: 44 :: 125 :: r) := r1
    obtain ⟨_, _, r2⟩ := r1'.cons
    obtain ⟨e2, r4⟩ := count_more (u := t1.go) hm r2
    exact ⟨t1.go.go.go.go, by simp [r1'.sees, Mk.app, e2], r4, b1⟩
  | span n k =>
    have r1' : Rem s t1.a (123 :: (48 + n) :: 44 :: (48 + k) :: 125 :: r) := r1
    obtain ⟨_, _, r2⟩ := r1'.cons
    obtain ⟨e2, r4⟩ := count_span (u := t1.go) hm r2
    exact ⟨t1.go.go.go.go.go, by simp [r1'.sees, Mk.app, e2], r4, b1⟩
theorem opens_no {c : Nat} (h : Opens c) : c ≠ 42 ∧ c ≠ 43 ∧ c ≠ 63 ∧ c ≠ 123 ∧ c ≠ 124 ∧ c ≠ 41 := by
  rcases h with h | h | h | h
  · have := noteN_iff.1 h; omega
  all_goals omega
def Ends (r : List Nat) : Prop := ∀ c r', r = c :: r' → c = 124 ∨ c = 41
theorem text_seq {A : List Nat → Pat → Prop} {atom : Sp → Res Pat} (ha : Knows s A atom) (its : List Itm) : ∀ (n : Nat) (p : Pat) (t : Sp) (r : List Nat), (∀ i ∈ its, A i.la i.q ∧ i.m.ok) → its.length < n → Ends r → t.bk = false → Rem s t.a (its.flatMap Itm.text ++ r) →
    ∃ t', seqF s atom n p t = .ok (chainL p its) t' ∧ Rem s t'.a r ∧ t'.bk = false := by
  induction its with
  | nil =>
    intro n p t r _ hn he hb h
    obtain ⟨n, rfl⟩ : ∃ m, n = m + 1 := ⟨n - 1, by omega⟩
    have h' : Rem s t.a r := h
    refine ⟨t, ?_, h', hb⟩
    simp only [seqF]
    have : endHere s t.a = true := by
      cases r with
      | nil => exact h'.end0
      | cons c r =>
        rw [h'.end_]
        rcases he c r rfl with rfl | rfl <;> rfl
    rw [this]
    simp [chainL]
  | cons i its ih =>
    intro n p t r hok hn he hb h
    obtain ⟨n, rfl⟩ : ∃ m, n = m + 1 := ⟨n - 1, by simp at hn; omega⟩
    obtain ⟨hA, hm⟩ := hok i (by simp)
    obtain ⟨c, l', hl, hc⟩ := ha.1 _ _ hA
    have hno := opens_no hc
    have h' : Rem s t.a (i.text ++ (its.flatMap Itm.text ++ r)) := by simpa using h
    have hmk : NoMk (its.flatMap Itm.text ++ r) := by
      intro c' r' e
      cases its with
      | nil =>
        rcases he c' r' e with rfl | rfl <;> decide
      | cons j its =>
        obtain ⟨c2, l2, hl2, hc2⟩ := ha.1 _ _ (hok j (by simp)).1
        have hno2 := opens_no hc2
        simp only [List.flatMap_cons, Itm.text, hl2, List.cons_append] at e
        injection e with e1 _
        subst e1
        exact ⟨hno2.1, hno2.2.1, hno2.2.2.1, hno2.2.2.2.1⟩
    obtain ⟨t1, e1, r1, b1⟩ := text_item ha hA hm hmk hb h'
    obtain ⟨t2, e2, r2, b2⟩ := ih n (.chain p i.pat) t1 r (fun j hj => hok j (by simp [hj])) (by simp at hn; omega) he b1 r1
    refine ⟨t2, ?_, r2, b2⟩
    simp only [seqF]
    have : endHere s t.a = false := by
      have h3 : Rem s t.a (c :: (l' ++ (i.m.text ++ (its.flatMap Itm.text ++ r)))) := by
        simpa [Itm.text, hl] using h'
      rw [h3.end_]
      simp [hno.2.2.2.2.1, hno.2.2.2.2.2]
    rw [this, e1]
    simpa [chainL] using e2
theorem items_len {A : List Nat → Pat → Prop} {atom : Sp → Res Pat} (ha : Knows s A atom) (its : List Itm) (hok : ∀ i ∈ its, A i.la i.q ∧ i.m.ok) : its.length ≤ (its.flatMap Itm.text).length := by
  induction its with
  | nil => simp
  | cons i its ih =>
    obtain ⟨c, l', hl, _⟩ := ha.1 _ _ (hok i (by simp)).1
    have := ih (fun j hj => hok j (by simp [hj]))
    simp only [List.flatMap_cons, List.length_cons, List.length_append, Itm.text, hl]
    omega
def Shuts (r : List Nat) : Prop := ∀ c r', r = c :: r' → c = 41
theorem text_seqT {A : List Nat → Pat → Prop} {atom : Sp → Res Pat} (ha : Knows s A atom) {l : List Nat} {p : Pat} (h : SeqT A l p) {r : List Nat} (he : Ends r) {t : Sp} (hb : t.bk = false) (hr : Rem s t.a (l ++ r)) :
    ∃ t', seqF s atom (s.size + 1) .none t = .ok p t' ∧ Rem s t'.a r ∧ t'.bk = false := by
  obtain ⟨its, hok, rfl, rfl⟩ := h
  have h1 := hr.len
  have h2 := items_len ha its hok
  rw [List.length_append] at h1
  exact text_seq ha its (s.size + 1) .none t r hok (by omega) he hb hr
theorem text_patLoop {A : List Nat → Pat → Prop} {atom : Sp → Res Pat} (ha : Knows s A atom) (xs : List (List Nat × Pat)) : ∀ (n : Nat) (p : Pat) (t : Sp) (r : List Nat), (∀ y ∈ xs, SeqT A y.1 y.2) → xs.length < n → Shuts r → t.bk = false → Rem s t.a (barsL xs ++ r) →
    ∃ t', patLoop s atom n p t = .ok (altL p xs) t' ∧ Rem s t'.a r ∧ t'.bk = false := by
  induction xs with
  | nil =>
    intro n p t r _ hn he hb h
    obtain ⟨n, rfl⟩ : ∃ m, n = m + 1 := ⟨n - 1, by omega⟩
    have h' : Rem s t.a r := h
    refine ⟨t, ?_, h', hb⟩
    simp only [patLoop]
    have : hit s t.a 124 = false := by
      cases r with
      | nil => exact h'.sees0 _
      | cons c r =>
        rw [h'.sees, he c r rfl]; rfl
    rw [this]
    simp [altL]
  | cons y xs ih =>
    intro n p t r hok hn he hb h
    obtain ⟨n, rfl⟩ : ∃ m, n = m + 1 := ⟨n - 1, by simp at hn; omega⟩
    have h' : Rem s t.a (124 :: (y.1 ++ (barsL xs ++ r))) := by simpa [barsL] using h
    obtain ⟨_, _, r1⟩ := h'.cons
    have hen : Ends (barsL xs ++ r) := by
      intro c r' e
      cases xs with
      | nil => exact .inr (he c r' e)
      | cons z xs =>
        simp only [barsL, List.flatMap_cons, List.cons_append] at e
        injection e with e1 _
        exact .inl e1.symm
    obtain ⟨t1, e1, r2, b2⟩ := text_seqT ha (hok y (by simp)) hen (t := t.go) hb r1
    obtain ⟨t2, e2, r3, b3⟩ := ih n (.alt p y.2) t1 r (fun z hz => hok z (by simp [hz])) (by simp at hn; omega) he b2 r2
    refine ⟨t2, ?_, r3, b3⟩
    simp only [patLoop]
    rw [h'.sees, e1]
    simpa [altL] using e2
theorem bars_len (xs : List (List Nat × Pat)) : xs.length ≤ (barsL xs).length := by
  induction xs with
  | nil => simp
  | cons y xs ih =>
    unfold barsL at ih ⊢
    simp only [List.flatMap_cons, List.length_cons, List.length_append]
    omega
theorem text_pat {A : List Nat → Pat → Prop} {atom : Sp → Res Pat} (ha : Knows s A atom) {l : List Nat} {p : Pat} (h : PatT A l p) {r : List Nat} (he : Shuts r) {t : Sp} (hb : t.bk = false) (hr : Rem s t.a (l ++ r)) :
    ∃ t', patF s atom t = .ok p t' ∧ Rem s t'.a r ∧ t'.bk = false := by
  obtain ⟨x, xs, hx, hxs, rfl, rfl⟩ := h
  have hen : Ends (barsL xs ++ r) := by
    intro c r' e
    cases xs with
    | nil => exact .inr (he c r' e)
    | cons z xs =>
      simp only [barsL, List.flatMap_cons, List.cons_append] at e
      injection e with e1 _
      exact .inl e1.symm
  have hr' : Rem s t.a (x.1 ++ (barsL xs ++ r)) := by simpa using hr
  have h1 := hr'.len
  have h2 := bars_len xs
  simp only [List.length_append] at h1
  obtain ⟨t1, e1, r1, b1⟩ := text_seqT ha hx hen hb hr'
  obtain ⟨t2, e2, r2, b2⟩ := text_patLoop ha xs (s.size + 1) x.2 t1 r hxs (by omega) he b1 r1
  refine ⟨t2, ?_, r2, b2⟩
  unfold patF
  rw [e1]
  exact e2
theorem atom_knows (s : ByteArray) (k : Nat) : Knows s (AtomT k) (atomF s k) := by
  induction k with
  | zero => exact ⟨fun l p h => by obtain ⟨c, l', h1, h2, _⟩ := atom0_opens h; exact ⟨c, l', h1, h2⟩, fun l p r t h hb hr => text_atom0 h hb hr⟩
  | succ k ih =>
    refine ⟨fun l p h => ?_, fun l p r t h hb hr => ?_⟩
    · rcases h with h | ⟨l', rfl, _⟩
      · obtain ⟨c, l', h1, h2, _⟩ := atom0_opens h
        exact ⟨c, l', h1, h2⟩
      · exact ⟨40, _, rfl, .inr (.inr (.inr rfl))⟩
    · simp only [atomF]
      rcases h with h | ⟨l', rfl, h⟩
      · obtain ⟨c, l', rfl, _, h3⟩ := atom0_opens h
        have hr' : Rem s t.a (c :: (l' ++ r)) := hr
        rw [hr'.sees, decide_eq_false h3]
        simpa using text_atom0 h hb hr
      · have hr' : Rem s t.a (40 :: (l' ++ 41 :: r)) := by simpa using hr
        obtain ⟨_, _, r1⟩ := hr'.cons
        obtain ⟨t1, e1, r2, b2⟩ := text_pat ih h (r := 41 :: r) (fun c r' e => by injection e with e1 _; exact e1.symm) (t := t.go) hb r1
        obtain ⟨_, _, r3⟩ := r2.cons
        refine ⟨t1.go, ?_, r3, b2⟩
        rw [hr'.sees, e1]
        simp [r2.sees]
theorem text_parse {p : Pat} (h : PatT (AtomT 6) (txt s) p) : ∃ t, parseF s = .ok p t ∧ t.a = s.size ∧ t.bk = false := by
  obtain ⟨t, e, r, b⟩ := text_pat (atom_knows s 6) h (r := []) (fun c r' e => by simp at e) (t := ⟨0, false, 0⟩) rfl (by unfold Rem; simp)
  have h1 := r.nil
  have h2 := (patF_goes (atomF_goes 6) (by simp) e)
  exact ⟨t, e, by omega, b⟩
end
end Go.Proofs.Ytpngikmcjkjdaab

namespace Go.Proofs.Ytpngikmcjkjdaab
set_option linter.unusedVariables false
inductive Ex where
  | nil : Ex
  | one (S : Nat → Bool) : Ex
  | thn (a b : Ex) : Ex
  | alt (a b : Ex) : Ex
  | star (a : Ex) : Ex
def Ex.lang : Ex → List Nat → Prop
  | .nil => fun x => x = []
  | .one S => fun x => ∃ c, x = [c] ∧ S c = true
  | .thn a b => Cat a.lang b.lang
  | .alt a b => fun x => a.lang x ∨ b.lang x
  | .star a => Star a.lang
theorem cat_nil_left {l : List Nat → Prop} (x : List Nat) : Cat (fun x => x = []) l x ↔ l x :=
  ⟨fun ⟨u, v, e, hu, hv⟩ => by subst hu; rw [e]; exact hv, fun h => ⟨[], x, rfl, rfl, h⟩⟩
def Ex.empty : Ex → Bool
  | .nil => true
  | .one _ => false
  | .thn a b => a.empty && b.empty
  | .alt a b => a.empty || b.empty
  | .star _ => true
end Go.Proofs.Ytpngikmcjkjdaab

namespace Go.Proofs.Ytpngikmcjkjdaab
set_option linter.unusedVariables false
set_option linter.unusedSimpArgs false
theorem cat_nl (l : List Nat → Prop) : Cat (fun x => x = []) l = l := funext fun x => propext (cat_nil_left x)
theorem copy_star {l : List Nat → Prop} {lo i : Nat} (h : ¬ i < lo) : Copy l lo i true = Star l := by funext x; simp [Copy, h]
theorem PatT.mono {A B : List Nat → Pat → Prop} (h : ∀ l p, A l p → B l p) {l : List Nat} {p : Pat} (hp : PatT A l p) : PatT B l p := by
  have hs : ∀ l p, SeqT A l p → SeqT B l p := fun l p ⟨its, h1, h2, h3⟩ => ⟨its, fun i hi => ⟨h _ _ (h1 i hi).1, (h1 i hi).2⟩, h2, h3⟩
  obtain ⟨x, xs, h1, h2, h3, h4⟩ := hp
  exact ⟨x, xs, hs _ _ h1, fun y hy => hs _ _ (h2 y hy), h3, h4⟩
theorem AtomT.zero {k : Nat} {l : List Nat} {p : Pat} (h : Atom0T l p) : AtomT k l p := by
  cases k
  · exact h
  · exact .inl h
theorem PatT.zero {k : Nat} {l : List Nat} {p : Pat} (h : PatT Atom0T l p) : PatT (AtomT k) l p := h.mono fun _ _ => AtomT.zero
theorem AtomT.par {k : Nat} {l : List Nat} {p : Pat} (h : PatT (AtomT k) l p) : AtomT (k + 1) (40 :: l ++ [41]) p := .inr ⟨l, rfl, h⟩
theorem PatT.items {A : List Nat → Pat → Prop} (its : List Itm) (h : ∀ i ∈ its, A i.la i.q ∧ i.m.ok) : PatT A (its.flatMap Itm.text) (chainL .none its) :=
  ⟨(its.flatMap Itm.text, chainL .none its), [], ⟨its, h, rfl, rfl⟩, by simp, by simp [barsL], rfl⟩
theorem PatT.one {A : List Nat → Pat → Prop} {la : List Nat} {q : Pat} (m : Mk) (h : A la q) (hm : m.ok) : PatT A (la ++ m.text) (.chain .none (m.app q)) := by
  have := PatT.items (A := A) [⟨la, q, m⟩] (by intro i hi; simp at hi; subst hi; exact ⟨h, hm⟩)
  simpa [Itm.text, chainL, Itm.pat] using this
theorem PatT.two {A : List Nat → Pat → Prop} {la lb : List Nat} {q r : Pat} (m n : Mk) (h : A la q) (hm : m.ok) (h' : A lb r) (hn : n.ok) : PatT A (la ++ m.text ++ (lb ++ n.text)) (.chain (.chain .none (m.app q)) (n.app r)) := by
  have := PatT.items (A := A) [⟨la, q, m⟩, ⟨lb, r, n⟩] (by
                                                                                          intro i hi
                                                                                          simp at hi
                                                                                          rcases hi with rfl | rfl
                                                                                          · exact ⟨h, hm⟩
                                                                                          · exact ⟨h', hn⟩)
  simpa [Itm.text, chainL, Itm.pat] using this
theorem SeqT.one {A : List Nat → Pat → Prop} {la : List Nat} {q : Pat} (m : Mk) (h : A la q) (hm : m.ok) : SeqT A (la ++ m.text) (.chain .none (m.app q)) :=
  ⟨[⟨la, q, m⟩], by intro i hi; simp at hi; subst hi; exact ⟨h, hm⟩, by simp [Itm.text], rfl⟩
theorem SeqT.nil {A : List Nat → Pat → Prop} : SeqT A [] .none := ⟨[], by simp, rfl, rfl⟩
theorem SeqT.pat {A : List Nat → Pat → Prop} {l : List Nat} {p : Pat} (h : SeqT A l p) : PatT A l p := ⟨(l, p), [], h, by simp, by simp [barsL], rfl⟩
def Tells (t : List Nat) (L : List Nat → Prop) : Prop := ∃ p, PatT (AtomT 6) t p ∧ p.size ≤ 10 ∧ p.lang = L
section
variable {la : List Nat} {q : Pat}
theorem tells_item (h : AtomT 6 la q) (m : Mk) (hm : m.ok) (hz : (m.app q).size ≤ 10) : Tells (la ++ m.text) (m.app q).lang :=
  ⟨_, .one m h hm, by show 0 + _ ≤ 10; omega, cat_nl _⟩
theorem star_lang (q : Pat) : (Mk.star.app q).lang = Star q.lang := by show Cat _ _ = _; rw [copy_star (by decide)]; exact cat_nl _
end
end Go.Proofs.Ytpngikmcjkjdaab

namespace Go.Proofs.Ytpngikmcjkjdaab
set_option linter.unusedVariables false
def Eqv (M : Tab) (i j : Nat) : Prop := ∀ x, Notes x → M.acc (M.read i x) = M.acc (M.read j x)
theorem Eqv.refl (M : Tab) (i : Nat) : Eqv M i i := fun _ _ => rfl
theorem Eqv.symm {M : Tab} {i j : Nat} (h : Eqv M i j) : Eqv M j i := fun x hx => (h x hx).symm
theorem Eqv.trans {M : Tab} {i j k : Nat} (h : Eqv M i j) (h' : Eqv M j k) : Eqv M i k := fun x hx => (h x hx).trans (h' x hx)
theorem Eqv.nxt {M : Tab} {i j : Nat} (h : Eqv M i j) (c : Nat) (hc : c < 8) : Eqv M (M.nxt i c) (M.nxt j c) := fun x hx => h (c :: x) (by
  intro d hd
  simp only [List.mem_cons] at hd
  rcases hd with rfl | hd
  · exact hc
  · exact hx d hd)
theorem Eqv.acc {M : Tab} {i j : Nat} (h : Eqv M i j) : M.acc i = M.acc j := h [] (by intro d hd; simp at hd)
noncomputable def crTo (M : Tab) (s : Nat) : Nat → Nat
  | 0 => s
  | k + 1 => @ite _ (Eqv M (s - (k + 1)) s) (Classical.propDecidable _) (min (s - (k + 1)) (crTo M s k)) (crTo M s k)
noncomputable def cr (M : Tab) (s : Nat) : Nat := crTo M s s
theorem crTo_spec (M : Tab) (s : Nat) : ∀ k, k ≤ s → crTo M s k ≤ s ∧ Eqv M (crTo M s k) s ∧ ∀ t, s - k ≤ t → t ≤ s → Eqv M t s → crTo M s k ≤ t := by
  intro k
  induction k with
  | zero => intro _; exact ⟨Nat.le_refl _, Eqv.refl _ _, fun t h1 h2 _ => h1⟩
  | succ k ih =>
    intro hk
    obtain ⟨a, b, c⟩ := ih (by omega)
    simp only [crTo]
    by_cases e : Eqv M (s - (k + 1)) s
    · rw [if_pos e]
      refine ⟨by omega, ?_, fun t h1 h2 h3 => ?_⟩
      · by_cases h : s - (k + 1) ≤ crTo M s k
        · rw [Nat.min_eq_left h]; exact e
        · rw [Nat.min_eq_right (by omega)]; exact b
      · by_cases h : t = s - (k + 1)
        · subst h; exact Nat.min_le_left _ _
        · have := c t (by omega) h2 h3; exact Nat.le_trans (Nat.min_le_right _ _) this
    · rw [if_neg e]
      refine ⟨a, b, fun t h1 h2 h3 => ?_⟩
      by_cases h : t = s - (k + 1)
      · subst h; exact absurd h3 e
      · exact c t (by omega) h2 h3
theorem cr_le (M : Tab) (s : Nat) : cr M s ≤ s := (crTo_spec M s s (Nat.le_refl _)).1
theorem cr_eqv (M : Tab) (s : Nat) : Eqv M (cr M s) s := (crTo_spec M s s (Nat.le_refl _)).2.1
theorem cr_min (M : Tab) (s t : Nat) (h : t ≤ s) (he : Eqv M t s) : cr M s ≤ t := (crTo_spec M s s (Nat.le_refl _)).2.2 t (by omega) h he
theorem cr_of_eqv {M : Tab} {s t : Nat} (h : Eqv M s t) : cr M s = cr M t := by
  have h1 := cr_eqv M s
  have h2 := cr_eqv M t
  have l1 := cr_le M s
  have l2 := cr_le M t
  apply Nat.le_antisymm
  · by_cases hh : cr M t ≤ s
    · exact cr_min M s _ hh (h2.trans h.symm)
    · omega
  · by_cases hh : cr M s ≤ t
    · exact cr_min M t _ hh (h1.trans h)
    · omega
theorem cr_cr (M : Tab) (s : Nat) : cr M (cr M s) = cr M s := cr_of_eqv (cr_eqv M s)
noncomputable def crS (M : Tab) (q c : Nat) : Nat := cr M (M.nxt q c)
noncomputable def quotTab (M : Tab) (ps : List Nat) : Tab where
  n := ps.length
  acc k := M.acc (ps.getD k 0)
  nxt := pn (crS M) ps
def goodC (M : Tab) (q : Nat) : Prop := q < M.n ∧ cr M q = q
theorem quot_numbered {M : Tab} {ps : List Nat} (h : PRel (goodC M) (crS M) ps (8 * ps.length)) : Numbered (quotTab M ps) where
  pos := h.len
  nx i c hi hc := by
    have := (h.clo (8 * i + c) (by have : i < ps.length := hi; omega)).2
    rw [show (8 * i + c) / 8 = i by omega, show (8 * i + c) % 8 = c by omega] at this
    exact List.idxOf_lt_length_of_mem this
  step p hp := h.num p hp
  row i hi := h.row i (by have : i < ps.length := hi; omega)
  all := h.cm
theorem quot_read {M : Tab} {ps : List Nat} (h : PRel (goodC M) (crS M) ps (8 * ps.length)) (k : Nat) (hk : k < ps.length) (x : List Nat) (hx : Notes x) :
    (quotTab M ps).read k x < ps.length ∧ Eqv M (ps.getD ((quotTab M ps).read k x) 0) (M.read (ps.getD k 0) x) := by
  induction x generalizing k with
  | nil => exact ⟨hk, Eqv.refl _ _⟩
  | cons c x ih =>
    have hc : c < 8 := hx c (by simp)
    have hx' : Notes x := fun d hd => hx d (by simp [hd])
    have hcl := (h.clo (8 * k + c) (by omega)).2
    rw [show (8 * k + c) / 8 = k by omega, show (8 * k + c) % 8 = c by omega] at hcl
    have hlt : (quotTab M ps).nxt k c < ps.length := List.idxOf_lt_length_of_mem hcl
    have he : ps.getD ((quotTab M ps).nxt k c) 0 = crS M (ps.getD k 0) c := getD_idxOf ps _ hcl
    simp only [Tab.read, List.foldl_cons]
    have := ih _ hlt hx'
    rw [he] at this
    refine ⟨this.1, this.2.trans ?_⟩
    intro y hy
    have hq : Eqv M (crS M (ps.getD k 0) c) (M.nxt (ps.getD k 0) c) := cr_eqv M _
    have := hq (x ++ y) (by
      intro d hd
      simp only [List.mem_append] at hd
      rcases hd with hd | hd
      · exact hx' d hd
      · exact hy d hd)
    rw [Tab.read_append, Tab.read_append] at this
    exact this
theorem quot_least {M : Tab} {ps : List Nat} (h : PRel (goodC M) (crS M) ps (8 * ps.length)) : IsLeast (quotTab M ps) M.accepts where
  num := quot_numbered h
  apart i j hi hj hij := by
    have hi' : i < ps.length := hi
    have hj' : j < ps.length := hj
    have g1 := h.inr _ (getD_mem ps i hi')
    have g2 := h.inr _ (getD_mem ps j hj')
    have hne : ps.getD i 0 ≠ ps.getD j 0 := by
      intro e
      apply hij
      have hnd := h.nd
      rw [List.Nodup, List.pairwise_iff_getElem] at hnd
      rw [List.getD_eq_getElem?_getD, List.getElem?_eq_getElem hi', List.getD_eq_getElem?_getD, List.getElem?_eq_getElem hj'] at e
      simp only [Option.getD_some] at e
      rcases Nat.lt_trichotomy i j with hlt | heq | hlt
      · exact absurd e (hnd i j hi' hj' hlt)
      · exact heq
      · exact absurd e.symm (hnd j i hj' hi' hlt)
    have hap : ¬ Eqv M (ps.getD i 0) (ps.getD j 0) := by
      intro e
      have := cr_of_eqv e
      rw [g1.2, g2.2] at this
      exact hne this
    apply Classical.byContradiction
    intro hn
    apply hap
    intro x hx
    have r1 := (quot_read h i hi' x hx).2.acc
    have r2 := (quot_read h j hj' x hx).2.acc
    rw [← r1, ← r2]
    apply Classical.byContradiction
    intro hd
    exact hn ⟨x, hx, hd⟩
  lang x hx := by
    have := (quot_read h 0 h.len x hx).2.acc
    rw [h.hd] at this
    exact this
end Go.Proofs.Ytpngikmcjkjdaab

namespace Go.Proofs.Ytpngikmcjkjdaab
set_option linter.unusedVariables false
set_option linter.unusedSimpArgs false
theorem prel_bd {M : Tab} {S : Nat → Nat → Nat} {ps : List Nat} {p : Nat} (h : PRel (goodC M) S ps p) : ps.length ≤ M.n := nodup_bound M.n ps h.nd (fun x hx => (h.inr x hx).1)
theorem prel_all {M : Tab} (hnx : ∀ i c, i < M.n → c < 8 → M.nxt i c < M.n) : ∀ (k : Nat) (ps : List Nat) (p : Nat), PRel (goodC M) (crS M) ps p → p ≤ 8 * ps.length → 8 * M.n - p ≤ k → ∃ qs, PRel (goodC M) (crS M) qs (8 * qs.length) := by
  intro k
  induction k with
  | zero =>
    intro ps p h hp hk
    have := prel_bd h
    exact ⟨ps, by rw [show 8 * ps.length = p by omega]; exact h⟩
  | succ k ih =>
    intro ps p h hp hk
    by_cases he : p = 8 * ps.length
    · exact ⟨ps, by rw [← he]; exact h⟩
    · have hb := prel_bd h
      have hlt : p / 8 < ps.length := by omega
      by_cases hq : crS M (ps.getD (p / 8) 0) (p % 8) ∈ ps
      · exact ih ps (p + 1) (h.old hlt hq) (by omega) (by omega)
      · have hg := h.inr _ (getD_mem ps (p / 8) hlt)
        have hn := hnx (ps.getD (p / 8) 0) (p % 8) hg.1 (by omega)
        exact ih _ (p + 1) (h.new hlt hq ⟨by have := cr_le M (M.nxt (ps.getD (p / 8) 0) (p % 8)); show cr M _ < M.n; omega, cr_cr M _⟩) (by simp; omega) (by omega)
theorem least_ex {M : Tab} (hM : M.Ok) : ∃ R, IsLeast R M.accepts ∧ R.n ≤ M.n := by
  have l1 := hM.lo
  have hg0 : goodC M 0 := ⟨by omega, by have := cr_le M 0; omega⟩
  obtain ⟨qs, h⟩ := prel_all hM.nx (8 * M.n) [0] 0 (PRel.start hg0) (by simp) (by omega)
  exact ⟨quotTab M qs, quot_least h, prel_bd h⟩
theorem IsLeast.to {R : Tab} {L L' : List Nat → Bool} (h : IsLeast R L) (he : ∀ x, Notes x → L x = L' x) : IsLeast R L' := ⟨h.num, h.apart, fun x hx => (h.lang x hx).trans (he x hx)⟩
theorem least_of {M : Tab} {L : List Nat → Bool} (hM : M.Ok) (hL : ∀ x, Notes x → M.accepts x = L x) : ∃ R, IsLeast R L ∧ R.n ≤ M.n := by
  obtain ⟨R, h1, h2⟩ := least_ex hM
  exact ⟨R, h1.to hL, h2⟩
theorem IsLeast.isOk {R : Tab} {L : List Nat → Bool} (h : IsLeast R L) (hn : R.n ≤ 40) : R.Ok := ⟨h.num.pos, hn, h.num.nx⟩
end Go.Proofs.Ytpngikmcjkjdaab

namespace Go.Proofs.Ytpngikmcjkjdaab
open Go.RowKit
set_option linter.unusedVariables false
set_option linter.unusedSimpArgs false
noncomputable def langB (L : List Nat → Prop) (x : List Nat) : Bool := @decide (L x) (Classical.propDecidable _)
theorem langB_iff (L : List Nat → Prop) (x : List Nat) : langB L x = true ↔ L x := by unfold langB; simp
theorem compile_text (s : ByteArray) (b : Nat) (w : World) {L : List Nat → Prop} (h : Tells (txt s) L) (hs : s.size ≤ 40) (hb1 : 1 ≤ b) (hb2 : b ≤ 40) :
    Calls Try.prog 13 #[.string s, .int .i64 (b : Int)] w fun e w' => ∃ n, CompPost (langB L) b n w e w' := by
  obtain ⟨p, h1, h2, rfl⟩ := h
  obtain ⟨t, h3, h4, h5⟩ := text_parse h1
  exact compile_ok s b w h3 h4 h5 h2 hs hb1 hb2
def CompYes (L : List Nat → Bool) (w : World) (e : Ending) (w' : World) : Prop := Below w.heap.size w w' ∧ ∃ (R : Tab) (V : Lay), IsLeast R L ∧ R.n ≤ 40 ∧ e = .returned (.tuple #[.agg #[.slice (some ⟨V.ba, V.oa, none⟩) R.n V.ca, .slice (some ⟨V.bn, V.on, none⟩) R.n V.cn], .int .i64 0, .int .i64 0]) ∧ TabAt w' V R ∧ V.From w.heap.size R.n
theorem CompPost.yes {L : List Nat → Bool} {n : Nat} {w w' : World} {e : Ending} (h : CompPost L 40 n w e w') {M : Tab} (hM : M.Ok) (hL : ∀ x, Notes x → M.accepts x = L x) : CompYes L w e w' := by
  obtain ⟨v, er, rfl, hB, ⟨R, V, hR, hRd, hev, hT, hF, _⟩ | ⟨_, _, hno⟩⟩ := h
  · obtain ⟨rfl, rfl⟩ : v = _ ∧ er = _ := by simpa using hev
    exact ⟨hB, R, V, hR, hRd, rfl, hT, hF⟩
  · obtain ⟨R, h1, h2⟩ := least_of hM hL
    have := hno R h1
    have := hM.hi
    omega
end Go.Proofs.Ytpngikmcjkjdaab

namespace Go.Proofs.Ytpngikmcjkjdaab
set_option linter.unusedVariables false
def splitF : List Nat → Int → List Nat → List (List Nat)
  | [], _, cur => [cur]
  | c :: l, n, cur => if c = 40 then splitF l (n + 1) (cur ++ [c]) else if c = 41 then splitF l (n - 1) (cur ++ [c]) else if c = 124 ∧ n = 0 then cur :: splitF l n [] else splitF l n (cur ++ [c])
def closF : List Nat → Int → Nat → Nat
  | [], _, k => k
  | c :: l, n, k => if c = 40 then closF l (n + 1) (k + 1) else if c = 41 then (if n - 1 = 0 then k else closF l (n - 1) (k + 1)) else closF l n (k + 1)
def Flat (m : Int) (l : List Nat) : Prop := ∀ n cur rest, m ≤ n → splitF (l ++ rest) n cur = splitF rest n (cur ++ l)
def Skip (l : List Nat) : Prop := ∀ n k rest, 1 ≤ n → closF (l ++ rest) n k = closF rest n (k + l.length)
theorem Flat.nil (m : Int) : Flat m [] := fun n cur rest _ => by simp
theorem Flat.app {m : Int} {l l' : List Nat} (h : Flat m l) (h' : Flat m l') : Flat m (l ++ l') := fun n cur rest hn => by rw [List.append_assoc, h n cur _ hn, h' n _ rest hn, List.append_assoc]
theorem Flat.one {c : Nat} (m : Int) (h1 : c ≠ 40) (h2 : c ≠ 41) (h3 : c ≠ 124) : Flat m [c] := fun n cur rest _ => by
  simp only [List.cons_append, List.nil_append, splitF]
  rw [if_neg h1, if_neg h2, if_neg (fun h => h3 h.1)]
theorem Flat.mono {m m' : Int} {l : List Nat} (h : Flat m l) (hm : m ≤ m') : Flat m' l := fun n cur rest hn => h n cur rest (by omega)
theorem Flat.par {l : List Nat} (h : Flat 1 l) : Flat 0 (40 :: l ++ [41]) := fun n cur rest hn => by
  rw [show 40 :: l ++ [41] ++ rest = 40 :: (l ++ (41 :: rest)) by simp]
  rw [show splitF (40 :: (l ++ (41 :: rest))) n cur = splitF (l ++ (41 :: rest)) (n + 1) (cur ++ [40]) by simp [splitF]]
  rw [h (n + 1) _ _ (by omega)]
  rw [show splitF (41 :: rest) (n + 1) (cur ++ [40] ++ l) = splitF rest (n + 1 - 1) (cur ++ [40] ++ l ++ [41]) by simp [splitF]]
  rw [show n + 1 - 1 = n by omega]
  congr 1; simp
theorem Skip.nil : Skip [] := fun n k rest _ => by simp
theorem Skip.app {l l' : List Nat} (h : Skip l) (h' : Skip l') : Skip (l ++ l') := fun n k rest hn => by rw [List.append_assoc, h n k _ hn, h' n _ rest hn, List.length_append, Nat.add_assoc]
theorem Skip.one {c : Nat} (h1 : c ≠ 40) (h2 : c ≠ 41) : Skip [c] := fun n k rest _ => by
  simp only [List.cons_append, List.nil_append, closF]
  rw [if_neg h1, if_neg h2]; simp
theorem Skip.par {l : List Nat} (h : Skip l) : Skip (40 :: l ++ [41]) := fun n k rest hn => by
  rw [show 40 :: l ++ [41] ++ rest = 40 :: (l ++ (41 :: rest)) by simp]
  rw [show closF (40 :: (l ++ (41 :: rest))) n k = closF (l ++ (41 :: rest)) (n + 1) (k + 1) by simp [closF]]
  rw [h (n + 1) _ _ (by omega)]
  rw [show closF (41 :: rest) (n + 1) (k + 1 + l.length) = closF rest (n + 1 - 1) (k + 1 + l.length + 1) by
    simp only [closF]; rw [if_neg (by omega), if_pos trivial, if_neg (by omega)]]
  rw [show n + 1 - 1 = n by omega]
  congr 1; simp; omega
theorem Mk.plain {m : Mk} (h : m.ok) : ∀ c ∈ m.text, c ≠ 40 ∧ c ≠ 41 ∧ c ≠ 124 := by
  intro c hc
  cases m <;> simp [Mk.text] at hc <;> simp [Mk.ok] at h <;> omega
theorem Prt.plain {x : Prt} (h : x.ok) : ∀ c ∈ x.text, (97 ≤ c ∧ c ≤ 104) ∨ c = 45 := by
  intro c hc
  unfold Prt.text at hc
  obtain ⟨h1, h2, _, _⟩ := h
  cases hd : x.dash <;> rw [hd] at hc <;> simp at hc <;> omega
theorem prts_plain {ps : List Prt} (h : ∀ x ∈ ps, x.ok) : ∀ c ∈ ps.flatMap Prt.text, (97 ≤ c ∧ c ≤ 104) ∨ c = 45 := by
  intro c hc
  obtain ⟨x, hx, hc⟩ := List.mem_flatMap.1 hc
  exact Prt.plain (h x hx) c hc
theorem Atom0T.plain {l : List Nat} {p : Pat} (h : Atom0T l p) : ∀ c ∈ l, c ≠ 40 ∧ c ≠ 41 ∧ c ≠ 124 := by
  intro x hx
  rcases h with ⟨c, hc, rfl, _⟩ | ⟨rfl, _⟩ | ⟨ps, _, h1, ⟨rfl, _⟩ | ⟨rfl, _⟩⟩
  · simp at hx; omega
  · simp at hx; omega
  · simp only [List.cons_append, List.mem_cons, List.mem_append, List.not_mem_nil, or_false] at hx
    rcases hx with hx | hx | hx
    · omega
    · have := prts_plain h1 x hx; omega
    · omega
  · simp only [List.cons_append, List.mem_cons, List.mem_append, List.not_mem_nil, or_false] at hx
    rcases hx with hx | hx | hx | hx
    · omega
    · omega
    · have := prts_plain h1 x hx; omega
    · omega
theorem AtomT.head {k : Nat} {l : List Nat} {p : Pat} (h : AtomT k l p) : ∃ c l', l = c :: l' ∧ c ≠ 42 ∧ c ≠ 43 ∧ c ≠ 63 ∧ c ≠ 123 := by
  have h0 : ∀ {l : List Nat} {p : Pat}, Atom0T l p → ∃ c l', l = c :: l' ∧ c ≠ 42 ∧ c ≠ 43 ∧ c ≠ 63 ∧ c ≠ 123 := by
    intro l p h
    rcases h with ⟨c, hc, rfl, _⟩ | ⟨rfl, _⟩ | ⟨ps, _, h1, ⟨rfl, _⟩ | ⟨rfl, _⟩⟩
    · exact ⟨_, _, rfl, by omega, by omega, by omega, by omega⟩
    · exact ⟨_, _, rfl, by omega, by omega, by omega, by omega⟩
    · exact ⟨_, _, rfl, by omega, by omega, by omega, by omega⟩
    · exact ⟨_, _, rfl, by omega, by omega, by omega, by omega⟩
  cases k with
  | zero => exact h0 h
  | succ k =>
    rcases h with h | ⟨l', rfl, _⟩
    · exact h0 h
    · exact ⟨_, _, rfl, by omega, by omega, by omega, by omega⟩
def Mk.lo : Mk → Nat
  | .none => 1
  | .star => 0
  | .plus => 1
  | .opt => 0
  | .just n => n
  | .more n => n
  | .span n _ => n
def Mk.hi : Mk → Int
  | .none => 1
  | .star => -1
  | .plus => -1
  | .opt => 1
  | .just n => n
  | .more _ => -1
  | .span _ m => m
end Go.Proofs.Ytpngikmcjkjdaab

namespace Go.Proofs.Ytpngikmcjkjdaab
open Go.RowKit
set_option linter.unusedVariables false
set_option linter.unusedSimpArgs false
structure BoxK (w : World) (b : Nat) (V : Lay) (M : Tab) : Prop where
  blk : w.heap[b]? = some (.cells #[.slice (some ⟨V.ba, V.oa, none⟩) M.n V.ca, .slice (some ⟨V.bn, V.on, none⟩) M.n V.cn] 30 (0, 0))
  tab : TabAt w V M
theorem BoxK.below {w w' : World} {b : Nat} {V : Lay} {M : Tab} (h : BoxK w b V M) (hb : Below w.heap.size w w') : BoxK w' b V M :=
  ⟨by rw [hb.block _ (heap_lt h.blk)]; exact h.blk, h.tab.below hb⟩
theorem BoxK.new {w : World} {V : Lay} {M : Tab} (h : TabAt w V M) : BoxK (w.alloc (.cells #[.slice (some ⟨V.ba, V.oa, none⟩) M.n V.ca, .slice (some ⟨V.bn, V.on, none⟩) M.n V.cn] 30)) w.heap.size V M :=
  ⟨heap_at_new rfl, h.below ((Below.refl _ _).alloc (Nat.le_refl _) _)⟩
structure NilK (w : World) (b : Nat) : Prop where
  blk : w.heap[b]? = some (.cells #[.slice none 0 0, .slice none 0 0] 30 (0, 0))
theorem NilK.below {w w' : World} {b : Nat} (h : NilK w b) (hb : Below w.heap.size w w') : NilK w' b := ⟨by rw [hb.block _ (heap_lt h.blk)]; exact h.blk⟩
theorem NilK.new {w : World} : NilK (w.alloc (.cells #[.slice none 0 0, .slice none 0 0] 30)) w.heap.size := ⟨heap_at_new rfl⟩
def CompC (s : ByteArray) (L : List Nat → Bool) : Prop := ∀ w1 : World, Calls Try.prog 13 #[.string s, .int .i64 40] w1 fun e w' => CompYes L w1 e w'
theorem star_any (x : List Nat) : Star (fun x : List Nat => ∃ c, x = [c] ∧ (fun _ : Nat => true) c = true) x := by
  induction x with
  | nil => exact .nil
  | cons c x ih => exact .cons (u := [c]) ⟨c, rfl, rfl⟩ ih
theorem comp_any : ∃ L, CompC ⟨#[46, 42]⟩ L ∧ ∀ x, L x = true := by
  have h : Tells (txt ⟨#[46, 42]⟩) (Mk.star.app (.one (fun _ => true))).lang := tells_item (la := [46]) (AtomT.zero (.inr (.inl ⟨rfl, rfl⟩))) .star trivial (by decide)
  have hL : ∀ x, langB (Mk.star.app (.one (fun _ => true))).lang x = true := fun x => (langB_iff _ x).2 (by rw [star_lang]; exact star_any x)
  exact ⟨_, fun w1 => (compile_text _ 40 w1 h (by decide) (by omega) (by omega)).mono (fun e w' ⟨n, hn⟩ => hn.yes allTab_ok (fun x _ => by rw [hL]; rfl)), hL⟩
end Go.Proofs.Ytpngikmcjkjdaab

namespace Go.Proofs.Ytpngikmcjkjdaab
open Go.RowKit
set_option linter.unusedVariables false
set_option linter.unusedSimpArgs false
theorem SameT.drop {L1 L2 : List ByteArray} {t : Nat → ByteArray} {n p : Nat} {x : ByteArray} (h : SameT (L1 ++ x :: L2) t n) (hp : IsPl t n x p) : (p < n ∧ t p = x) ∧ SameT (L1 ++ L2) (del t p) (n - 1) := by
  have hx : x ∈ L1 ++ x :: L2 := by simp
  have hst : p < n ∧ t p = x := (hp.stands h.srt).1 ((h.mem x).1 hx)
  have hnd := h.nd
  have hxn : x ∉ L1 ++ L2 := by
    have := (List.perm_middle (a := x) (l₁ := L1) (l₂ := L2)).nodup_iff.1 hnd
    exact (List.nodup_cons.1 this).1
  have hmem : ∀ s, s ∈ L1 ++ x :: L2 ↔ s = x ∨ s ∈ L1 ++ L2 := fun s => by simp only [List.mem_append, List.mem_cons]; constructor <;> (rintro (h | h | h) <;> simp [h])
  refine ⟨hst, del_srt h.srt hst.1, by have := h.len; simp at this ⊢; omega, fun s => ?_, fun s hs => h.tun s ((hmem s).2 (.inr hs)), ?_⟩
  · constructor
    · intro hs
      obtain ⟨j, hj, e⟩ := (h.mem s).1 ((hmem s).2 (.inr hs))
      have hne : j ≠ p := by
        rintro rfl
        rw [hst.2] at e
        subst e
        exact hxn hs
      by_cases hjp : j < p
      · exact ⟨j, by omega, by unfold del; rw [if_pos hjp]; exact e⟩
      · exact ⟨j - 1, by omega, by unfold del; rw [if_neg (by omega), Nat.sub_add_cancel (by omega)]; exact e⟩
    · rintro ⟨j, hj, e⟩
      unfold del at e
      by_cases hjp : j < p
      · rw [if_pos hjp] at e
        have := (hmem s).1 ((h.mem s).2 ⟨j, by omega, e⟩)
        rcases this with rfl | hs
        · exact absurd (e.trans hst.2.symm) (less_ne (h.srt j p hjp hst.1))
        · exact hs
      · rw [if_neg hjp] at e
        have := (hmem s).1 ((h.mem s).2 ⟨j + 1, by omega, e⟩)
        rcases this with rfl | hs
        · exact absurd (hst.2.trans e.symm) (less_ne (h.srt p (j + 1) (by omega) (by omega)))
        · exact hs
  · have := (List.perm_middle (a := x) (l₁ := L1) (l₂ := L2)).nodup_iff.1 hnd
    exact (List.nodup_cons.1 this).2
end Go.Proofs.Ytpngikmcjkjdaab

namespace Go.Proofs.Ytpngikmcjkjdaab
open Go.RowKit
set_option linter.unusedVariables false
set_option linter.unusedSimpArgs false
structure ChsI (w w' : World) (bx n : Nat) (t : Nat → ByteArray) (va : Value) (L : List ByteArray) (vw : Value) (P : List ByteArray) : Prop where
  bel : Below w.heap.size w w'
  bk : BxAt w' bx t n cur0
  all : w'.ownsRow w.heap.size 9 1 va L.length (strs L)
  wnt : w'.ownsRow w.heap.size 9 1 vw P.length (strs P)
theorem ChsI.below {w w' w2 : World} {bx n : Nat} {t : Nat → ByteArray} {va vw : Value} {L P : List ByteArray} (h : ChsI w w' bx n t va L vw P) (hb : Below w'.heap.size w' w2) : ChsI w w2 bx n t va L vw P :=
  ⟨h.bel.trans (hb.mono h.bel.size), h.bk.below hb, ownsRow_below h.all hb, ownsRow_below h.wnt hb⟩
theorem ChsI.touch {w w' w2 : World} {bx n : Nat} {t : Nat → ByteArray} {va vw : Value} {L P : List ByteArray} (h : ChsI w w' bx n t va L vw P) (hbx : w.heap.size ≤ bx) (hT : Touch (fun j => j = bx) w' w2) (hx : BxAt w2 bx t n cur0) : ChsI w w2 bx n t va L vw P :=
  ⟨hT.below h.bel h.bel.size (fun k e => by omega), hx, hT.own h.all (fun g e hg => bx_own h.bk h.all e hg), hT.own h.wnt (fun g e hg => bx_own h.bk h.wnt e hg)⟩
end Go.Proofs.Ytpngikmcjkjdaab

namespace Go.Proofs.Ytpngikmcjkjdaab
open Go.RowKit
set_option linter.unusedVariables false
set_option linter.unusedSimpArgs false
theorem Touch.cutW {S : Nat → Prop} {W w2 : World} (hT : Touch S W w2) : ∃ Wv : World, Touch S W Wv ∧ Below Wv.heap.size Wv w2 ∧ Wv.heap.size = W.heap.size ∧ ∀ k, k < W.heap.size → Wv.heap[k]? = w2.heap[k]? := by
  have hsz := hT.size
  have hz : (w2.heap.extract 0 W.heap.size).size = W.heap.size := by simp; omega
  have hg : ∀ k, k < W.heap.size → (w2.heap.extract 0 W.heap.size)[k]? = w2.heap[k]? := fun k hk => by
    rw [Array.getElem?_extract]
    simp
    omega
  refine ⟨{ w2 with heap := w2.heap.extract 0 W.heap.size }, ⟨hT.os, hT.tape, hT.output, ?_, fun k hk hs => (hg k hk).trans (hT.block k hk hs)⟩, ⟨rfl, rfl, rfl, ?_, fun k hk => ?_⟩, hz, hg⟩
  · show W.heap.size ≤ (w2.heap.extract 0 W.heap.size).size
    omega
  · show (w2.heap.extract 0 W.heap.size).size ≤ w2.heap.size
    omega
  · have hk' : k < W.heap.size := by
      have : k < (w2.heap.extract 0 W.heap.size).size := hk
      omega
    exact (hg k hk').symm
theorem mv_add {L : List ByteArray} {t : Nat → ByteArray} {n p : Nat} {f : ByteArray} (h : SameT L t n) (hf : tuneB f = true) (hp : IsPl t n f p) (hn : n < 60) :
    ∃ Q, SameT Q (addT t n f p) (addN t n f p) ∧ (∀ s, s ∈ Q ↔ s ∈ L ∨ s = f) ∧ Q.length ≤ L.length + 1 ∧ addErr t n f p = 0 := by
  have hstd : (p < n ∧ t p = f) ↔ f ∈ L := by rw [h.mem f, hp.stands h.srt]
  by_cases hm : f ∈ L
  · have e1 : addOk t n f p = false := by simp [addOk, hstd.2 hm]
    have e2 : addErr t n f p = 0 := by simp [addErr, hf, hstd.2 hm]
    rw [addT, addN, e1, e2]
    refine ⟨L, h, fun s => ⟨.inl, ?_⟩, by omega, rfl⟩
    rintro (h' | rfl)
    · exact h'
    · exact hm
  · have hns : ¬ (p < n ∧ t p = f) := fun hh => hm (hstd.1 hh)
    have e1 : addOk t n f p = true := by simp only [addOk, hf, hns, hn, decide_false, decide_true, Bool.not_false, Bool.and_self]
    have e2 : addErr t n f p = 0 := by simp only [addErr, hf, hns, hn, if_true, if_false]
    rw [addT, addN, e1, e2]
    exact ⟨L ++ [f], h.add hm hf hp, fun s => by simp, by simp, rfl⟩
theorem mv_has {Q : List ByteArray} {t : Nat → ByteArray} {n p : Nat} {x : ByteArray} (h : SameT Q t n) (hx : tuneB x = true) (hp : IsPl t n x p) : (dropOk t n x p = true ↔ x ∈ Q) ∧ dropErr x = 0 := by
  have hstd : (p < n ∧ t p = x) ↔ x ∈ Q := by rw [h.mem x, hp.stands h.srt]
  unfold dropOk dropErr
  rw [hx, Bool.true_and, decide_eq_true_eq]
  exact ⟨hstd, rfl⟩
theorem mv_drop {Q : List ByteArray} {t : Nat → ByteArray} {n p : Nat} {d : ByteArray} (h : SameT Q t n) (hd : d ∈ Q) (hp : IsPl t n d p) :
    ∃ Q', SameT Q' (dropT t n d p) (dropN t n d p) ∧ (∀ s, s ∈ Q' ↔ s ∈ Q ∧ s ≠ d) ∧ Q'.length ≤ Q.length ∧ dropErr d = 0 := by
  obtain ⟨h1, h2⟩ := mv_has h (h.tun d hd) hp
  rw [dropT, dropN, h1.2 hd, h2]
  obtain ⟨A, B, rfl⟩ := List.append_of_mem hd
  refine ⟨A ++ B, (h.drop hp).2, fun s => ?_, by simp, rfl⟩
  have hn := (List.nodup_cons.1 ((List.perm_middle (a := d) (l₁ := A) (l₂ := B)).nodup_iff.1 h.nd)).1
  constructor
  · intro hs
    refine ⟨?_, fun e => hn (e ▸ hs)⟩
    rcases List.mem_append.1 hs with h' | h' <;> simp [h']
  · rintro ⟨hs, hne⟩
    rcases List.mem_append.1 hs with h' | h'
    · exact List.mem_append.2 (.inl h')
    · rcases List.mem_cons.1 h' with rfl | h'
      · exact absurd rfl hne
      · exact List.mem_append.2 (.inr h')
def behB (W : List ByteArray) (g : Nat) (s : ByteArray) : Bool := decide (g = 0) || less (W.getD (g - 1) ByteArray.empty) s
theorem wantB_beh {U : Lay} {M : Tab} {W : List ByteArray} {g : Nat} {s : ByteArray} (h : M.accepts (notesOf s) = true) : wantB (cuG U M W g) M s = behB W g s := by
  unfold wantB behB cuG
  rw [h]
  by_cases h0 : g = 0
  · simp [h0, openCu]
  · rw [if_neg h0]
    simp [h0]
theorem mem_wantL {d : Cu} {M : Tab} {t : Nat → ByteArray} {n : Nat} {s : ByteArray} : s ∈ wantL d M t n ↔ (∃ i, i < n ∧ t i = s) ∧ wantB d M s = true := by
  rw [wantL_filter, List.mem_filter, List.mem_map]
  simp
theorem wantL_inc {d : Cu} {M : Tab} {t : Nat → ByteArray} {n : Nat} (h : SrtB t n) : Inc (wantL d M t n) := by
  rw [wantL_filter]
  exact (inc_range h).filter _
theorem allW_len {M : Tab} {t : Nat → ByteArray} {n : Nat} (h : ∀ j, j < n → M.accepts (notesOf (t j)) = true) : (allW M t n).length = n := by
  unfold allW
  rw [wantL_filter, List.filter_eq_self.2]
  · simp
  · intro s hs
    obtain ⟨j, hj, rfl⟩ := List.mem_map.1 hs
    simp [wantB, shut, h j (List.mem_range.1 hj)]
structure WnI (W : List ByteArray) (g : Nat) (Q Ls : List ByteArray) (i : Nat) (O : List ByteArray) : Prop where
  inc : Inc O
  mem : ∀ s, s ∈ O ↔ s ∈ Ls.take i ∧ behB W g s = true ∧ s ∈ Q
theorem WnI.skip {W Q Ls O : List ByteArray} {g i : Nat} {x : ByteArray} (h : WnI W g Q Ls i O) (hx : Ls[i]? = some x) (hn : behB W g x = false ∨ x ∉ Q ∨ O.getLast? = some x) : WnI W g Q Ls (i + 1) O := by
  refine ⟨h.inc, fun s => ?_⟩
  rw [h.mem, List.take_add_one, hx, List.mem_append]
  constructor
  · rintro ⟨h1, h2⟩; exact ⟨.inl h1, h2⟩
  · rintro ⟨h1 | h1, h2, h3⟩
    · exact ⟨h1, h2, h3⟩
    · simp at h1
      subst h1
      rcases hn with hn | hn | hn
      · rw [h2] at hn; cases hn
      · exact absurd h3 hn
      · exact (h.mem s).1 (List.mem_of_getLast? hn)
theorem WnI.add {W Q Ls O : List ByteArray} {g i : Nat} {x : ByteArray} (h : WnI W g Q Ls i O) (hle : LeS Ls) (hx : Ls[i]? = some x) (hb : behB W g x = true) (hq : x ∈ Q) (hn : O.getLast? ≠ some x) : WnI W g Q Ls (i + 1) (O ++ [x]) := by
  have hi := (List.getElem?_eq_some_iff.1 hx).1
  have hxi : Ls[i] = x := (List.getElem?_eq_some_iff.1 hx).2
  have hle' : ∀ a ∈ O, less x a = false := fun a ha => by
    obtain ⟨j, hj, rfl⟩ := List.getElem_of_mem ((h.mem a).1 ha).1
    rw [List.length_take] at hj
    rw [List.getElem_take, ← hxi]
    exact List.pairwise_iff_getElem.1 hle j i (by omega) hi (by omega)
  refine ⟨?_, fun s => ?_⟩
  · unfold Inc
    rw [List.pairwise_append]
    refine ⟨h.inc, by simp, fun a ha b hb' => ?_⟩
    rw [List.mem_singleton] at hb'
    subst hb'
    refine less_tri (hle' a ha) (fun e => ?_)
    subst e
    have hne : O ≠ [] := List.ne_nil_of_mem ha
    have hl := List.getLast?_eq_some_getLast hne
    have hlx : O.getLast hne ≠ b := fun e => hn (by rw [hl, e])
    obtain ⟨j, hj, e⟩ := List.getElem_of_mem ha
    by_cases hjl : j = O.length - 1
    · subst hjl
      exact hlx (by rw [List.getLast_eq_getElem]; exact e)
    · have h1 := List.pairwise_iff_getElem.1 h.inc j (O.length - 1) hj (by omega) (by omega)
      rw [e] at h1
      have h2 := hle' (O[O.length - 1]'(by omega)) (List.getElem_mem _)
      rw [h2] at h1; cases h1
  · rw [List.mem_append, List.mem_singleton, h.mem, List.take_add_one, hx, List.mem_append]
    constructor
    · rintro (⟨h1, h2⟩ | rfl)
      · exact ⟨.inl h1, h2⟩
      · exact ⟨.inr (by simp), hb, hq⟩
    · rintro ⟨h1 | h1, h2⟩
      · exact .inl ⟨h1, h2⟩
      · simp at h1; exact .inr h1
theorem WnI.all {W Q Ls O : List ByteArray} {g n : Nat} {t : Nat → ByteArray} {U : Lay} {M : Tab} (h : WnI W g Q Ls Ls.length O) (hQ : SameT Q t n) (hsub : ∀ s ∈ Q, s ∈ Ls) (hacc : ∀ s, IsText s → M.accepts (notesOf s) = true) : wantL (cuG U M W g) M t n = O := by
  refine srt_unique _ _ (wantL_inc hQ.srt) h.inc (fun s => ?_)
  rw [mem_wantL, h.mem, List.take_length, ← hQ.mem s]
  constructor
  · rintro ⟨h1, h2⟩
    have htx := hQ.tun s h1
    unfold tuneB at htx
    rw [Bool.and_eq_true, decide_eq_true_eq] at htx
    rw [wantB_beh (hacc s ((textTo_isText s).1 htx.2))] at h2
    exact ⟨hsub s h1, h2, h1⟩
  · rintro ⟨_, h2, h1⟩
    have htx := hQ.tun s h1
    unfold tuneB at htx
    rw [Bool.and_eq_true, decide_eq_true_eq] at htx
    exact ⟨h1, by rw [wantB_beh (hacc s ((textTo_isText s).1 htx.2))]; exact h2⟩
structure MvI (w w' : World) (bx n : Nat) (t : Nat → ByteArray) (c : Nat → Cu) (U : Lay) (R : Tab) (va : Value) (L : List ByteArray) (vl : Value) (P : List ByteArray) : Prop where
  bel : Below w.heap.size w w'
  bk : BxAt w' bx t n (cuv c)
  all : w'.ownsRow w.heap.size 9 1 va L.length (strs L)
  pg : w'.ownsRow w.heap.size 9 1 vl P.length (strs P)
  tab : TabAt w' U R
  frm : ∃ N, bx < N ∧ U.From N R.n
theorem MvI.below {w w' w2 : World} {bx n : Nat} {t : Nat → ByteArray} {c : Nat → Cu} {U : Lay} {R : Tab} {va vl : Value} {L P : List ByteArray} (h : MvI w w' bx n t c U R va L vl P) (hb : Below w'.heap.size w' w2) : MvI w w2 bx n t c U R va L vl P :=
  ⟨h.bel.trans (hb.mono h.bel.size), h.bk.below hb, ownsRow_below h.all hb, ownsRow_below h.pg hb, h.tab.below hb, h.frm⟩
theorem MvI.touch {w w' w2 : World} {bx n n' : Nat} {t t' : Nat → ByteArray} {c c' : Nat → Cu} {U : Lay} {R : Tab} {va vl : Value} {L P : List ByteArray} (h : MvI w w' bx n t c U R va L vl P) (hbx : w.heap.size ≤ bx) (hT : Touch (fun j => j = bx) w' w2) (hx : BxAt w2 bx t' n' (cuv c')) : MvI w w2 bx n' t' c' U R va L vl P := by
  obtain ⟨N, h1, h2⟩ := h.frm
  exact ⟨hT.below h.bel h.bel.size (fun k e => by omega), hx, hT.own h.all (fun g e hg => bx_own h.bk h.all e hg), hT.own h.pg (fun g e hg => bx_own h.bk h.pg e hg), h.tab.touch1 h2 hT h1, N, h1, h2⟩
theorem next_moved {wr : World} {bx n g : Nat} {t : Nat → ByteArray} {U : Lay} {M : Tab} {W Q Ls O : List ByteArray} (h : BxAt wr bx t n (cuv (curG U M W g))) (hM : M.Ok) (hT : TabAt wr U M) (hW : WnI W g Q Ls Ls.length O) (hQ : SameT Q t n) (hn : n ≤ 50) (hsub : ∀ s ∈ Q, s ∈ Ls) (hacc : ∀ s, IsText s → M.accepts (notesOf s) = true) :
    Calls Try.prog 34 #[.pointer (some ⟨bx, 0, none⟩), .int .i64 0, .int .i64 50] wr fun e w' => ∃ v, e = .returned (.tuple #[v, .bool true, .int .i64 0]) ∧ w'.ownsRow wr.heap.size 9 1 v O.length (strs O) ∧ Touch (fun j => j = bx) wr w' := by
  obtain ⟨h1, h2, h3⟩ := cuG_parts U M W g
  have H := tnext_ok wr bx n 0 50 t (curG U M W g) U M h (by omega) (by omega) h1 (by omega) (by omega) (fun i hi => hQ.tun _ ((hQ.mem _).2 ⟨i, hi, rfl⟩)) h2 h3 hM hT
  have e0 : curG U M W g 0 = cuG U M W g := rfl
  have hO := hW.all (U := U) hQ hsub hacc
  obtain ⟨c1, c2⟩ := choose_all (limit := 50) (d := cuG U M W g) (M := M) (t := t) (n := n) (Nat.le_trans (wantL_len _ _ _ _) hn)
  rw [e0, c1, c2, hO] at H
  exact H.mono (fun e w' ⟨v, a1, a2, _, a3⟩ => ⟨v, a1, a2, a3⟩)
end Go.Proofs.Ytpngikmcjkjdaab

namespace Go.Proofs.Ytpngikmcjkjdaab
open Go.RowKit
set_option linter.unusedVariables false
set_option linter.unusedSimpArgs false
set_option maxRecDepth 20000 in
set_option maxHeartbeats 1000000 in
theorem text_any (most : Nat) (hmost : most ≤ 1000) (ao : Option Addr) (len cap : Nat) (z : Nat → Int) (w : World) (h : CodeAt w ao len z) :
    Calls Try.prog 19 #[.slice ao len cap, .int .i64 (most : Int)] w fun e w' => ∃ s : ByteArray, e = .returned (.string s) ∧ IsText s ∧ s.size ≤ most ∧ Below w.heap.size w w' := by
  have hln := h.ln
  go_enter Try.func19, Try.ntmps19
  go_wp2_with fail
  go_loopw [5, 6] (fun sv i' wr => ∃ (i : Nat) (s : ByteArray), i ≤ most ∧ i' = .int .i64 i ∧ sv = .string s ∧ IsText s ∧ s.size = i ∧ Below w.heap.size w wr)
    (fun _ i' _ => most - (intOf i').toNat)
  case atStart => exact ⟨0, _, by omega, rfl, rfl, by intro c hc; simp at hc, rfl, Below.refl _ _⟩
  case round =>
    obtain ⟨i, s, hi, rfl, rfl, hs, hsz, hb⟩ := hrel
    have HS : Hid (IsText s) := hs
    have HSZ : Hid (s.size = i) := hsz
    have hsle : s.size ≤ most := by omega
    clear hs hsz
    by_cases hlt : i < len
    · by_cases hl : i < most
      · obtain ⟨b, o, rfl, hc⟩ := (h.below hb).cell i hlt
        have hr := h.rng i hlt
        obtain ⟨pv, HPV⟩ : ∃ x, Hid (pickN (z i) 8 = x) := ⟨_, rfl⟩
        have hpv : pv < 8 := by rw [← HPV.out]; exact pickN_lt _ _ (by omega)
        have HB : Hid (Below w.heap.size w wr) := hb
        have hbs := hb.size
        clear h hb
        go_wp2_with fail
        refine (pick_any (z i) 8 _ (by omega) (by omega) hr.1 hr.2).mono ?_
        rw [show (8 : Int).toNat = 8 from rfl, HPV.out]
        rintro e w' ⟨rfl, hw'⟩
        obtain rfl : wr = w' := hw'.symm
        have hcv := conv_note pv hpv
        go_wp2_with fail
        go_roundw
        case rel =>
          have hz := HSZ.out
          refine ⟨i + 1, s ++ ⟨#[noteB pv]⟩, by omega, by go_num, ?_, isText_push _ _ HS.out (isText_note pv hpv), ?_, ?_⟩
          · rfl
          · rw [ByteArray.size_append, hz]; rfl
          · exact HB.out.alloc (by omega) _
        case measure => simp [intOf]; omega
      · have hbn : ((i : Int) < (most : Int)) = False := by simp; omega
        clear h
        go_wp2_with fail
        go_ret
        exact ⟨s, rfl, HS.out, hsle, hb⟩
    · clear h
      go_wp2_with fail
      go_ret
      exact ⟨s, rfl, HS.out, hsle, hb⟩
end Go.Proofs.Ytpngikmcjkjdaab
