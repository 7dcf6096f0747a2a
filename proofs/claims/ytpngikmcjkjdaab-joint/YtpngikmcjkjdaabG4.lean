import Derived.Test.YtpngikmcjkjdaabG1
import Derived.Test.YtpngikmcjkjdaabG3
set_option linter.unusedVariables false
set_option linter.unusedSimpArgs false
namespace Go.Proofs.Ytpngikmcjkjdaab
set_option linter.unusedVariables false
inductive Pat where
  | none : Pat
  | one (S : Nat → Bool) : Pat
  | chain (a b : Pat) : Pat
  | alt (a b : Pat) : Pat
  | rep (a : Pat) (least copies : Nat) (endless : Bool) : Pat
inductive Star (l : List Nat → Prop) : List Nat → Prop where
  | nil : Star l []
  | cons {u v : List Nat} (hu : l u) (hv : Star l v) : Star l (u ++ v)
def Cat (l l' : List Nat → Prop) (x : List Nat) : Prop := ∃ u v, x = u ++ v ∧ l u ∧ l' v
def Copy (l : List Nat → Prop) (least i : Nat) (endless : Bool) (x : List Nat) : Prop :=
  if i < least then l x else if endless then Star l x else x = [] ∨ l x
def Copies (l : List Nat → Prop) (least : Nat) (endless : Bool) : Nat → List Nat → Prop
  | 0 => fun x => x = []
  | k + 1 => Cat (Copies l least endless k) (Copy l least k endless)
def Pat.lang : Pat → List Nat → Prop
  | .none => fun x => x = []
  | .one S => fun x => ∃ c, x = [c] ∧ S c = true
  | .chain a b => Cat a.lang b.lang
  | .alt a b => fun x => a.lang x ∨ b.lang x
  | .rep a least copies endless => Copies a.lang least endless copies
inductive Way (B rd : Nat → Nat → Prop) (L : Nat → Prop) : Nat → List Nat → Prop where
  | last {p c : Nat} (hr : rd p c) (hl : L p) : Way B rd L p [c]
  | step {p q c : Nat} {x : List Nat} (hr : rd p c) (hb : B p q) (hx : Way B rd L q x) : Way B rd L p (c :: x)
theorem Way.ne_nil {B rd : Nat → Nat → Prop} {L : Nat → Prop} {p : Nat} {x : List Nat} (h : Way B rd L p x) : x ≠ [] := by cases h <;> simp
theorem Way.mono {B B' rd : Nat → Nat → Prop} {L L' : Nat → Prop} (hB : ∀ p q, B p q → B' p q) (hL : ∀ p, L p → L' p) {p : Nat} {x : List Nat} (h : Way B rd L p x) : Way B' rd L' p x := by
  induction h with
  | last hr hl => exact .last hr (hL _ hl)
  | step hr hb _ ih => exact .step hr (hB _ _ hb) ih
structure Str (rd : Nat → Nat → Prop) where
  lo : Nat
  hi : Nat
  e : Prop
  F : Nat → Prop
  L : Nat → Prop
  B : Nat → Nat → Prop
structure Str.In {rd : Nat → Nat → Prop} (s : Str rd) : Prop where
  le : s.lo ≤ s.hi
  fi : ∀ p, s.F p → s.lo ≤ p ∧ p < s.hi
  la : ∀ p, s.L p → s.lo ≤ p ∧ p < s.hi
  be : ∀ p q, s.B p q → (s.lo ≤ p ∧ p < s.hi) ∧ (s.lo ≤ q ∧ q < s.hi)
def Str.acc {rd : Nat → Nat → Prop} (s : Str rd) (x : List Nat) : Prop := (x = [] ∧ s.e) ∨ ∃ p, s.F p ∧ Way s.B rd s.L p x
def Str.chain {rd : Nat → Nat → Prop} (s t : Str rd) : Str rd where
  lo := s.lo
  hi := t.hi
  e := s.e ∧ t.e
  F p := s.F p ∨ (s.e ∧ t.F p)
  L p := t.L p ∨ (t.e ∧ s.L p)
  B p q := s.B p q ∨ t.B p q ∨ (s.L p ∧ t.F q)
def Str.alt {rd : Nat → Nat → Prop} (s t : Str rd) : Str rd where
  lo := s.lo
  hi := t.hi
  e := s.e ∨ t.e
  F p := s.F p ∨ t.F p
  L p := s.L p ∨ t.L p
  B p q := s.B p q ∨ t.B p q
def Str.free {rd : Nat → Nat → Prop} (s : Str rd) (endless : Prop) : Str rd where
  lo := s.lo
  hi := s.hi
  e := True
  F := s.F
  L := s.L
  B p q := s.B p q ∨ (endless ∧ s.L p ∧ s.F q)
section
variable {rd : Nat → Nat → Prop} {s t : Str rd}
theorem Str.In.chain (hs : s.In) (ht : t.In) (h : s.hi = t.lo) : (s.chain t).In := by
  have h1 := hs.le
  have h2 := ht.le
  refine ⟨by show s.lo ≤ t.hi; omega, ?_, ?_, ?_⟩
  · rintro p (hp | ⟨_, hp⟩)
    · have := hs.fi p hp; exact ⟨this.1, by show p < t.hi; omega⟩
    · have := ht.fi p hp; exact ⟨by show s.lo ≤ p; omega, this.2⟩
  · rintro p (hp | ⟨_, hp⟩)
    · have := ht.la p hp; exact ⟨by show s.lo ≤ p; omega, this.2⟩
    · have := hs.la p hp; exact ⟨this.1, by show p < t.hi; omega⟩
  · rintro p q (hp | hp | ⟨hp, hq⟩)
    · have := hs.be p q hp; exact ⟨⟨this.1.1, by show p < t.hi; omega⟩, this.2.1, by show q < t.hi; omega⟩
    · have := ht.be p q hp; exact ⟨⟨by show s.lo ≤ p; omega, this.1.2⟩, by show s.lo ≤ q; omega, this.2.2⟩
    · have h3 := hs.la p hp; have h4 := ht.fi q hq
      exact ⟨⟨h3.1, by show p < t.hi; omega⟩, by show s.lo ≤ q; omega, h4.2⟩
theorem Str.In.alt (hs : s.In) (ht : t.In) (h : s.hi = t.lo) : (s.alt t).In := by
  have h1 := hs.le
  have h2 := ht.le
  refine ⟨by show s.lo ≤ t.hi; omega, ?_, ?_, ?_⟩
  · rintro p (hp | hp)
    · have := hs.fi p hp; exact ⟨this.1, by show p < t.hi; omega⟩
    · have := ht.fi p hp; exact ⟨by show s.lo ≤ p; omega, this.2⟩
  · rintro p (hp | hp)
    · have := hs.la p hp; exact ⟨this.1, by show p < t.hi; omega⟩
    · have := ht.la p hp; exact ⟨by show s.lo ≤ p; omega, this.2⟩
  · rintro p q (hp | hp)
    · have := hs.be p q hp; exact ⟨⟨this.1.1, by show p < t.hi; omega⟩, this.2.1, by show q < t.hi; omega⟩
    · have := ht.be p q hp; exact ⟨⟨by show s.lo ≤ p; omega, this.1.2⟩, by show s.lo ≤ q; omega, this.2.2⟩
theorem Str.In.free (hs : s.In) (en : Prop) : (s.free en).In :=
  ⟨hs.le, hs.fi, hs.la, fun p q h => by
    rcases h with h | ⟨_, h1, h2⟩
    · exact hs.be p q h
    · exact ⟨hs.la p h1, hs.fi q h2⟩⟩
theorem chain_right (hs : s.In) (ht : t.In) (h : s.hi = t.lo) {p : Nat} {x : List Nat} (hp : t.lo ≤ p) : Way (s.chain t).B rd (s.chain t).L p x ↔ Way t.B rd t.L p x := by
  constructor
  · intro hw
    induction hw with
    | last hr hl =>
      rcases hl with hl | ⟨_, hl⟩
      · exact .last hr hl
      · have := hs.la _ hl; omega
    | step hr hb _ ih =>
      rcases hb with hb | hb | ⟨hb, _⟩
      · have := (hs.be _ _ hb).1; omega
      · exact .step hr hb (ih (ht.be _ _ hb).2.1)
      · have := hs.la _ hb; omega
  · exact Way.mono (fun p q h => .inr (.inl h)) (fun p h => .inl h)
theorem chain_left (hs : s.In) (ht : t.In) (h : s.hi = t.lo) {p : Nat} {x : List Nat} (hp : p < s.hi) (hw : Way (s.chain t).B rd (s.chain t).L p x) : ∃ u v, x = u ++ v ∧ Way s.B rd s.L p u ∧ t.acc v := by
  induction hw with
  | last hr hl =>
    rcases hl with hl | ⟨he, hl⟩
    · have := ht.la _ hl; omega
    · exact ⟨_, [], by simp, .last hr hl, .inl ⟨rfl, he⟩⟩
  | step hr hb hx ih =>
    rcases hb with hb | hb | ⟨hb, hq⟩
    · obtain ⟨u, v, rfl, h1, h2⟩ := ih (hs.be _ _ hb).2.2
      exact ⟨_ :: u, v, rfl, .step hr hb h1, h2⟩
    · have := (ht.be _ _ hb).1; omega
    · exact ⟨[_], _, rfl, .last hr hb, .inr ⟨_, hq, (chain_right hs ht h (ht.fi _ hq).1).1 hx⟩⟩
theorem chain_join (hs : s.In) (ht : t.In) (h : s.hi = t.lo) {p : Nat} {u v : List Nat} (hu : Way s.B rd s.L p u) (hv : t.acc v) : Way (s.chain t).B rd (s.chain t).L p (u ++ v) := by
  rcases hv with ⟨rfl, he⟩ | ⟨q, hq, hv⟩
  · rw [List.append_nil]
    exact hu.mono (fun p q h => .inl h) (fun p hl => .inr ⟨he, hl⟩)
  · have hv' := (chain_right hs ht h (ht.fi _ hq).1).2 hv
    induction hu with
    | last hr hl => exact .step hr (.inr (.inr ⟨hl, hq⟩)) hv'
    | step hr hb _ ih => exact .step hr (.inl hb) ih
theorem chain_acc (hs : s.In) (ht : t.In) (h : s.hi = t.lo) (x : List Nat) : (s.chain t).acc x ↔ Cat s.acc t.acc x := by
  constructor
  · rintro (⟨rfl, h1, h2⟩ | ⟨p, hp | ⟨he, hp⟩, hw⟩)
    · exact ⟨[], [], rfl, .inl ⟨rfl, h1⟩, .inl ⟨rfl, h2⟩⟩
    · obtain ⟨u, v, rfl, h1, h2⟩ := chain_left hs ht h (hs.fi p hp).2 hw
      exact ⟨u, v, rfl, .inr ⟨p, hp, h1⟩, h2⟩
    · exact ⟨[], x, rfl, .inl ⟨rfl, he⟩, .inr ⟨p, hp, (chain_right hs ht h (ht.fi p hp).1).1 hw⟩⟩
  · rintro ⟨u, v, rfl, ⟨rfl, he⟩ | ⟨p, hp, hu⟩, hv⟩
    · rcases hv with ⟨rfl, he'⟩ | ⟨q, hq, hv⟩
      · exact .inl ⟨rfl, he, he'⟩
      · exact .inr ⟨q, .inr ⟨he, hq⟩, by simpa using (chain_right hs ht h (ht.fi q hq).1).2 hv⟩
    · exact .inr ⟨p, .inl hp, chain_join hs ht h hu hv⟩
theorem alt_acc (hs : s.In) (ht : t.In) (h : s.hi = t.lo) (x : List Nat) : (s.alt t).acc x ↔ s.acc x ∨ t.acc x := by
  have left : ∀ p x, p < s.hi → Way (s.alt t).B rd (s.alt t).L p x → Way s.B rd s.L p x := by
    intro p x hp hw
    induction hw with
    | last hr hl =>
      rcases hl with hl | hl
      · exact .last hr hl
      · have := ht.la _ hl; omega
    | step hr hb _ ih =>
      rcases hb with hb | hb
      · exact .step hr hb (ih (hs.be _ _ hb).2.2)
      · have := (ht.be _ _ hb).1; omega
  have right : ∀ p x, t.lo ≤ p → Way (s.alt t).B rd (s.alt t).L p x → Way t.B rd t.L p x := by
    intro p x hp hw
    induction hw with
    | last hr hl =>
      rcases hl with hl | hl
      · have := hs.la _ hl; omega
      · exact .last hr hl
    | step hr hb _ ih =>
      rcases hb with hb | hb
      · have := (hs.be _ _ hb).1; omega
      · exact .step hr hb (ih (ht.be _ _ hb).2.1)
  constructor
  · rintro (⟨rfl, h1 | h1⟩ | ⟨p, hp | hp, hw⟩)
    · exact .inl (.inl ⟨rfl, h1⟩)
    · exact .inr (.inl ⟨rfl, h1⟩)
    · exact .inl (.inr ⟨p, hp, left p x (hs.fi p hp).2 hw⟩)
    · exact .inr (.inr ⟨p, hp, right p x (ht.fi p hp).1 hw⟩)
  · rintro ((⟨rfl, h1⟩ | ⟨p, hp, hw⟩) | (⟨rfl, h1⟩ | ⟨p, hp, hw⟩))
    · exact .inl ⟨rfl, .inl h1⟩
    · exact .inr ⟨p, .inl hp, hw.mono (fun _ _ h => .inl h) (fun _ h => .inl h)⟩
    · exact .inl ⟨rfl, .inr h1⟩
    · exact .inr ⟨p, .inr hp, hw.mono (fun _ _ h => .inr h) (fun _ h => .inr h)⟩
theorem free_split {en : Prop} {p : Nat} {x : List Nat} (hw : Way (s.free en).B rd (s.free en).L p x) : ∃ u v, x = u ++ v ∧ Way s.B rd s.L p u ∧ (v = [] ∨ (en ∧ ∃ q, s.F q ∧ Way (s.free en).B rd (s.free en).L q v)) := by
  induction hw with
  | last hr hl => exact ⟨_, [], by simp, .last hr hl, .inl rfl⟩
  | step hr hb hx ih =>
    rcases hb with hb | ⟨he, hl, hq⟩
    · obtain ⟨u, v, rfl, h1, h2⟩ := ih
      exact ⟨_ :: u, v, rfl, .step hr hb h1, h2⟩
    · exact ⟨[_], _, rfl, .last hr hl, .inr ⟨he, _, hq, hx⟩⟩
theorem free_join {en : Prop} (he : en) {p q : Nat} {u v : List Nat} (hu : Way s.B rd s.L p u) (hq : s.F q) (hv : Way (s.free en).B rd (s.free en).L q v) : Way (s.free en).B rd (s.free en).L p (u ++ v) := by
  induction hu with
  | last hr hl => exact .step hr (.inr ⟨he, hl, hq⟩) hv
  | step hr hb _ ih => exact .step hr (.inl hb) ih
theorem opt_acc (x : List Nat) : (s.free False).acc x ↔ x = [] ∨ s.acc x := by
  constructor
  · rintro (⟨rfl, _⟩ | ⟨p, hp, hw⟩)
    · exact .inl rfl
    · obtain ⟨u, v, rfl, h1, rfl | ⟨h2, _⟩⟩ := free_split hw
      · rw [List.append_nil]; exact .inr (.inr ⟨p, hp, h1⟩)
      · exact h2.elim
  · rintro (rfl | ⟨rfl, _⟩ | ⟨p, hp, hw⟩)
    · exact .inl ⟨rfl, trivial⟩
    · exact .inl ⟨rfl, trivial⟩
    · exact .inr ⟨p, hp, hw.mono (fun _ _ h => .inl h) (fun _ h => h)⟩
theorem star_acc (x : List Nat) : (s.free True).acc x ↔ Star s.acc x := by
  constructor
  · rintro (⟨rfl, _⟩ | ⟨p, hp, hw⟩)
    · exact .nil
    · have key : ∀ n x p, x.length ≤ n → s.F p → Way (s.free True).B rd (s.free True).L p x → Star s.acc x := by
        intro n
        induction n with
        | zero =>
          intro x p hx _ hw
          exact absurd (List.length_eq_zero_iff.1 (by omega)) hw.ne_nil
        | succ n ih =>
          intro x p hx hp hw
          obtain ⟨u, v, rfl, h1, rfl | ⟨_, q, hq, h2⟩⟩ := free_split hw
          · exact .cons (.inr ⟨p, hp, h1⟩) .nil
          · have hl : 1 ≤ u.length := by cases u with
              | nil => exact absurd rfl h1.ne_nil
              | cons _ _ => simp
            exact .cons (.inr ⟨p, hp, h1⟩) (ih v q (by rw [List.length_append] at hx; omega) hq h2)
      exact key _ x p (Nat.le_refl _) hp hw
  · intro h
    induction h with
    | nil => exact .inl ⟨rfl, trivial⟩
    | cons hu _ ih =>
      rcases hu with ⟨rfl, _⟩ | ⟨p, hp, hu⟩
      · simpa using ih
      · rcases ih with ⟨rfl, _⟩ | ⟨q, hq, hv⟩
        · rw [List.append_nil]; exact .inr ⟨p, hp, hu.mono (fun _ _ h => .inl h) (fun _ h => h)⟩
        · exact .inr ⟨p, hp, free_join trivial hu hq hv⟩
end
def Str.nothing (rd : Nat → Nat → Prop) (lo : Nat) : Str rd := ⟨lo, lo, True, fun _ => False, fun _ => False, fun _ _ => False⟩
theorem nothing_acc (rd : Nat → Nat → Prop) (lo : Nat) (x : List Nat) : (Str.nothing rd lo).acc x ↔ x = [] := by
  constructor
  · rintro (⟨rfl, _⟩ | ⟨_, h, _⟩)
    · rfl
    · exact h.elim
  · rintro rfl; exact .inl ⟨rfl, trivial⟩
def Str.spot (rd : Nat → Nat → Prop) (lo : Nat) : Str rd := ⟨lo, lo + 1, False, fun p => p = lo, fun p => p = lo, fun _ _ => False⟩
theorem spot_acc {rd : Nat → Nat → Prop} {lo : Nat} {S : Nat → Bool} (h : ∀ c, rd lo c ↔ S c = true) (x : List Nat) : (Str.spot rd lo).acc x ↔ (Pat.one S).lang x := by
  constructor
  · rintro (⟨_, h'⟩ | ⟨p, hp, hw⟩)
    · exact h'.elim
    · have hp' : p = lo := hp
      subst hp'
      cases hw with
      | last hr _ => exact ⟨_, rfl, (h _).1 hr⟩
      | step _ hb _ => exact hb.elim
  · rintro ⟨c, rfl, hc⟩
    exact .inr ⟨lo, rfl, .last ((h c).2 hc) rfl⟩
theorem Cat.congr {l l' m m' : List Nat → Prop} (h : ∀ x, l x ↔ l' x) (h' : ∀ x, m x ↔ m' x) (x : List Nat) : Cat l m x ↔ Cat l' m' x :=
  ⟨fun ⟨u, v, e, a, b⟩ => ⟨u, v, e, (h u).1 a, (h' v).1 b⟩, fun ⟨u, v, e, a, b⟩ => ⟨u, v, e, (h u).2 a, (h' v).2 b⟩⟩
theorem Star.congr {l l' : List Nat → Prop} (h : ∀ x, l x ↔ l' x) (x : List Nat) : Star l x ↔ Star l' x :=
  ⟨fun hs => by induction hs with
    | nil => exact .nil
    | cons hu _ ih => exact .cons ((h _).1 hu) ih, fun hs => by induction hs with
    | nil => exact .nil
    | cons hu _ ih => exact .cons ((h _).2 hu) ih⟩
def Pat.size : Pat → Nat
  | .none => 0
  | .one _ => 1
  | .chain a b => a.size + b.size
  | .alt a b => a.size + b.size
  | .rep a _ copies _ => a.size * copies
theorem star_nil {l : List Nat → Prop} (h : ∀ x, l x ↔ x = []) (x : List Nat) : Star l x ↔ x = [] := by
  constructor
  · intro hs
    induction hs with
    | nil => rfl
    | cons hu _ ih => rw [(h _).1 hu, ih]; rfl
  · rintro rfl; exact .nil
theorem copies_nil {l : List Nat → Prop} (h : ∀ x, l x ↔ x = []) (least : Nat) (endless : Bool) (k : Nat) (x : List Nat) : Copies l least endless k x ↔ x = [] := by
  induction k generalizing x with
  | zero => exact Iff.rfl
  | succ k ih =>
    have hc : ∀ x, Copy l least k endless x ↔ x = [] := by
      intro x
      unfold Copy
      by_cases h1 : k < least
      · rw [if_pos h1]; exact h x
      · rw [if_neg h1]
        cases endless
        · rw [if_neg (by simp), h x]; simp
        · rw [if_pos rfl]; exact star_nil h x
    constructor
    · rintro ⟨u, v, rfl, hu, hv⟩
      rw [(ih u).1 hu, (hc v).1 hv]; rfl
    · rintro rfl
      exact ⟨[], [], rfl, (ih []).2 rfl, (hc []).2 rfl⟩
theorem size_zero (a : Pat) (h : a.size = 0) (x : List Nat) : a.lang x ↔ x = [] := by
  induction a generalizing x with
  | none => exact Iff.rfl
  | one S => simp [Pat.size] at h
  | chain a b iha ihb =>
    have h' : a.size + b.size = 0 := h
    constructor
    · rintro ⟨u, v, rfl, hu, hv⟩
      rw [(iha (by omega) u).1 hu, (ihb (by omega) v).1 hv]; rfl
    · rintro rfl
      exact ⟨[], [], rfl, (iha (by omega) []).2 rfl, (ihb (by omega) []).2 rfl⟩
  | alt a b iha ihb =>
    have h' : a.size + b.size = 0 := h
    show a.lang x ∨ b.lang x ↔ _
    rw [iha (by omega) x, ihb (by omega) x]; simp
  | rep a least copies endless iha =>
    have h' : a.size * copies = 0 := h
    rcases Nat.mul_eq_zero.1 h' with h0 | h0
    · exact copies_nil (iha h0) least endless copies x
    · subst h0; exact Iff.rfl
def stepS (B rd : Nat → Nat → Prop) (S : Nat → Prop) (c : Nat) : Nat → Prop := fun q => rd q c ∧ ∃ p, S p ∧ B p q
theorem steps_way {B rd : Nat → Nat → Prop} {L : Nat → Prop} (x : List Nat) (c : Nat) (S : Nat → Prop) : (∃ p, ((c :: x).foldl (stepS B rd) S) p ∧ L p) ↔ ∃ p q, S p ∧ B p q ∧ Way B rd L q (c :: x) := by
  induction x generalizing c S with
  | nil =>
    constructor
    · rintro ⟨q, ⟨hr, p, hp, hb⟩, hl⟩
      exact ⟨p, q, hp, hb, .last hr hl⟩
    · rintro ⟨p, q, hp, hb, hw⟩
      cases hw with
      | last hr hl => exact ⟨q, ⟨hr, p, hp, hb⟩, hl⟩
      | step _ _ hx => exact absurd rfl hx.ne_nil
  | cons d y ih =>
    rw [List.foldl_cons, ih d (stepS B rd S c)]
    constructor
    · rintro ⟨p, q, ⟨hr, p0, hp0, hb0⟩, hb, hw⟩
      exact ⟨p0, p, hp0, hb0, .step hr hb hw⟩
    · rintro ⟨p0, p, hp0, hb0, hw⟩
      cases hw with
      | step hr hb hx => exact ⟨p, _, ⟨hr, p0, hp0, hb0⟩, hb, hx⟩
theorem ahead_acc {rd : Nat → Nat → Prop} {s : Str rd} {B : Nat → Nat → Prop} {L : Nat → Prop} {a : Nat} (hs : s.In) (ha : a < s.lo) (hB : ∀ p q, B p q ↔ (p = a ∧ s.F q) ∨ s.B p q) (hL : ∀ p, L p ↔ (p = a ∧ s.e) ∨ s.L p) (x : List Nat) :
    (∃ p, (x.foldl (stepS B rd) (fun p => p = a)) p ∧ L p) ↔ s.acc x := by
  have hw : ∀ q y, s.lo ≤ q → (Way B rd L q y ↔ Way s.B rd s.L q y) := by
    intro q y hq
    constructor
    · intro h
      induction h with
      | last hr hl =>
        rcases (hL _).1 hl with ⟨h, _⟩ | h
        · omega
        · exact .last hr h
      | step hr hb _ ih =>
        rcases (hB _ _).1 hb with ⟨h, _⟩ | h
        · omega
        · exact .step hr h (ih (hs.be _ _ h).2.1)
    · exact Way.mono (fun p q h => (hB p q).2 (.inr h)) (fun p h => (hL p).2 (.inr h))
  cases x with
  | nil =>
    constructor
    · rintro ⟨p, hp, hl⟩
      have hp' : p = a := hp
      subst hp'
      rcases (hL p).1 hl with ⟨_, he⟩ | h
      · exact .inl ⟨rfl, he⟩
      · have := hs.la _ h; omega
    · rintro (⟨_, he⟩ | ⟨p, _, hw'⟩)
      · exact ⟨a, rfl, (hL a).2 (.inl ⟨rfl, he⟩)⟩
      · exact absurd rfl hw'.ne_nil
  | cons c x =>
    rw [steps_way]
    constructor
    · rintro ⟨p, q, rfl, hb, hw'⟩
      rcases (hB p q).1 hb with ⟨_, hq⟩ | h
      · exact .inr ⟨q, hq, (hw q _ (hs.fi q hq).1).1 hw'⟩
      · have := (hs.be _ _ h).1; omega
    · rintro (⟨h, _⟩ | ⟨q, hq, hw'⟩)
      · simp at h
      · exact ⟨a, q, rfl, (hB a q).2 (.inl ⟨rfl, hq⟩), (hw q _ (hs.fi q hq).1).2 hw'⟩
end Go.Proofs.Ytpngikmcjkjdaab

namespace Go.Proofs.Ytpngikmcjkjdaab
open Go.RowKit
set_option linter.unusedVariables false
set_option maxRecDepth 20000 in
set_option maxHeartbeats 1000000 in
theorem tjoined_ok (a b : Bool) (how : Int) (w : World) (h0 : 0 ≤ how) (h1 : how ≤ 3) :
    Calls Try.prog 77 #[.bool a, .bool b, .int .i64 how] w fun e w' => e = .returned (.bool (joinB how a b)) ∧ w' = w := by
  rcases (show how = 0 ∨ how = 1 ∨ how = 2 ∨ how = 3 by omega) with rfl | rfl | rfl | rfl <;> cases a <;> cases b
  all_goals
    go_enter Try.func77, Try.ntmps77
    go_wp2
    go_ret
    exact ⟨rfl, rfl⟩
theorem Try.infoP : (Try.prog.info? 131).map (fun i => (i.zero, i.size, i.bytes)) = some (some (.agg #[.int .i64 0, .int .i64 0]), 2, 16) := by kernel_rfl
def rcells (X : Nat → Nat → Nat) : Nat → List Value
  | 0 => []
  | k + 1 => rcells X k ++ (List.range 8).map fun c => .int .i64 ((X k c : Nat) : Int)
def acells (A : Nat → Bool) : Nat → List Value
  | 0 => []
  | k + 1 => acells A k ++ [.bool (A k)]
theorem acells_new {M N : Tab} {how : Int} {ps : List Nat} {q k : Nat} (hk : k ≤ ps.length) : acells (pairTab M N how (ps ++ [q])).acc k = acells (pairTab M N how ps).acc k := by
  induction k with
  | zero => rfl
  | succ k ih =>
    simp only [acells]
    rw [ih (by omega)]
    simp only [pairTab]
    rw [getD_app _ _ _ (by omega)]
theorem rcells_congr {X Y : Nat → Nat → Nat} {k : Nat} (h : ∀ i c, i < k → c < 8 → X i c = Y i c) : rcells X k = rcells Y k := by
  induction k with
  | zero => rfl
  | succ k ih =>
    simp only [rcells]
    rw [ih (fun i c hi hc => h i c (by omega) hc)]
    congr 1
    apply List.map_congr_left
    intro c hc
    rw [h k c (by omega) (by simpa using hc)]
theorem pn_new {good : Nat → Prop} {S : Nat → Nat → Nat} {ps : List Nat} {p q : Nat} (h : PRel good S ps p) (i c : Nat) (hc : c < 8) (hr : 8 * i + c < p) : pn S (ps ++ [q]) i c = pn S ps i c := by
  have hc := h.clo _ hr
  rw [show (8 * i + c) / 8 = i by omega, show (8 * i + c) % 8 = c by omega] at hc
  simp only [pn]
  rw [getD_app _ _ _ hc.1, List.idxOf_append, if_pos hc.2]
theorem acells_len (A : Nat → Bool) (k : Nat) : (acells A k).length = k := by
  induction k with
  | zero => rfl
  | succ k ih => simp [acells, ih]
theorem rcells_len (X : Nat → Nat → Nat) (k : Nat) : (rcells X k).length = k * 8 := by
  induction k with
  | zero => rfl
  | succ k ih => simp only [rcells, List.length_append, ih, List.length_map, List.length_range]; omega
theorem acells_at (A : Nat → Bool) (k i : Nat) (hi : i < k) : (acells A k)[i]? = some (.bool (A i)) := by
  induction k with
  | zero => omega
  | succ k ih =>
    simp only [acells]
    by_cases e : i = k
    · subst e; rw [List.getElem?_append_right (by rw [acells_len]; exact Nat.le_refl _), acells_len]; simp
    · rw [List.getElem?_append_left (by rw [acells_len]; omega)]; exact ih (by omega)
theorem rcells_at (X : Nat → Nat → Nat) (k i c : Nat) (hi : i < k) (hc : c < 8) : (rcells X k)[i * 8 + c]? = some (.int .i64 ((X i c : Nat) : Int)) := by
  induction k with
  | zero => omega
  | succ k ih =>
    simp only [rcells]
    by_cases e : i = k
    · subst e
      rw [List.getElem?_append_right (by rw [rcells_len]; omega), rcells_len, show i * 8 + c - i * 8 = c by omega]
      simp [hc]
    · rw [List.getElem?_append_left (by rw [rcells_len]; omega)]; exact ih (by omega)
set_option maxRecDepth 20000 in
set_option maxHeartbeats 2000000 in
theorem pairUp_ok (V U : Lay) (M N : Tab) (how : Int) (w : World) (hM : M.Ok) (hN : N.Ok) (hV : TabAt w V M) (hU : TabAt w U N) (hh0 : 0 ≤ how) (hh1 : how ≤ 3) :
    Calls Try.prog 56 #[.agg #[.slice (some ⟨V.ba, V.oa, none⟩) M.n V.ca, .slice (some ⟨V.bn, V.on, none⟩) M.n V.cn], .agg #[.slice (some ⟨U.ba, U.oa, none⟩) N.n U.ca, .slice (some ⟨U.bn, U.on, none⟩) N.n U.cn], .int .i64 how] w
      fun e w' => Below w.heap.size w w' ∧ ∃ ps gw ga ca gn cn, PRel (goodQ M N) (succQ M N) ps (8 * ps.length) ∧ e = .returned (.pointer (some ⟨gw, 0, none⟩)) ∧ WideAt w' gw ga ca gn cn (pairTab M N how ps) := by
  have hz := zero_met
  have l1 := hM.lo
  have l2 := hM.hi
  have l3 := hN.lo
  have l4 := hN.hi
  obtain ⟨i0, hi, hz0, hz1, hz2⟩ := info_parts Try.infoP
  obtain ⟨W0, hW0⟩ : ∃ W, W = (((w.alloc (.cells #[.slice (some ⟨V.ba, V.oa, none⟩) M.n V.ca, .slice (some ⟨V.bn, V.on, none⟩) M.n V.cn] 30)).alloc (.cells #[.slice (some ⟨U.ba, U.oa, none⟩) N.n U.ca, .slice (some ⟨U.bn, U.on, none⟩) N.n U.cn] 30)).alloc
      (.cells #[.slice none 0 0, .slice none 0 0] 125)).alloc (.cells (zs 1600) 129) := ⟨_, rfl⟩
  have BW0 : Below w.heap.size w W0 := by
    rw [hW0]; exact ((((Below.refl _ _).alloc (Nat.le_refl _) _).alloc (by simp) _).alloc (by simp; omega) _).alloc (by simp; omega) _
  have hW0s : W0.heap.size = w.heap.size + 1 + 1 + 1 + 1 := by rw [hW0]; simp
  have b0 : W0.heap[w.heap.size]? = some (.cells #[.slice (some ⟨V.ba, V.oa, none⟩) M.n V.ca, .slice (some ⟨V.bn, V.on, none⟩) M.n V.cn] 30 (0, 0)) := by rw [hW0]; exact heap_at_old (heap_at_old (heap_at_old (heap_at_new (by simp))))
  have b1 : W0.heap[w.heap.size + 1]? = some (.cells #[.slice (some ⟨U.ba, U.oa, none⟩) N.n U.ca, .slice (some ⟨U.bn, U.on, none⟩) N.n U.cn] 30 (0, 0)) := by rw [hW0]; exact heap_at_old (heap_at_old (heap_at_new (by simp)))
  have b3 : W0.heap[w.heap.size + 1 + 1]? = some (.cells #[.slice none 0 0, .slice none 0 0] 125 (0, 0)) := by rw [hW0]; exact heap_at_old (heap_at_new (by simp))
  have b4 : W0.heap[w.heap.size + 1 + 1 + 1]? = some (.cells (zs 1600) 129 (0, 0)) := by rw [hW0]; exact heap_at_new (by simp)
  have r4 : W0.rowIs (w.heap.size + 1 + 1 + 1) 129 1600 (fun _ => .int .i64 0) := ⟨_, b4, by simp [zs], fun i hi => by simp [zs, hi]⟩
  have s0 := r4.cell (i := 0) (by omega)
  have s1 := r4.frozen 0
  have R4 : Hid (W0.rowIs (w.heap.size + 1 + 1 + 1) 129 1600 (fun _ => .int .i64 0)) := r4
  clear r4 b4
  go_enter Try.func56, Try.ntmps56
  go_upto_region 3 with fail
  rw [← hW0]
  clear hW0 hz
  go_wp2_with fail
  clear s0 s1
  have P0 : PairMem W0 w.heap.size ((W0.setCell ⟨w.heap.size + 1 + 1 + 1, 0, none⟩ (.int .i64 1)).alloc (.cells #[.int .i64 0, .int .i64 0] 131)) [0] (.slice (some ⟨w.heap.size + 1 + 1 + 1 + 1, 0, none⟩) 1 1) (.slice none 0 0) (.slice none 0 0) 0 0 [] [] := by
    have hs : (W0.setCell ⟨w.heap.size + 1 + 1 + 1, 0, none⟩ (.int .i64 1)).heap.size = w.heap.size + 1 + 1 + 1 + 1 := by simp [hW0s]
    refine ⟨((Below.refl _ _).setCell (p := ⟨w.heap.size + 1 + 1 + 1, 0, none⟩) (by simp) _).alloc (by omega) _, heap_at_old (heap_set_other b3 (by simp)), ?_, World.ownsRow_nil _ _ _ _, World.ownsRow_nil _ _ _ _, ?_⟩
    · refine ((R4.out.set 0 _).alloc _).congr (fun x _ => ?_)
      by_cases e : x = 0
      · subst e; simp [metv]
      · simp [metv, e]
    · have := World.ownsRow_lit (base := w.heap.size + 1 + 1 + 1 + 1) (e := 131) (size := 2) (W0.setCell ⟨w.heap.size + 1 + 1 + 1, 0, none⟩ (.int .i64 1)) #[.int .i64 0, .int .i64 0] 1 (by omega) (by decide) rfl
      rw [hs] at this
      exact this
  clear R4 b3
  go_loopw [9, 10] (fun vp at' wr => ∃ k : Nat, ∃ ps va vn, k ≤ ps.length ∧ at' = .int .i64 k ∧ PRel (goodQ M N) (succQ M N) ps (8 * k) ∧
      PairMem W0 w.heap.size wr ps vp va vn k k (acells (pairTab M N how ps).acc k) (rcells (pn (succQ M N) ps) k))
    (fun _ at' _ => 1600 - (intOf at').toNat)
  case atStart => exact ⟨0, [0], _, _, by simp, rfl, PRel.start ⟨by simp; omega, by simp; omega⟩, P0⟩
  case round =>
    obtain ⟨k, ps, va, vn, hk, rfl, hR, hP⟩ := hrel
    clear P0
    have hbd := hR.bound hN
    have hb16 : M.n * N.n ≤ 1600 := by have := Nat.mul_le_mul l2 l4; omega
    have hbW := hP.blw
    have hbw : Below w.heap.size w wr := BW0.trans (hbW.mono (by omega))
    obtain ⟨x0, x1, _, _⟩ := cell_two ((hbW.block _ (by omega)).trans b0)
    obtain ⟨x2, x3, _, _⟩ := cell_two ((hbW.block _ (by omega)).trans b1)
    obtain ⟨ap, cp, rfl, hap⟩ := ownsRow_shape hP.own2
    by_cases hlt : k < ps.length
    · obtain ⟨gp, rfl, hcp⟩ := hap (by omega)
      have hpk := pcells_at ps k hlt
      have y0 := (hcp (k * 2) (by omega)).trans hpk.1
      have y1 := (hcp (k * 2 + 1) (by omega)).trans hpk.2
      obtain ⟨q0, HQ⟩ : ∃ q0, Hid (ps.getD k 0 = q0) := ⟨_, rfl⟩
      rw [HQ.out] at y0 y1
      have hgq : goodQ M N q0 := by rw [← HQ.out]; exact hR.inr _ (getD_mem ps k hlt)
      obtain ⟨i, Hi⟩ : ∃ i, Hid (q0 / 40 = i) := ⟨_, rfl⟩
      obtain ⟨j, Hj⟩ : ∃ j, Hid (q0 % 40 = j) := ⟨_, rfl⟩
      rw [Hi.out] at y0
      rw [Hj.out] at y1
      have hin : i < M.n := by rw [← Hi.out]; exact hgq.1
      have hjn : j < N.n := by rw [← Hj.out]; exact hgq.2
      have HP : Hid (PairMem W0 w.heap.size wr ps (.slice (some ⟨gp, 0, none⟩) ps.length cp) va vn k k (acells (pairTab M N how ps).acc k) (rcells (pn (succQ M N) ps) k)) := hP
      have HR : Hid (PRel (goodQ M N) (succQ M N) ps (8 * k)) := hR
      clear hP hR hap hcp hpk
      go_wp2_with fail
      clear y0 y1 x0 x1 x2 x3 hbW hbd
      rename World => wo
      have HS : w.heap.size + 1 + 1 + 1 + 1 ≤ wo.heap.size := by have := HP.out.met.lt; omega
      have R0 : RoundMem W0 w.heap.size wo.heap.size ((wo.alloc (.cells #[.int .i64 (i : Int), .int .i64 (j : Int)] 131)).alloc (.cells #[.int .i64 0, .int .i64 0, .int .i64 0, .int .i64 0, .int .i64 0, .int .i64 0, .int .i64 0, .int .i64 0] 113))
          ps (.slice (some ⟨gp, 0, none⟩) ps.length cp) va vn k (acells (pairTab M N how ps).acc k) (rcells (pn (succQ M N) ps) k) i j (fun _ => 0) := by
        have hp := HP.out
        refine ⟨(hp.alloc _).alloc _, heap_at_old (heap_at_new rfl), ?_, HS, fun g e => ?_, fun g e => (hp.own0.lt g e).2, fun g e => (hp.own1.lt g e).2⟩
        · refine ⟨_, heap_at_new (by simp), rfl, fun x hx => ?_⟩
          rcases (show x = 0 ∨ x = 1 ∨ x = 2 ∨ x = 3 ∨ x = 4 ∨ x = 5 ∨ x = 6 ∨ x = 7 by omega) with rfl | rfl | rfl | rfl | rfl | rfl | rfl | rfl <;> rfl
        · have := (hp.own2.lt g e).2; omega
      go_loopw [9, 13] (fun vp c' wi => ∃ c : Nat, ∃ ps, c ≤ 8 ∧ c' = .int .i64 c ∧ k < ps.length ∧ Hid (ps.getD k 0 = q0) ∧ PRel (goodQ M N) (succQ M N) ps (8 * k + c) ∧
          RoundMem W0 w.heap.size wo.heap.size wi ps vp va vn k (acells (pairTab M N how ps).acc k) (rcells (pn (succQ M N) ps) k) i j (fun c' => if c' < c then pn (succQ M N) ps k c' else 0))
        (fun _ c' _ => 8 - (intOf c').toNat)
      case atStart => exact ⟨0, ps, by omega, rfl, hlt, HQ, HR.out, by simpa using R0⟩
      case round =>
        clear R0 HP HR HQ hlt
        obtain ⟨c, qs, hc, rfl, hlt, HQ, hR, hP⟩ := hrel
        have hbd := hR.bound hN
        have hbW := hP.mem.blw
        have hbw : Below w.heap.size w wr := BW0.trans (hbW.mono (by omega))
        obtain ⟨x0, x1, _, _⟩ := cell_two ((hbW.block _ (by omega)).trans b0)
        obtain ⟨x2, x3, _, _⟩ := cell_two ((hbW.block _ (by omega)).trans b1)
        obtain ⟨e0, e1, _, _⟩ := cell_two hP.here
        obtain ⟨ap, cp, rfl, hap⟩ := ownsRow_shape hP.mem.own2
        obtain ⟨gq, rfl, hcp⟩ := hap (by omega)
        by_cases hl8 : c < 8
        · have y0 := (hV.below hbw).row i hin
          have y1 := (hV.below hbw).cel i c hin hl8
          have y2 := (hU.below hbw).row j hjn
          have y3 := (hU.below hbw).cel j c hjn hl8
          have n1 := hM.nx i c hin hl8
          have n2 := hN.nx j c hjn hl8
          obtain ⟨one, H1⟩ : ∃ x, Hid (M.nxt i c = x) := ⟨_, rfl⟩
          obtain ⟨two, H2⟩ : ∃ x, Hid (N.nxt j c = x) := ⟨_, rfl⟩
          rw [H1.out] at y1 n1
          rw [H2.out] at y3 n2
          have o1 : one < 40 := by omega
          have o2 : two < 40 := by omega
          have HS1 : Hid (succQ M N (qs.getD ((8 * k + c) / 8) 0) ((8 * k + c) % 8) = one * 40 + two) := by
            unfold Hid succQ; rw [show (8 * k + c) / 8 = k by omega, show (8 * k + c) % 8 = c by omega, HQ.out, Hi.out, Hj.out, H1.out, H2.out]
          have m0 := hP.mem.met.cell (i := one * 40 + two) (by omega)
          have m1 := hP.mem.met.frozen (one * 40 + two)
          have r0 := hP.rw.cell hl8
          have r1 := hP.rw.frozen c
          simp only [Nat.lt_irrefl, if_false] at r0
          have HP : Hid (RoundMem W0 w.heap.size wo.heap.size wr qs (.slice (some ⟨gq, 0, none⟩) qs.length cp) va vn k (acells (pairTab M N how qs).acc k) (rcells (pn (succQ M N) qs) k) i j (fun c' => if c' < c then pn (succQ M N) qs k c' else 0)) := hP
          have HR : Hid (PRel (goodQ M N) (succQ M N) qs (8 * k + c)) := hR
          have HH := heap_lt hP.here
          have HH1 := hP.rw.lt
          clear hP hR hap hcp hV hU hbW hbw
          by_cases hmem : one * 40 + two ∈ qs
          · have hmv : metv qs (one * 40 + two) = qs.idxOf (one * 40 + two) + 1 := by simp [metv, hmem]
            have hil := List.idxOf_lt_length_of_mem hmem
            rw [hmv] at m0
            obtain ⟨ix, HX⟩ : ∃ x, Hid (qs.idxOf (one * 40 + two) = x) := ⟨_, rfl⟩
            rw [HX.out] at m0 hil
            have hpn : Hid (pn (succQ M N) qs k c = ix) := by
              have := HS1.out
              rw [show (8 * k + c) / 8 = k by omega, show (8 * k + c) % 8 = c by omega] at this
              unfold Hid pn; rw [this]; exact HX.out
            have HM : Hid (one * 40 + two ∈ qs) := hmem
            clear hmem hmv
            have mb : (((ix + 1 : Nat) : Int) == 0) = false := by simp; omega
            go_wp2_with fail
            go_roundw
            case rel =>
              have hm : succQ M N (qs.getD ((8 * k + c) / 8) 0) ((8 * k + c) % 8) ∈ qs := by rw [HS1.out]; exact HM.out
              have hn := (HP.out.old (c := c) (v := ix)).rcongr (r' := fun c' => if c' < c + 1 then pn (succQ M N) qs k c' else 0) (fun x _ => by
                by_cases e : x = c
                · subst e; simp [hpn.out]
                · by_cases h' : x < c
                  · simp only [e, h', if_false, if_true]; rw [if_pos (by omega)]
                  · simp only [e, h', if_false]; rw [if_neg (by omega)])
              exact ⟨c + 1, qs, by omega, by go_num, hlt, HQ, HR.out.old (by omega) hm, hn⟩
            case measure => simp [intOf]; omega
          · have hmv : metv qs (one * 40 + two) = 0 := by simp [metv, hmem]
            rw [hmv] at m0
            have HM : Hid (one * 40 + two ∉ qs) := hmem
            clear hmem hmv
            have HPa : Hid (RoundMem W0 w.heap.size wo.heap.size (wr.alloc (.cells #[.int .i64 (one : Int), .int .i64 (two : Int)] 131)) qs (.slice (some ⟨gq, 0, none⟩) qs.length cp) va vn k (acells (pairTab M N how qs).acc k) (rcells (pn (succQ M N) qs) k) i j (fun c' => if c' < c then pn (succQ M N) qs k c' else 0)) := HP.out.alloc _
            have hna := HPa.out.mem.own2
            have hbo : w.heap.size + 1 + 1 + 1 + 1 ≤ (wr.alloc (.cells #[.int .i64 (one : Int), .int .i64 (two : Int)] 131)).heap.size := by simp; omega
            have hcells : Hid (pcells qs ++ [.int .i64 (one : Int), .int .i64 (two : Int)] = pcells (qs ++ [one * 40 + two])) := by
              have := pcells_snoc qs (one * 40 + two)
              rw [show (one * 40 + two) / 40 = one by omega, show (one * 40 + two) % 40 = two by omega] at this
              exact this
            have HG : ∀ g cap w2, w2.ownsRow (w.heap.size + 1 + 1 + 1 + 1) 131 2 (.slice (some ⟨g, 0, none⟩) (qs.length + 1) cap) (qs.length + 1) (pcells qs ++ [.int .i64 (one : Int), .int .i64 (two : Int)]) →
                (wr.alloc (.cells #[.int .i64 (one : Int), .int .i64 (two : Int)] 131)).grownBy w2 (Value.slice (some ⟨gq, 0, none⟩) qs.length cp).ownBlock → ((Value.slice (some ⟨gq, 0, none⟩) qs.length cp).ownBlock = some g ∨ g = (wr.alloc (.cells #[.int .i64 (one : Int), .int .i64 (two : Int)] 131)).heap.size) →
                w2.cell? ⟨w.heap.size + 1 + 1 + 1, one * 40 + two, none⟩ = some (.int .i64 0) ∧ w2.frozen? ⟨w.heap.size + 1 + 1 + 1, one * 40 + two, none⟩ = false ∧ w2.cell? ⟨wo.heap.size + 1, c, none⟩ = some (.int .i64 0) ∧ w2.frozen? ⟨wo.heap.size + 1, c, none⟩ = false ∧
                Hid (RoundMem W0 w.heap.size wo.heap.size ((w2.setCell ⟨w.heap.size + 1 + 1 + 1, one * 40 + two, none⟩ (.int .i64 ((qs.length : Int) + 1))).setCell ⟨wo.heap.size + 1, c, none⟩ (.int .i64 (qs.length : Int))) (qs ++ [one * 40 + two]) (.slice (some ⟨g, 0, none⟩) (qs.length + 1) cap) va vn k (acells (pairTab M N how qs).acc k) (rcells (pn (succQ M N) qs) k) i j (fun x => if x = c then qs.length else if x < c then pn (succQ M N) qs k x else 0)) := by
              intro g cap w2 ho hg hf
              rw [hcells.out] at ho
              obtain ⟨_, _, g3, _, _, _, g7, _⟩ := HPa.out.grown ho hg hf
              refine ⟨?_, g3.frozen _, ?_, g7.frozen _, HPa.out.new HM.out ho hg hf⟩
              · rw [g3.cell (by omega)]; simp [metv, HM.out]
              · rw [g7.cell hl8]; simp
            have d1 : ¬ wo.heap.size + 1 = w.heap.size + 1 + 1 + 1 := by omega
            have d2 : ¬ wo.heap.size = w.heap.size + 1 + 1 := by omega
            have d3 : ¬ w.heap.size + 1 + 1 = wo.heap.size := by omega
            go_wp2_with (at_builtin; refine wpList_append_fresh _ rfl _ _ 132 rfl (w.heap.size + 1 + 1 + 1 + 1) 131 i0 (.agg #[.int .i64 0, .int .i64 0]) 2 16 Try.underlying132 hi hz0 hz1 hz2 rfl (by decide) _ qs.length (pcells qs) rfl hna ⟨wr.heap.size, 0, none⟩ 1 1 [.int .i64 (one : Int), .int .i64 (two : Int)] rfl rfl (cell_two_new _ _ _ _) (by intro u hu; simp at hu; rcases hu with rfl | rfl <;> rfl) (by decide) (by unfold maxLen; omega) (by omega) hbo ?_; intro g cap w2 hown hgr hfr; obtain ⟨f0, f1, f2, f3, HN⟩ := HG g cap w2 hown hgr hfr)
            go_roundw
            case rel =>
              have hnm : succQ M N (qs.getD ((8 * k + c) / 8) 0) ((8 * k + c) % 8) ∉ qs := by rw [HS1.out]; exact HM.out
              have hgd : goodQ M N (succQ M N (qs.getD ((8 * k + c) / 8) 0) ((8 * k + c) % 8)) := by
                rw [show (8 * k + c) / 8 = k by omega, show (8 * k + c) % 8 = c by omega, HQ.out]; exact (goodQ_succ hM hN hgq hl8).1
              have hnew := HR.out.new (by omega) hnm hgd
              rw [HS1.out] at hnew
              have hpnew : pn (succQ M N) (qs ++ [one * 40 + two]) k c = qs.length := by
                have := HS1.out
                rw [show (8 * k + c) / 8 = k by omega, show (8 * k + c) % 8 = c by omega] at this
                simp only [pn]
                rw [getD_app _ _ _ hlt, this, List.idxOf_append, if_neg HM.out]; simp
              have hn := HN.out.rcongr (r' := fun c' => if c' < c + 1 then pn (succQ M N) (qs ++ [one * 40 + two]) k c' else 0) (fun x hx => by
                by_cases e : x = c
                · subst e; simp [hpnew]
                · by_cases h' : x < c
                  · simp only [e, h', if_false, if_true]; rw [if_pos (by omega), pn_new HR.out k x hx (by omega)]
                  · simp only [e, h', if_false]; rw [if_neg (by omega)])
              rw [← acells_new (M := M) (N := N) (how := how) (q := one * 40 + two) (by omega), ← rcells_congr (X := pn (succQ M N) (qs ++ [one * 40 + two])) (fun x c' hx hc' => pn_new HR.out x c' hc' (by omega))] at hn
              exact ⟨c + 1, qs ++ [one * 40 + two], by omega, by go_num, by simp; omega, by unfold Hid; rw [getD_app _ _ _ hlt]; exact HQ.out, hnew, hn⟩
            case measure => simp [intOf]; omega
        · have hc8 : c = 8 := by omega
          subst hc8
          have a0 := (hV.below hbw).acc i hin
          have a1 := (hU.below hbw).acc j hjn
          have HP : Hid (RoundMem W0 w.heap.size wo.heap.size wr qs (.slice (some ⟨gq, 0, none⟩) qs.length cp) va vn k (acells (pairTab M N how qs).acc k) (rcells (pn (succQ M N) qs) k) i j (fun c' => if c' < 8 then pn (succQ M N) qs k c' else 0)) := hP
          have HR : Hid (PRel (goodQ M N) (succQ M N) qs (8 * k + 8)) := hR
          clear hP hR hap hcp hbW hbw
          go_wp2_with fail
          go_quiet ((go_at_call 77; exact Calls.quiet_of_same (tjoined_ok _ _ _ _ hh0 hh1)))
          go_upto_region 20 with fail
          obtain ⟨W3, hW3⟩ : ∃ W3, W3 = wr.drewN nq := ⟨_, rfl⟩
          rw [← hW3]
          have HP3 : Hid (RoundMem W0 w.heap.size wo.heap.size W3 qs (.slice (some ⟨gq, 0, none⟩) qs.length cp) va vn k (acells (pairTab M N how qs).acc k) (rcells (pn (succQ M N) qs) k) i j (fun c' => if c' < 8 then pn (succQ M N) qs k c' else 0)) := by
            rw [hW3]; exact HP.out.drewN nq
          clear hW3 HP x0 x1 x2 x3 e0 e1 a0 a1
          have f2 := HP3.out.rw
          have c0 := f2.cell (i := 0) (by omega)
          have c1 := f2.cell (i := 1) (by omega)
          have c2 := f2.cell (i := 2) (by omega)
          have c3 := f2.cell (i := 3) (by omega)
          have c4 := f2.cell (i := 4) (by omega)
          have c5 := f2.cell (i := 5) (by omega)
          have c6 := f2.cell (i := 6) (by omega)
          have c7 := f2.cell (i := 7) (by omega)
          simp only [show (0 : Nat) < 8 from by decide, show (1 : Nat) < 8 from by decide, show (2 : Nat) < 8 from by decide, show (3 : Nat) < 8 from by decide, show (4 : Nat) < 8 from by decide, show (5 : Nat) < 8 from by decide, show (6 : Nat) < 8 from by decide, show (7 : Nat) < 8 from by decide, if_true] at c0 c1 c2 c3 c4 c5 c6 c7
          clear f2
          have HA := add_ok (w.heap.size + 1 + 1) (w.heap.size + 1 + 1 + 1 + 1) va vn k _ _ (joinB how (M.acc i) (N.acc j)) (pn (succQ M N) qs k) W3 HP3.out.mem.blk HP3.out.mem.own0 HP3.out.mem.own1 (by omega) (by have := HP3.out.mem.met.lt; omega) (by omega)
          unfold row8 at HA
          go_wp2_with fail
          refine HA.mono ?_
          rintro e w6 ⟨rfl, va', vn', f0, f1, f2, f3, _, _⟩
          have F1 : Hid _ := HP3.out.add f0 f1 f2 f3
          clear HA f0 f1 f2 f3 HP3 c0 c1 c2 c3 c4 c5 c6 c7
          go_wp2_with fail
          go_roundw
          case rel =>
            have f1 := F1.out
            have ea : acells (pairTab M N how qs).acc k ++ [.bool (joinB how (M.acc i) (N.acc j))] = acells (pairTab M N how qs).acc (k + 1) := by
              simp only [acells, pairTab]; rw [HQ.out, Hi.out, Hj.out]
            have er : rcells (pn (succQ M N) qs) k ++ [(.int .i64 ((pn (succQ M N) qs k 0 : Nat) : Int)), (.int .i64 ((pn (succQ M N) qs k 1 : Nat) : Int)), (.int .i64 ((pn (succQ M N) qs k 2 : Nat) : Int)), (.int .i64 ((pn (succQ M N) qs k 3 : Nat) : Int)), (.int .i64 ((pn (succQ M N) qs k 4 : Nat) : Int)), (.int .i64 ((pn (succQ M N) qs k 5 : Nat) : Int)), (.int .i64 ((pn (succQ M N) qs k 6 : Nat) : Int)), (.int .i64 ((pn (succQ M N) qs k 7 : Nat) : Int))] = rcells (pn (succQ M N) qs) (k + 1) := by
              simp only [rcells]; rfl
            rw [ea, er] at f1
            exact ⟨k + 1, qs, _, _, by omega, by go_num, by rw [show 8 * (k + 1) = 8 * k + 8 by omega]; exact HR.out, f1⟩
          case measure => simp [intOf]; omega
    · have he : k = ps.length := by omega
      subst he
      obtain ⟨y0, y1, _, _⟩ := cell_two hP.blk
      obtain ⟨aa, ca, rfl, haa⟩ := ownsRow_shape hP.own0
      obtain ⟨an, cn, rfl, han⟩ := ownsRow_shape hP.own1
      obtain ⟨ga, rfl, _⟩ := haa hR.len
      obtain ⟨gn, rfl, _⟩ := han hR.len
      have HP : Hid _ := hP
      have HR : Hid (PRel (goodQ M N) (succQ M N) ps (8 * ps.length)) := hR
      have HY0 : Hid _ := y0
      have HY1 : Hid _ := y1
      clear hP hR hap y0 y1
      go_wp2_with fail
      go_ret
      have hp := HP.out
      refine ⟨hbw, ps, w.heap.size + 1 + 1, ga, ca, gn, cn, HR.out, rfl, ⟨HY0.out, HY1.out, fun x hx => ?_, fun x c hx hc => ?_⟩⟩
      · have hx' : x < ps.length := hx
        rw [hp.own0.cellAt x (by omega)]
        exact acells_at _ _ _ hx'
      · have hx' : x < ps.length := hx
        rw [hp.own1.cellAt (x * 8 + c) (by omega)]
        exact rcells_at _ _ _ _ hx' hc
end Go.Proofs.Ytpngikmcjkjdaab

namespace Go.Proofs.Ytpngikmcjkjdaab
open Go.RowKit
set_option linter.unusedVariables false
theorem bits_and_i64 (a b : Nat) (ha : a < 9223372036854775808) (hb : b < 9223372036854775808) : bits BinOp.and IntKind.i64 (a : Int) (b : Int) = ((a &&& b : Nat) : Int) := by
  have h : (BitVec.ofInt 64 (a : Int) &&& BitVec.ofInt 64 (b : Int)).toNat = a &&& b := by
    simp only [BitVec.toNat_and, BitVec.ofInt_natCast, BitVec.toNat_ofNat]
    rw [Nat.mod_eq_of_lt (by omega), Nat.mod_eq_of_lt (by omega)]
  have hl : a &&& b ≤ a := Nat.and_le_left
  show IntKind.i64.wrap ((BitVec.ofInt 64 (a : Int) &&& BitVec.ofInt 64 (b : Int)).toNat : Int) = _
  rw [h, IntKind.wrap_i64]
  omega
theorem bits_or_i64 (a b : Nat) (ha : a < 2048) (hb : b < 2048) : bits BinOp.or IntKind.i64 (a : Int) (b : Int) = ((a ||| b : Nat) : Int) := by
  have h : (BitVec.ofInt 64 (a : Int) ||| BitVec.ofInt 64 (b : Int)).toNat = a ||| b := by
    simp only [BitVec.toNat_or, BitVec.ofInt_natCast, BitVec.toNat_ofNat]
    rw [Nat.mod_eq_of_lt (by omega), Nat.mod_eq_of_lt (by omega)]
  have hl : a ||| b < 2 ^ 11 := Nat.or_lt_two_pow (by omega) (by omega)
  show IntKind.i64.wrap ((BitVec.ofInt 64 (a : Int) ||| BitVec.ofInt 64 (b : Int)).toNat : Int) = _
  rw [h, IntKind.wrap_i64]
  omega
theorem wrap64_pow (i : Nat) (h : i ≤ 11) : wrap64 (2 ^ i) = ((2 ^ i : Nat) : Int) := by
  have h1 : 2 ^ i ≤ 2 ^ 11 := Nat.pow_le_pow_right (by omega) h
  have h2 : ((2 : Int) ^ i) = ((2 ^ i : Nat) : Int) := by simp
  rw [h2]
  generalize (2 ^ i : Nat) = m at h1 ⊢
  unfold wrap64
  omega
theorem and_pow (S i : Nat) : (S &&& 2 ^ i != 0) = S.testBit i := by
  have e : S &&& 2 ^ i = if S.testBit i then 2 ^ i else 0 := by
    apply Nat.eq_of_testBit_eq
    intro j
    rw [Nat.testBit_and, Nat.testBit_two_pow]
    by_cases h : i = j
    · subst h
      cases hb : S.testBit i
      · simp
      · simp
    · cases hb : S.testBit i
      · simp [h]
      · simp [h]
  rw [e]
  cases hb : S.testBit i
  · simp
  · simp
def folF (beh : Nat → Nat) (S : Nat) : Nat → Nat
  | 0 => 0
  | i + 1 => if S.testBit i then folF beh S i ||| beh i else folF beh S i
theorem folF_lt {beh : Nat → Nat} {S n : Nat} (h : ∀ i, i < n → beh i < 2048) : folF beh S n < 2048 := by
  induction n with
  | zero => simp [folF]
  | succ n ih =>
    have h1 := ih (fun i hi => h i (by omega))
    simp only [folF]
    split
    · exact Nat.or_lt_two_pow (n := 11) h1 (h n (by omega))
    · exact h1
theorem folF_bit {beh : Nat → Nat} {S n q : Nat} : (folF beh S n).testBit q = true ↔ ∃ p, p < n ∧ S.testBit p = true ∧ (beh p).testBit q = true := by
  induction n with
  | zero => simp [folF]
  | succ n ih =>
    simp only [folF]
    by_cases h : S.testBit n = true
    · rw [if_pos h, Nat.testBit_or, Bool.or_eq_true, ih]
      constructor
      · rintro (⟨p, h1, h2, h3⟩ | h1)
        · exact ⟨p, by omega, h2, h3⟩
        · exact ⟨n, by omega, h, h1⟩
      · rintro ⟨p, h1, h2, h3⟩
        by_cases e : p = n
        · subst e; exact .inr h3
        · exact .inl ⟨p, by omega, h2, h3⟩
    · rw [if_neg h, ih]
      constructor
      · rintro ⟨p, h1, h2, h3⟩; exact ⟨p, by omega, h2, h3⟩
      · rintro ⟨p, h1, h2, h3⟩
        by_cases e : p = n
        · subst e; exact absurd h2 h
        · exact ⟨p, by omega, h2, h3⟩
set_option maxRecDepth 20000 in
set_option maxHeartbeats 1600000 in
theorem follow_ok (bm gb n cap : Nat) (beh : Nat → Nat) (S : Nat) (w : World) (hn : n ≤ 11) (hS : S < 2048) (hb : ∀ i, i < n → beh i < 2048) (h0 : w.cell? ⟨bm, 0, none⟩ = some (.slice (some ⟨gb, 0, none⟩) n cap)) (hc : NatsAt w gb n beh) :
    Calls Try.prog 90 #[.pointer (some ⟨bm, 0, none⟩), .int .i64 S] w fun e w' => e = .returned (.int .i64 ((folF beh S n : Nat) : Int)) ∧ w = w' := by
  go_enter Try.func90, Try.ntmps90
  go_wp2_with fail
  go_loop [5, 6] (fun v i' => ∃ i : Nat, i ≤ n ∧ i' = .int .i64 i ∧ v = .int .i64 ((folF beh S i : Nat) : Int)) (fun _ i' => n - (intOf i').toNat)
  case atStart => exact ⟨0, by omega, rfl, rfl⟩
  case round =>
    obtain ⟨i, hi, rfl, rfl⟩ := hrel
    by_cases hlt : i < n
    · have c0 := hc i hlt
      have hw := wrap64_pow i (by omega)
      have h2 : 2 ^ i ≤ 2 ^ 11 := Nat.pow_le_pow_right (by omega) (by omega)
      have ha := bits_and_i64 S (2 ^ i) (by omega) (by omega)
      have hfl := folF_lt (beh := beh) (S := S) (n := i) (fun j hj => hb j (by omega))
      have ho := bits_or_i64 (folF beh S i) (beh i) hfl (hb i hlt)
      have HS : Hid (folF beh S (i + 1) = if S.testBit i then folF beh S i ||| beh i else folF beh S i) := rfl
      have hbit := and_pow S i
      obtain ⟨an, HAN⟩ : ∃ x, Hid (S &&& 2 ^ i = x) := ⟨_, rfl⟩
      obtain ⟨on, HON⟩ : ∃ x, Hid (folF beh S i ||| beh i = x) := ⟨_, rfl⟩
      obtain ⟨tb, HTB⟩ : ∃ x, Hid (S.testBit i = x) := ⟨_, rfl⟩
      rw [HAN.out] at ha hbit
      rw [HON.out] at ho HS
      rw [HTB.out] at HS hbit
      rw [← hw] at ha
      have hb1 : ((an : Int) != 0) = tb := by
        rw [← hbit]
        rw [Bool.eq_iff_iff]
        simp
      clear hbit hw h2
      cases tb
      · go_wp2_with fail
        go_round
        case rel => exact ⟨i + 1, by omega, by go_num, by rw [HS.out]; rfl⟩
        case measure => simp [intOf]; omega
      · go_wp2_with fail
        go_round
        case rel => exact ⟨i + 1, by omega, by go_num, by rw [HS.out]; rfl⟩
        case measure => simp [intOf]; omega
    · have he : i = n := by omega
      subst he
      go_wp2_with fail
      go_ret
      exact ⟨rfl, rfl⟩
end Go.Proofs.Ytpngikmcjkjdaab

namespace Go.Proofs.Ytpngikmcjkjdaab
open Go.RowKit
set_option linter.unusedVariables false
def scells (R C : Nat → Nat) (k : Nat) : List Value := (List.range k).map fun i => .slice (some ⟨R i, 0, none⟩) 8 (C i)
def icells (X : Nat → Nat) (k : Nat) : List Value := (List.range k).map fun c : Nat => .int .i64 ((X c : Nat) : Int)
theorem scells_succ (R C : Nat → Nat) (k : Nat) : scells R C (k + 1) = scells R C k ++ [.slice (some ⟨R k, 0, none⟩) 8 (C k)] := by simp [scells, List.range_succ]
theorem icells_succ (X : Nat → Nat) (k : Nat) : icells X (k + 1) = icells X k ++ [.int .i64 ((X k : Nat) : Int)] := by simp [icells, List.range_succ]
structure BuildMem (W : World) (b : Nat) (w : World) (va vn : Value) (ka kn : Nat) (A : Nat → Bool) (R C : Nat → Nat) (X : Nat → Nat → Nat) : Prop where
  two : TwoRows W b 30 4 1 22 1 w va vn ka kn (acells A ka) (scells R C kn)
  rows : ∀ i, i < kn → w.ownsRow (b + 1) 3 1 (.slice (some ⟨R i, 0, none⟩) 8 (C i)) 8 (icells (X i) 8)
section
variable {W : World} {b : Nat} {w w1 w2 : World} {va vn vr : Value} {ka kn : Nat} {A : Nat → Bool} {R C : Nat → Nat} {X : Nat → Nat → Nat} {c : Nat} {x : List Value}
theorem BuildMem.start (hb : Below b W w) (hk : w.heap[b]? = some (.cells #[.slice none 0 0, .slice none 0 0] 30 (0, 0))) : BuildMem W b w (.slice none 0 0) (.slice none 0 0) 0 0 A R C X :=
  ⟨⟨hb, hk, World.ownsRow_nil _ _ _ _, World.ownsRow_nil _ _ _ _, by intro g h; simp [Value.ownBlock] at h⟩, fun i hi => absurd hi (by omega)⟩
theorem BuildMem.below (h : BuildMem W b w va vn ka kn A R C X) (hb : Below w.heap.size w w1) : BuildMem W b w1 va vn ka kn A R C X :=
  ⟨h.two.below hb, fun i hi => ownsRow_below (h.rows i hi) hb⟩
theorem BuildMem.acc (h : BuildMem W b w va vn ka kn A R C X) {g cap : Nat} (hown : w2.ownsRow (b + 1) 4 1 (.slice (some ⟨g, 0, none⟩) (ka + 1) cap) (ka + 1) (acells A ka ++ [.bool (A ka)])) (hg : w.grownBy w2 va.ownBlock) (hf : va.ownBlock = some g ∨ g = w.heap.size) :
    BuildMem W b (w2.setCell ⟨b, 0, none⟩ (.slice (some ⟨g, 0, none⟩) (ka + 1) cap)) (.slice (some ⟨g, 0, none⟩) (ka + 1) cap) vn (ka + 1) kn A R C X := by
  refine ⟨h.two.put0 hown hg hf, fun i hi => ownsRow_setCell_below ((h.rows i hi).kept hg (.inr (fun e => own_apart (h.rows i hi) h.two.own0 (by decide) _ rfl e.symm))) (by simp) _⟩
theorem BuildMem.grown (h : BuildMem W b w va vn ka kn A R C X) (hr : w.ownsRow (b + 1) 3 1 vr c x) (hd : ∀ i, i < kn → vr.ownBlock ≠ some (R i)) (hg : w.grownBy w2 vr.ownBlock) : BuildMem W b w2 va vn ka kn A R C X := by
  have hsz := heap_lt h.two.blk
  refine ⟨⟨h.two.blw.grown hg (by omega) (fun k e => by have := (hr.lt k e).1; omega), ?_, ?_, ?_, h.two.dis⟩, fun i hi => (h.rows i hi).kept hg (.inr (fun e => hd i hi e.symm))⟩
  · rw [hg.block b hsz (fun e => by have := (hr.lt b e.symm).1; omega)]; exact h.two.blk
  · refine h.two.own0.kept hg ?_
    cases hv : va.ownBlock with
    | none => exact .inl rfl
    | some k => exact .inr (fun e => own_apart h.two.own0 hr (by decide) k hv e.symm)
  · refine h.two.own1.kept hg ?_
    cases hv : vn.ownBlock with
    | none => exact .inl rfl
    | some k => exact .inr (fun e => own_apart h.two.own1 hr (by decide) k hv e.symm)
theorem BuildMem.nxt (h : BuildMem W b w va vn ka kn A R C X) {g cap gr cr : Nat} (hr : w.ownsRow (b + 1) 3 1 (.slice (some ⟨gr, 0, none⟩) 8 cr) 8 (icells (X kn) 8))
    (hown : w2.ownsRow (b + 1) 22 1 (.slice (some ⟨g, 0, none⟩) (kn + 1) cap) (kn + 1) (scells R C kn ++ [.slice (some ⟨gr, 0, none⟩) 8 cr])) (hg : w.grownBy w2 vn.ownBlock) (hf : vn.ownBlock = some g ∨ g = w.heap.size) :
    BuildMem W b (w2.setCell ⟨b, 1, none⟩ (.slice (some ⟨g, 0, none⟩) (kn + 1) cap)) va (.slice (some ⟨g, 0, none⟩) (kn + 1) cap) ka (kn + 1) A (fun i => if i = kn then gr else R i) (fun i => if i = kn then cr else C i) X := by
  have es : scells R C kn ++ [.slice (some ⟨gr, 0, none⟩) 8 cr] = scells (fun i => if i = kn then gr else R i) (fun i => if i = kn then cr else C i) (kn + 1) := by
    rw [scells_succ]
    congr 1
    · simp only [scells]; apply List.map_congr_left; intro i hi; have : i < kn := by simpa using hi
      rw [if_neg (by omega), if_neg (by omega)]
    · simp
  refine ⟨?_, fun i hi => ?_⟩
  · have := h.two.put1 hown hg hf
    rw [es] at this; exact this
  · by_cases e : i = kn
    · subst e
      simp only [if_true]
      exact ownsRow_setCell_below (hr.kept hg (.inr (fun e => own_apart hr h.two.own1 (by decide) _ rfl e.symm))) (by simp) _
    · simp only [if_neg e]
      have h1 := h.rows i (by omega)
      exact ownsRow_setCell_below (h1.kept hg (.inr (fun e => own_apart h1 h.two.own1 (by decide) _ rfl e.symm))) (by simp) _
theorem BuildMem.done (h : BuildMem W b w va vn kn kn A R C X) (hk : 0 < kn) {N : Tab} (hn : N.n = kn) (ha : ∀ i, i < kn → N.acc i = A i) (hx : ∀ i c, i < kn → c < 8 → N.nxt i c = X i c) :
    ∃ V : Lay, va = .slice (some ⟨V.ba, V.oa, none⟩) kn V.ca ∧ vn = .slice (some ⟨V.bn, V.on, none⟩) kn V.cn ∧ TabAt w V N ∧ V.From (b + 1) kn := by
  obtain ⟨aa, ca, rfl, haa⟩ := ownsRow_shape h.two.own0
  obtain ⟨an, cn, rfl, han⟩ := ownsRow_shape h.two.own1
  obtain ⟨ga, rfl, h1⟩ := haa hk
  obtain ⟨gn, rfl, h2⟩ := han hk
  refine ⟨⟨ga, 0, ca, gn, 0, cn, R, fun _ => 0, C⟩, rfl, rfl, ⟨fun i hi => ?_, fun i hi => ?_, fun i c hi hc => ?_⟩, ⟨(h.two.own0.lt ga rfl).1, (h.two.own1.lt gn rfl).1, fun i hi => ((h.rows i hi).lt (R i) rfl).1⟩⟩
  · have hi' : i < kn := by omega
    simp only [Nat.zero_add]
    rw [h1 i (by omega), acells_at _ _ _ hi', ha i hi']
  · have hi' : i < kn := by omega
    simp only [Nat.zero_add]
    rw [h2 i (by omega)]; simp [scells, hi']
  · have hi' : i < kn := by omega
    simp only [Nat.zero_add]
    rw [(h.rows i hi').cellAt c (by omega), hx i c hi' hc]; simp [icells, hc]
end
end Go.Proofs.Ytpngikmcjkjdaab

namespace Go.Proofs.Ytpngikmcjkjdaab
open Go.RowKit
set_option linter.unusedVariables false
def linkF (beh : Nat → Nat) (L F i : Nat) : Nat := if L.testBit i then beh i ||| F else beh i
theorem icells_set (X : Nat → Nat) (n i v : Nat) : (icells X n).set i (.int .i64 ((v : Nat) : Int)) = icells (fun j => if j = i then v else X j) n := by
  apply List.ext_getElem?
  intro j
  rw [List.getElem?_set]
  simp only [icells, List.length_map, List.length_range]
  by_cases hj : j < n
  · by_cases e : i = j
    · subst e; simp [hj]
    · simp [hj, e, Ne.symm e]
  · by_cases e : i = j
    · subst e; simp [hj]
    · simp [hj, e]
set_option maxRecDepth 20000 in
set_option maxHeartbeats 1600000 in
theorem link_ok (bm base gb n cap : Nat) (beh : Nat → Nat) (L F : Nat) (w : World) (hn : n ≤ 11) (hL : L < 2048) (hF : F < 2048) (hb : ∀ i, i < n → beh i < 2048) (h0 : w.cell? ⟨bm, 0, none⟩ = some (.slice (some ⟨gb, 0, none⟩) n cap)) (hne : bm ≠ gb)
    (ho : w.ownsRow base 3 1 (.slice (some ⟨gb, 0, none⟩) n cap) n (icells beh n)) :
    Calls Try.prog 89 #[.pointer (some ⟨bm, 0, none⟩), .int .i64 L, .int .i64 F] w fun e w' => e = .returned (.tuple #[]) ∧ Touch (fun b => b = gb) w w' ∧ w'.ownsRow base 3 1 (.slice (some ⟨gb, 0, none⟩) n cap) n (icells (linkF beh L F) n) := by
  go_enter Try.func89, Try.ntmps89
  go_wp2_with fail
  go_loopw [6] (fun i' wr => ∃ i : Nat, i ≤ n ∧ i' = .int .i64 i ∧ Touch (fun b => b = gb) w wr ∧ wr.ownsRow base 3 1 (.slice (some ⟨gb, 0, none⟩) n cap) n (icells (fun j => if j < i then linkF beh L F j else beh j) n)) (fun i' _ => n - (intOf i').toNat)
  case atStart => exact ⟨0, by omega, rfl, Touch.refl _ _, by simpa using ho⟩
  case round =>
    obtain ⟨i, hi, rfl, ht, hw⟩ := hrel
    have x0 : wr.cell? ⟨bm, 0, none⟩ = some (.slice (some ⟨gb, 0, none⟩) n cap) := (World.cell?_of_block (a := ⟨bm, 0, none⟩) (ht.block bm (lt_of_cell h0) (fun e => hne e))).trans h0
    by_cases hlt : i < n
    · have c0 := (hw.cellAt i (by omega)).trans (show (icells (fun j => if j < i then linkF beh L F j else beh j) n)[i]? = some (.int .i64 ((beh i : Nat) : Int)) by simp [icells, hlt])
      have c1 := hw.frozenAt i
      have hpw := wrap64_pow i (by omega)
      have h2 : 2 ^ i ≤ 2 ^ 11 := Nat.pow_le_pow_right (by omega) (by omega)
      have ha := bits_and_i64 L (2 ^ i) (by omega) (by omega)
      have hor := bits_or_i64 (beh i) F (hb i hlt) hF
      have HS : Hid (linkF beh L F i = if L.testBit i then beh i ||| F else beh i) := rfl
      have hbit := and_pow L i
      obtain ⟨an, HAN⟩ : ∃ x, Hid (L &&& 2 ^ i = x) := ⟨_, rfl⟩
      obtain ⟨on, HON⟩ : ∃ x, Hid (beh i ||| F = x) := ⟨_, rfl⟩
      obtain ⟨tb, HTB⟩ : ∃ x, Hid (L.testBit i = x) := ⟨_, rfl⟩
      rw [HAN.out] at ha hbit
      rw [HON.out] at hor HS
      rw [HTB.out] at HS hbit
      rw [← hpw] at ha
      have hb1 : ((an : Int) != 0) = tb := by
        rw [← hbit, Bool.eq_iff_iff]
        simp
      have HW : Hid (wr.ownsRow base 3 1 (.slice (some ⟨gb, 0, none⟩) n cap) n (icells (fun j => if j < i then linkF beh L F j else beh j) n)) := hw
      have HT : Hid (Touch (fun b => b = gb) w wr) := ht
      clear hbit hpw h2 hw ht
      cases tb
      · go_wp2_with fail
        go_roundw
        case rel =>
          refine ⟨i + 1, by omega, by go_num, HT.out, ?_⟩
          have h := HW.out
          have e : icells (fun j => if j < i then linkF beh L F j else beh j) n = icells (fun j => if j < i + 1 then linkF beh L F j else beh j) n := by
            simp only [icells]; apply List.map_congr_left; intro j hj
            by_cases e : j = i
            · subst e
              simp only [Nat.lt_irrefl, if_false, Nat.lt_succ_self, if_true]
              rw [HS.out]; rfl
            · by_cases h' : j < i
              · rw [if_pos h', if_pos (by omega)]
              · rw [if_neg h', if_neg (by omega)]
          rw [e] at h
          exact h
        case measure => simp [intOf]; omega
      · go_wp2_with fail
        go_roundw
        case rel =>
          refine ⟨i + 1, by omega, by go_num, HT.out.set _ _ (.inl rfl), ?_⟩
          have h := (HW.out.stored i (.int .i64 ((on : Nat) : Int))).1
          rw [icells_set] at h
          have e : icells (fun j => if j = i then on else if j < i then linkF beh L F j else beh j) n = icells (fun j => if j < i + 1 then linkF beh L F j else beh j) n := by
            simp only [icells]; apply List.map_congr_left; intro j hj
            by_cases e : j = i
            · subst e
              simp only [Nat.lt_succ_self, if_true]
              rw [HS.out]; rfl
            · by_cases h' : j < i
              · rw [if_neg e, if_pos h', if_pos (by omega)]
              · rw [if_neg e, if_neg h', if_neg (by omega)]
          rw [e] at h
          exact h
        case measure => simp [intOf]; omega
    · have he : i = n := by omega
      subst he
      have HW : Hid (wr.ownsRow base 3 1 (.slice (some ⟨gb, 0, none⟩) i cap) i (icells (linkF beh L F) i)) := by
        have e : icells (fun j => if j < i then linkF beh L F j else beh j) i = icells (linkF beh L F) i := by
          simp only [icells]; apply List.map_congr_left; intro j hj
          rw [if_pos (by simpa using hj)]
        rw [e] at hw
        exact hw
      have HT : Hid (Touch (fun b => b = gb) w wr) := ht
      clear hw ht
      go_wp2_with fail
      go_end0
      exact ⟨rfl, HT.out, HW.out⟩
end Go.Proofs.Ytpngikmcjkjdaab
