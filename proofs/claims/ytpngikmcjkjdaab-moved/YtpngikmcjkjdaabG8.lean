import Derived.Test.YtpngikmcjkjdaabG1
import Derived.Test.YtpngikmcjkjdaabG3
import Derived.Test.YtpngikmcjkjdaabG5
set_option linter.unusedVariables false
set_option linter.unusedSimpArgs false
namespace Go.Proofs.Ytpngikmcjkjdaab
set_option linter.unusedVariables false
inductive Pat where
  | none : Pat
  | one (S : Nat → Bool) : Pat
  | chain (a b : Pat) : Pat
  | alt (a b : Pat) : Pat
  | rep (a : Pat) (least copies : Nat) (endless : Bool) : Pat
inductive Star (l : List Nat → Prop) : List Nat → Prop where
  | nil : Star l []
  | cons {u v : List Nat} (hu : l u) (hv : Star l v) : Star l (u ++ v)
def Cat (l l' : List Nat → Prop) (x : List Nat) : Prop := ∃ u v, x = u ++ v ∧ l u ∧ l' v
def Copy (l : List Nat → Prop) (least i : Nat) (endless : Bool) (x : List Nat) : Prop :=
  if i < least then l x else if endless then Star l x else x = [] ∨ l x
def Copies (l : List Nat → Prop) (least : Nat) (endless : Bool) : Nat → List Nat → Prop
  | 0 => fun x => x = []
  | k + 1 => Cat (Copies l least endless k) (Copy l least k endless)
def Pat.lang : Pat → List Nat → Prop
  | .none => fun x => x = []
  | .one S => fun x => ∃ c, x = [c] ∧ S c = true
  | .chain a b => Cat a.lang b.lang
  | .alt a b => fun x => a.lang x ∨ b.lang x
  | .rep a least copies endless => Copies a.lang least endless copies
inductive Way (B rd : Nat → Nat → Prop) (L : Nat → Prop) : Nat → List Nat → Prop where
  | last {p c : Nat} (hr : rd p c) (hl : L p) : Way B rd L p [c]
  | step {p q c : Nat} {x : List Nat} (hr : rd p c) (hb : B p q) (hx : Way B rd L q x) : Way B rd L p (c :: x)
theorem Way.ne_nil {B rd : Nat → Nat → Prop} {L : Nat → Prop} {p : Nat} {x : List Nat} (h : Way B rd L p x) : x ≠ [] := by cases h <;> simp
theorem Way.mono {B B' rd : Nat → Nat → Prop} {L L' : Nat → Prop} (hB : ∀ p q, B p q → B' p q) (hL : ∀ p, L p → L' p) {p : Nat} {x : List Nat} (h : Way B rd L p x) : Way B' rd L' p x := by
  induction h with
  | last hr hl => exact .last hr (hL _ hl)
  | step hr hb _ ih => exact .step hr (hB _ _ hb) ih
structure Str (rd : Nat → Nat → Prop) where
  lo : Nat
  hi : Nat
  e : Prop
  F : Nat → Prop
  L : Nat → Prop
  B : Nat → Nat → Prop
structure Str.In {rd : Nat → Nat → Prop} (s : Str rd) : Prop where
  le : s.lo ≤ s.hi
  fi : ∀ p, s.F p → s.lo ≤ p ∧ p < s.hi
  la : ∀ p, s.L p → s.lo ≤ p ∧ p < s.hi
  be : ∀ p q, s.B p q → (s.lo ≤ p ∧ p < s.hi) ∧ (s.lo ≤ q ∧ q < s.hi)
def Str.acc {rd : Nat → Nat → Prop} (s : Str rd) (x : List Nat) : Prop := (x = [] ∧ s.e) ∨ ∃ p, s.F p ∧ Way s.B rd s.L p x
def Str.chain {rd : Nat → Nat → Prop} (s t : Str rd) : Str rd where
  lo := s.lo
  hi := t.hi
  e := s.e ∧ t.e
  F p := s.F p ∨ (s.e ∧ t.F p)
  L p := t.L p ∨ (t.e ∧ s.L p)
  B p q := s.B p q ∨ t.B p q ∨ (s.L p ∧ t.F q)
def Str.alt {rd : Nat → Nat → Prop} (s t : Str rd) : Str rd where
  lo := s.lo
  hi := t.hi
  e := s.e ∨ t.e
  F p := s.F p ∨ t.F p
  L p := s.L p ∨ t.L p
  B p q := s.B p q ∨ t.B p q
def Str.free {rd : Nat → Nat → Prop} (s : Str rd) (endless : Prop) : Str rd where
  lo := s.lo
  hi := s.hi
  e := True
  F := s.F
  L := s.L
  B p q := s.B p q ∨ (endless ∧ s.L p ∧ s.F q)
section
variable {rd : Nat → Nat → Prop} {s t : Str rd}
theorem Str.In.chain (hs : s.In) (ht : t.In) (h : s.hi = t.lo) : (s.chain t).In := by
  have h1 := hs.le
  have h2 := ht.le
  refine ⟨by show s.lo ≤ t.hi; omega, ?_, ?_, ?_⟩
  · rintro p (hp | ⟨_, hp⟩)
    · have := hs.fi p hp; exact ⟨this.1, by show p < t.hi; omega⟩
    · have := ht.fi p hp; exact ⟨by show s.lo ≤ p; omega, this.2⟩
  · rintro p (hp | ⟨_, hp⟩)
    · have := ht.la p hp; exact ⟨by show s.lo ≤ p; omega, this.2⟩
    · have := hs.la p hp; exact ⟨this.1, by show p < t.hi; omega⟩
  · rintro p q (hp | hp | ⟨hp, hq⟩)
    · have := hs.be p q hp; exact ⟨⟨this.1.1, by show p < t.hi; omega⟩, this.2.1, by show q < t.hi; omega⟩
    · have := ht.be p q hp; exact ⟨⟨by show s.lo ≤ p; omega, this.1.2⟩, by show s.lo ≤ q; omega, this.2.2⟩
    · have h3 := hs.la p hp; have h4 := ht.fi q hq
      exact ⟨⟨h3.1, by show p < t.hi; omega⟩, by show s.lo ≤ q; omega, h4.2⟩
theorem Str.In.alt (hs : s.In) (ht : t.In) (h : s.hi = t.lo) : (s.alt t).In := by
  have h1 := hs.le
  have h2 := ht.le
  refine ⟨by show s.lo ≤ t.hi; omega, ?_, ?_, ?_⟩
  · rintro p (hp | hp)
    · have := hs.fi p hp; exact ⟨this.1, by show p < t.hi; omega⟩
    · have := ht.fi p hp; exact ⟨by show s.lo ≤ p; omega, this.2⟩
  · rintro p (hp | hp)
    · have := hs.la p hp; exact ⟨this.1, by show p < t.hi; omega⟩
    · have := ht.la p hp; exact ⟨by show s.lo ≤ p; omega, this.2⟩
  · rintro p q (hp | hp)
    · have := hs.be p q hp; exact ⟨⟨this.1.1, by show p < t.hi; omega⟩, this.2.1, by show q < t.hi; omega⟩
    · have := ht.be p q hp; exact ⟨⟨by show s.lo ≤ p; omega, this.1.2⟩, by show s.lo ≤ q; omega, this.2.2⟩
theorem Str.In.free (hs : s.In) (en : Prop) : (s.free en).In :=
  ⟨hs.le, hs.fi, hs.la, fun p q h => by
    rcases h with h | ⟨_, h1, h2⟩
    · exact hs.be p q h
    · exact ⟨hs.la p h1, hs.fi q h2⟩⟩
theorem chain_right (hs : s.In) (ht : t.In) (h : s.hi = t.lo) {p : Nat} {x : List Nat} (hp : t.lo ≤ p) : Way (s.chain t).B rd (s.chain t).L p x ↔ Way t.B rd t.L p x := by
  constructor
  · intro hw
    induction hw with
    | last hr hl =>
      rcases hl with hl | ⟨_, hl⟩
      · exact .last hr hl
      · have := hs.la _ hl; omega
    | step hr hb _ ih =>
      rcases hb with hb | hb | ⟨hb, _⟩
      · have := (hs.be _ _ hb).1; omega
      · exact .step hr hb (ih (ht.be _ _ hb).2.1)
      · have := hs.la _ hb; omega
  · exact Way.mono (fun p q h => .inr (.inl h)) (fun p h => .inl h)
theorem chain_left (hs : s.In) (ht : t.In) (h : s.hi = t.lo) {p : Nat} {x : List Nat} (hp : p < s.hi) (hw : Way (s.chain t).B rd (s.chain t).L p x) : ∃ u v, x = u ++ v ∧ Way s.B rd s.L p u ∧ t.acc v := by
  induction hw with
  | last hr hl =>
    rcases hl with hl | ⟨he, hl⟩
    · have := ht.la _ hl; omega
    · exact ⟨_, [], by simp, .last hr hl, .inl ⟨rfl, he⟩⟩
  | step hr hb hx ih =>
    rcases hb with hb | hb | ⟨hb, hq⟩
    · obtain ⟨u, v, rfl, h1, h2⟩ := ih (hs.be _ _ hb).2.2
      exact ⟨_ :: u, v, rfl, .step hr hb h1, h2⟩
    · have := (ht.be _ _ hb).1; omega
    · exact ⟨[_], _, rfl, .last hr hb, .inr ⟨_, hq, (chain_right hs ht h (ht.fi _ hq).1).1 hx⟩⟩
theorem chain_join (hs : s.In) (ht : t.In) (h : s.hi = t.lo) {p : Nat} {u v : List Nat} (hu : Way s.B rd s.L p u) (hv : t.acc v) : Way (s.chain t).B rd (s.chain t).L p (u ++ v) := by
  rcases hv with ⟨rfl, he⟩ | ⟨q, hq, hv⟩
  · rw [List.append_nil]
    exact hu.mono (fun p q h => .inl h) (fun p hl => .inr ⟨he, hl⟩)
  · have hv' := (chain_right hs ht h (ht.fi _ hq).1).2 hv
    induction hu with
    | last hr hl => exact .step hr (.inr (.inr ⟨hl, hq⟩)) hv'
    | step hr hb _ ih => exact .step hr (.inl hb) ih
theorem chain_acc (hs : s.In) (ht : t.In) (h : s.hi = t.lo) (x : List Nat) : (s.chain t).acc x ↔ Cat s.acc t.acc x := by
  constructor
  · rintro (⟨rfl, h1, h2⟩ | ⟨p, hp | ⟨he, hp⟩, hw⟩)
    · exact ⟨[], [], rfl, .inl ⟨rfl, h1⟩, .inl ⟨rfl, h2⟩⟩
    · obtain ⟨u, v, rfl, h1, h2⟩ := chain_left hs ht h (hs.fi p hp).2 hw
      exact ⟨u, v, rfl, .inr ⟨p, hp, h1⟩, h2⟩
    · exact ⟨[], x, rfl, .inl ⟨rfl, he⟩, .inr ⟨p, hp, (chain_right hs ht h (ht.fi p hp).1).1 hw⟩⟩
  · rintro ⟨u, v, rfl, ⟨rfl, he⟩ | ⟨p, hp, hu⟩, hv⟩
    · rcases hv with ⟨rfl, he'⟩ | ⟨q, hq, hv⟩
      · exact .inl ⟨rfl, he, he'⟩
      · exact .inr ⟨q, .inr ⟨he, hq⟩, by simpa using (chain_right hs ht h (ht.fi q hq).1).2 hv⟩
    · exact .inr ⟨p, .inl hp, chain_join hs ht h hu hv⟩
theorem alt_acc (hs : s.In) (ht : t.In) (h : s.hi = t.lo) (x : List Nat) : (s.alt t).acc x ↔ s.acc x ∨ t.acc x := by
  have left : ∀ p x, p < s.hi → Way (s.alt t).B rd (s.alt t).L p x → Way s.B rd s.L p x := by
    intro p x hp hw
    induction hw with
    | last hr hl =>
      rcases hl with hl | hl
      · exact .last hr hl
      · have := ht.la _ hl; omega
    | step hr hb _ ih =>
      rcases hb with hb | hb
      · exact .step hr hb (ih (hs.be _ _ hb).2.2)
      · have := (ht.be _ _ hb).1; omega
  have right : ∀ p x, t.lo ≤ p → Way (s.alt t).B rd (s.alt t).L p x → Way t.B rd t.L p x := by
    intro p x hp hw
    induction hw with
    | last hr hl =>
      rcases hl with hl | hl
      · have := hs.la _ hl; omega
      · exact .last hr hl
    | step hr hb _ ih =>
      rcases hb with hb | hb
      · have := (hs.be _ _ hb).1; omega
      · exact .step hr hb (ih (ht.be _ _ hb).2.1)
  constructor
  · rintro (⟨rfl, h1 | h1⟩ | ⟨p, hp | hp, hw⟩)
    · exact .inl (.inl ⟨rfl, h1⟩)
    · exact .inr (.inl ⟨rfl, h1⟩)
    · exact .inl (.inr ⟨p, hp, left p x (hs.fi p hp).2 hw⟩)
    · exact .inr (.inr ⟨p, hp, right p x (ht.fi p hp).1 hw⟩)
  · rintro ((⟨rfl, h1⟩ | ⟨p, hp, hw⟩) | (⟨rfl, h1⟩ | ⟨p, hp, hw⟩))
    · exact .inl ⟨rfl, .inl h1⟩
    · exact .inr ⟨p, .inl hp, hw.mono (fun _ _ h => .inl h) (fun _ h => .inl h)⟩
    · exact .inl ⟨rfl, .inr h1⟩
    · exact .inr ⟨p, .inr hp, hw.mono (fun _ _ h => .inr h) (fun _ h => .inr h)⟩
theorem free_split {en : Prop} {p : Nat} {x : List Nat} (hw : Way (s.free en).B rd (s.free en).L p x) : ∃ u v, x = u ++ v ∧ Way s.B rd s.L p u ∧ (v = [] ∨ (en ∧ ∃ q, s.F q ∧ Way (s.free en).B rd (s.free en).L q v)) := by
  induction hw with
  | last hr hl => exact ⟨_, [], by simp, .last hr hl, .inl rfl⟩
  | step hr hb hx ih =>
    rcases hb with hb | ⟨he, hl, hq⟩
    · obtain ⟨u, v, rfl, h1, h2⟩ := ih
      exact ⟨_ :: u, v, rfl, .step hr hb h1, h2⟩
    · exact ⟨[_], _, rfl, .last hr hl, .inr ⟨he, _, hq, hx⟩⟩
theorem free_join {en : Prop} (he : en) {p q : Nat} {u v : List Nat} (hu : Way s.B rd s.L p u) (hq : s.F q) (hv : Way (s.free en).B rd (s.free en).L q v) : Way (s.free en).B rd (s.free en).L p (u ++ v) := by
  induction hu with
  | last hr hl => exact .step hr (.inr ⟨he, hl, hq⟩) hv
  | step hr hb _ ih => exact .step hr (.inl hb) ih
theorem opt_acc (x : List Nat) : (s.free False).acc x ↔ x = [] ∨ s.acc x := by
  constructor
  · rintro (⟨rfl, _⟩ | ⟨p, hp, hw⟩)
    · exact .inl rfl
    · obtain ⟨u, v, rfl, h1, rfl | ⟨h2, _⟩⟩ := free_split hw
      · rw [List.append_nil]; exact .inr (.inr ⟨p, hp, h1⟩)
      · exact h2.elim
  · rintro (rfl | ⟨rfl, _⟩ | ⟨p, hp, hw⟩)
    · exact .inl ⟨rfl, trivial⟩
    · exact .inl ⟨rfl, trivial⟩
    · exact .inr ⟨p, hp, hw.mono (fun _ _ h => .inl h) (fun _ h => h)⟩
theorem star_acc (x : List Nat) : (s.free True).acc x ↔ Star s.acc x := by
  constructor
  · rintro (⟨rfl, _⟩ | ⟨p, hp, hw⟩)
    · exact .nil
    · have key : ∀ n x p, x.length ≤ n → s.F p → Way (s.free True).B rd (s.free True).L p x → Star s.acc x := by
        intro n
        induction n with
        | zero =>
          intro x p hx _ hw
          exact absurd (List.length_eq_zero_iff.1 (by omega)) hw.ne_nil
        | succ n ih =>
          intro x p hx hp hw
          obtain ⟨u, v, rfl, h1, rfl | ⟨_, q, hq, h2⟩⟩ := free_split hw
          · exact .cons (.inr ⟨p, hp, h1⟩) .nil
          · have hl : 1 ≤ u.length := by cases u with
              | nil => exact absurd rfl h1.ne_nil
              | cons _ _ => simp
            exact .cons (.inr ⟨p, hp, h1⟩) (ih v q (by rw [List.length_append] at hx; omega) hq h2)
      exact key _ x p (Nat.le_refl _) hp hw
  · intro h
    induction h with
    | nil => exact .inl ⟨rfl, trivial⟩
    | cons hu _ ih =>
      rcases hu with ⟨rfl, _⟩ | ⟨p, hp, hu⟩
      · simpa using ih
      · rcases ih with ⟨rfl, _⟩ | ⟨q, hq, hv⟩
        · rw [List.append_nil]; exact .inr ⟨p, hp, hu.mono (fun _ _ h => .inl h) (fun _ h => h)⟩
        · exact .inr ⟨p, hp, free_join trivial hu hq hv⟩
end
def Str.nothing (rd : Nat → Nat → Prop) (lo : Nat) : Str rd := ⟨lo, lo, True, fun _ => False, fun _ => False, fun _ _ => False⟩
theorem nothing_acc (rd : Nat → Nat → Prop) (lo : Nat) (x : List Nat) : (Str.nothing rd lo).acc x ↔ x = [] := by
  constructor
  · rintro (⟨rfl, _⟩ | ⟨_, h, _⟩)
    · rfl
    · exact h.elim
  · rintro rfl; exact .inl ⟨rfl, trivial⟩
def Str.spot (rd : Nat → Nat → Prop) (lo : Nat) : Str rd := ⟨lo, lo + 1, False, fun p => p = lo, fun p => p = lo, fun _ _ => False⟩
theorem spot_acc {rd : Nat → Nat → Prop} {lo : Nat} {S : Nat → Bool} (h : ∀ c, rd lo c ↔ S c = true) (x : List Nat) : (Str.spot rd lo).acc x ↔ (Pat.one S).lang x := by
  constructor
  · rintro (⟨_, h'⟩ | ⟨p, hp, hw⟩)
    · exact h'.elim
    · have hp' : p = lo := hp
      subst hp'
      cases hw with
      | last hr _ => exact ⟨_, rfl, (h _).1 hr⟩
      | step _ hb _ => exact hb.elim
  · rintro ⟨c, rfl, hc⟩
    exact .inr ⟨lo, rfl, .last ((h c).2 hc) rfl⟩
theorem Cat.congr {l l' m m' : List Nat → Prop} (h : ∀ x, l x ↔ l' x) (h' : ∀ x, m x ↔ m' x) (x : List Nat) : Cat l m x ↔ Cat l' m' x :=
  ⟨fun ⟨u, v, e, a, b⟩ => ⟨u, v, e, (h u).1 a, (h' v).1 b⟩, fun ⟨u, v, e, a, b⟩ => ⟨u, v, e, (h u).2 a, (h' v).2 b⟩⟩
theorem Star.congr {l l' : List Nat → Prop} (h : ∀ x, l x ↔ l' x) (x : List Nat) : Star l x ↔ Star l' x :=
  ⟨fun hs => by induction hs with
    | nil => exact .nil
    | cons hu _ ih => exact .cons ((h _).1 hu) ih, fun hs => by induction hs with
    | nil => exact .nil
    | cons hu _ ih => exact .cons ((h _).2 hu) ih⟩
def Pat.size : Pat → Nat
  | .none => 0
  | .one _ => 1
  | .chain a b => a.size + b.size
  | .alt a b => a.size + b.size
  | .rep a _ copies _ => a.size * copies
theorem star_nil {l : List Nat → Prop} (h : ∀ x, l x ↔ x = []) (x : List Nat) : Star l x ↔ x = [] := by
  constructor
  · intro hs
    induction hs with
    | nil => rfl
    | cons hu _ ih => rw [(h _).1 hu, ih]; rfl
  · rintro rfl; exact .nil
theorem copies_nil {l : List Nat → Prop} (h : ∀ x, l x ↔ x = []) (least : Nat) (endless : Bool) (k : Nat) (x : List Nat) : Copies l least endless k x ↔ x = [] := by
  induction k generalizing x with
  | zero => exact Iff.rfl
  | succ k ih =>
    have hc : ∀ x, Copy l least k endless x ↔ x = [] := by
      intro x
      unfold Copy
      by_cases h1 : k < least
      · rw [if_pos h1]; exact h x
      · rw [if_neg h1]
        cases endless
        · rw [if_neg (by simp), h x]; simp
        · rw [if_pos rfl]; exact star_nil h x
    constructor
    · rintro ⟨u, v, rfl, hu, hv⟩
      rw [(ih u).1 hu, (hc v).1 hv]; rfl
    · rintro rfl
      exact ⟨[], [], rfl, (ih []).2 rfl, (hc []).2 rfl⟩
theorem size_zero (a : Pat) (h : a.size = 0) (x : List Nat) : a.lang x ↔ x = [] := by
  induction a generalizing x with
  | none => exact Iff.rfl
  | one S => simp [Pat.size] at h
  | chain a b iha ihb =>
    have h' : a.size + b.size = 0 := h
    constructor
    · rintro ⟨u, v, rfl, hu, hv⟩
      rw [(iha (by omega) u).1 hu, (ihb (by omega) v).1 hv]; rfl
    · rintro rfl
      exact ⟨[], [], rfl, (iha (by omega) []).2 rfl, (ihb (by omega) []).2 rfl⟩
  | alt a b iha ihb =>
    have h' : a.size + b.size = 0 := h
    show a.lang x ∨ b.lang x ↔ _
    rw [iha (by omega) x, ihb (by omega) x]; simp
  | rep a least copies endless iha =>
    have h' : a.size * copies = 0 := h
    rcases Nat.mul_eq_zero.1 h' with h0 | h0
    · exact copies_nil (iha h0) least endless copies x
    · subst h0; exact Iff.rfl
def stepS (B rd : Nat → Nat → Prop) (S : Nat → Prop) (c : Nat) : Nat → Prop := fun q => rd q c ∧ ∃ p, S p ∧ B p q
theorem steps_way {B rd : Nat → Nat → Prop} {L : Nat → Prop} (x : List Nat) (c : Nat) (S : Nat → Prop) : (∃ p, ((c :: x).foldl (stepS B rd) S) p ∧ L p) ↔ ∃ p q, S p ∧ B p q ∧ Way B rd L q (c :: x) := by
  induction x generalizing c S with
  | nil =>
    constructor
    · rintro ⟨q, ⟨hr, p, hp, hb⟩, hl⟩
      exact ⟨p, q, hp, hb, .last hr hl⟩
    · rintro ⟨p, q, hp, hb, hw⟩
      cases hw with
      | last hr hl => exact ⟨q, ⟨hr, p, hp, hb⟩, hl⟩
      | step _ _ hx => exact absurd rfl hx.ne_nil
  | cons d y ih =>
    rw [List.foldl_cons, ih d (stepS B rd S c)]
    constructor
    · rintro ⟨p, q, ⟨hr, p0, hp0, hb0⟩, hb, hw⟩
      exact ⟨p0, p, hp0, hb0, .step hr hb hw⟩
    · rintro ⟨p0, p, hp0, hb0, hw⟩
      cases hw with
      | step hr hb hx => exact ⟨p, _, ⟨hr, p0, hp0, hb0⟩, hb, hx⟩
theorem ahead_acc {rd : Nat → Nat → Prop} {s : Str rd} {B : Nat → Nat → Prop} {L : Nat → Prop} {a : Nat} (hs : s.In) (ha : a < s.lo) (hB : ∀ p q, B p q ↔ (p = a ∧ s.F q) ∨ s.B p q) (hL : ∀ p, L p ↔ (p = a ∧ s.e) ∨ s.L p) (x : List Nat) :
    (∃ p, (x.foldl (stepS B rd) (fun p => p = a)) p ∧ L p) ↔ s.acc x := by
  have hw : ∀ q y, s.lo ≤ q → (Way B rd L q y ↔ Way s.B rd s.L q y) := by
    intro q y hq
    constructor
    · intro h
      induction h with
      | last hr hl =>
        rcases (hL _).1 hl with ⟨h, _⟩ | h
        · omega
        · exact .last hr h
      | step hr hb _ ih =>
        rcases (hB _ _).1 hb with ⟨h, _⟩ | h
        · omega
        · exact .step hr h (ih (hs.be _ _ h).2.1)
    · exact Way.mono (fun p q h => (hB p q).2 (.inr h)) (fun p h => (hL p).2 (.inr h))
  cases x with
  | nil =>
    constructor
    · rintro ⟨p, hp, hl⟩
      have hp' : p = a := hp
      subst hp'
      rcases (hL p).1 hl with ⟨_, he⟩ | h
      · exact .inl ⟨rfl, he⟩
      · have := hs.la _ h; omega
    · rintro (⟨_, he⟩ | ⟨p, _, hw'⟩)
      · exact ⟨a, rfl, (hL a).2 (.inl ⟨rfl, he⟩)⟩
      · exact absurd rfl hw'.ne_nil
  | cons c x =>
    rw [steps_way]
    constructor
    · rintro ⟨p, q, rfl, hb, hw'⟩
      rcases (hB p q).1 hb with ⟨_, hq⟩ | h
      · exact .inr ⟨q, hq, (hw q _ (hs.fi q hq).1).1 hw'⟩
      · have := (hs.be _ _ h).1; omega
    · rintro (⟨h, _⟩ | ⟨q, hq, hw'⟩)
      · simp at h
      · exact ⟨a, q, rfl, (hB a q).2 (.inl ⟨rfl, hq⟩), (hw q _ (hs.fi q hq).1).2 hw'⟩
end Go.Proofs.Ytpngikmcjkjdaab

namespace Go.Proofs.Ytpngikmcjkjdaab
open Go.RowKit
set_option linter.unusedVariables false
theorem bits_and_i64 (a b : Nat) (ha : a < 9223372036854775808) (hb : b < 9223372036854775808) : bits BinOp.and IntKind.i64 (a : Int) (b : Int) = ((a &&& b : Nat) : Int) := by
  have h : (BitVec.ofInt 64 (a : Int) &&& BitVec.ofInt 64 (b : Int)).toNat = a &&& b := by
    simp only [BitVec.toNat_and, BitVec.ofInt_natCast, BitVec.toNat_ofNat]
    rw [Nat.mod_eq_of_lt (by omega), Nat.mod_eq_of_lt (by omega)]
  have hl : a &&& b ≤ a := Nat.and_le_left
  show IntKind.i64.wrap ((BitVec.ofInt 64 (a : Int) &&& BitVec.ofInt 64 (b : Int)).toNat : Int) = _
  rw [h, IntKind.wrap_i64]
  omega
theorem bits_or_i64 (a b : Nat) (ha : a < 2048) (hb : b < 2048) : bits BinOp.or IntKind.i64 (a : Int) (b : Int) = ((a ||| b : Nat) : Int) := by
  have h : (BitVec.ofInt 64 (a : Int) ||| BitVec.ofInt 64 (b : Int)).toNat = a ||| b := by
    simp only [BitVec.toNat_or, BitVec.ofInt_natCast, BitVec.toNat_ofNat]
    rw [Nat.mod_eq_of_lt (by omega), Nat.mod_eq_of_lt (by omega)]
  have hl : a ||| b < 2 ^ 11 := Nat.or_lt_two_pow (by omega) (by omega)
  show IntKind.i64.wrap ((BitVec.ofInt 64 (a : Int) ||| BitVec.ofInt 64 (b : Int)).toNat : Int) = _
  rw [h, IntKind.wrap_i64]
  omega
theorem wrap64_pow (i : Nat) (h : i ≤ 11) : wrap64 (2 ^ i) = ((2 ^ i : Nat) : Int) := by
  have h1 : 2 ^ i ≤ 2 ^ 11 := Nat.pow_le_pow_right (by omega) h
  have h2 : ((2 : Int) ^ i) = ((2 ^ i : Nat) : Int) := by simp
  rw [h2]
  generalize (2 ^ i : Nat) = m at h1 ⊢
  unfold wrap64
  omega
theorem and_pow (S i : Nat) : (S &&& 2 ^ i != 0) = S.testBit i := by
  have e : S &&& 2 ^ i = if S.testBit i then 2 ^ i else 0 := by
    apply Nat.eq_of_testBit_eq
    intro j
    rw [Nat.testBit_and, Nat.testBit_two_pow]
    by_cases h : i = j
    · subst h
      cases hb : S.testBit i
      · simp
      · simp
    · cases hb : S.testBit i
      · simp [h]
      · simp [h]
  rw [e]
  cases hb : S.testBit i
  · simp
  · simp
def folF (beh : Nat → Nat) (S : Nat) : Nat → Nat
  | 0 => 0
  | i + 1 => if S.testBit i then folF beh S i ||| beh i else folF beh S i
theorem folF_lt {beh : Nat → Nat} {S n : Nat} (h : ∀ i, i < n → beh i < 2048) : folF beh S n < 2048 := by
  induction n with
  | zero => simp [folF]
  | succ n ih =>
    have h1 := ih (fun i hi => h i (by omega))
    simp only [folF]
    split
    · exact Nat.or_lt_two_pow (n := 11) h1 (h n (by omega))
    · exact h1
theorem folF_bit {beh : Nat → Nat} {S n q : Nat} : (folF beh S n).testBit q = true ↔ ∃ p, p < n ∧ S.testBit p = true ∧ (beh p).testBit q = true := by
  induction n with
  | zero => simp [folF]
  | succ n ih =>
    simp only [folF]
    by_cases h : S.testBit n = true
    · rw [if_pos h, Nat.testBit_or, Bool.or_eq_true, ih]
      constructor
      · rintro (⟨p, h1, h2, h3⟩ | h1)
        · exact ⟨p, by omega, h2, h3⟩
        · exact ⟨n, by omega, h, h1⟩
      · rintro ⟨p, h1, h2, h3⟩
        by_cases e : p = n
        · subst e; exact .inr h3
        · exact .inl ⟨p, by omega, h2, h3⟩
    · rw [if_neg h, ih]
      constructor
      · rintro ⟨p, h1, h2, h3⟩; exact ⟨p, by omega, h2, h3⟩
      · rintro ⟨p, h1, h2, h3⟩
        by_cases e : p = n
        · subst e; exact absurd h2 h
        · exact ⟨p, by omega, h2, h3⟩
set_option maxRecDepth 20000 in
set_option maxHeartbeats 1600000 in
theorem follow_ok (bm gb n cap : Nat) (beh : Nat → Nat) (S : Nat) (w : World) (hn : n ≤ 11) (hS : S < 2048) (hb : ∀ i, i < n → beh i < 2048) (h0 : w.cell? ⟨bm, 0, none⟩ = some (.slice (some ⟨gb, 0, none⟩) n cap)) (hc : NatsAt w gb n beh) :
    Calls Try.prog 90 #[.pointer (some ⟨bm, 0, none⟩), .int .i64 S] w fun e w' => e = .returned (.int .i64 ((folF beh S n : Nat) : Int)) ∧ w = w' := by
  go_enter Try.func90, Try.ntmps90
  go_wp2_with fail
  go_loop [5, 6] (fun v i' => ∃ i : Nat, i ≤ n ∧ i' = .int .i64 i ∧ v = .int .i64 ((folF beh S i : Nat) : Int)) (fun _ i' => n - (intOf i').toNat)
  case atStart => exact ⟨0, by omega, rfl, rfl⟩
  case round =>
    obtain ⟨i, hi, rfl, rfl⟩ := hrel
    by_cases hlt : i < n
    · have c0 := hc i hlt
      have hw := wrap64_pow i (by omega)
      have h2 : 2 ^ i ≤ 2 ^ 11 := Nat.pow_le_pow_right (by omega) (by omega)
      have ha := bits_and_i64 S (2 ^ i) (by omega) (by omega)
      have hfl := folF_lt (beh := beh) (S := S) (n := i) (fun j hj => hb j (by omega))
      have ho := bits_or_i64 (folF beh S i) (beh i) hfl (hb i hlt)
      have HS : Hid (folF beh S (i + 1) = if S.testBit i then folF beh S i ||| beh i else folF beh S i) := rfl
      have hbit := and_pow S i
      obtain ⟨an, HAN⟩ : ∃ x, Hid (S &&& 2 ^ i = x) := ⟨_, rfl⟩
      obtain ⟨on, HON⟩ : ∃ x, Hid (folF beh S i ||| beh i = x) := ⟨_, rfl⟩
      obtain ⟨tb, HTB⟩ : ∃ x, Hid (S.testBit i = x) := ⟨_, rfl⟩
      rw [HAN.out] at ha hbit
      rw [HON.out] at ho HS
      rw [HTB.out] at HS hbit
      rw [← hw] at ha
      have hb1 : ((an : Int) != 0) = tb := by
        rw [← hbit]
        rw [Bool.eq_iff_iff]
        simp
      clear hbit hw h2
      cases tb
      · go_wp2_with fail
        go_round
        case rel => exact ⟨i + 1, by omega, by go_num, by rw [HS.out]; rfl⟩
        case measure => simp [intOf]; omega
      · go_wp2_with fail
        go_round
        case rel => exact ⟨i + 1, by omega, by go_num, by rw [HS.out]; rfl⟩
        case measure => simp [intOf]; omega
    · have he : i = n := by omega
      subst he
      go_wp2_with fail
      go_ret
      exact ⟨rfl, rfl⟩
end Go.Proofs.Ytpngikmcjkjdaab

namespace Go.Proofs.Ytpngikmcjkjdaab
open Go.RowKit
set_option linter.unusedVariables false
def linkF (beh : Nat → Nat) (L F i : Nat) : Nat := if L.testBit i then beh i ||| F else beh i
theorem icells_set (X : Nat → Nat) (n i v : Nat) : (icells X n).set i (.int .i64 ((v : Nat) : Int)) = icells (fun j => if j = i then v else X j) n := by
  apply List.ext_getElem?
  intro j
  rw [List.getElem?_set]
  simp only [icells, List.length_map, List.length_range]
  by_cases hj : j < n
  · by_cases e : i = j
    · subst e; simp [hj]
    · simp [hj, e, Ne.symm e]
  · by_cases e : i = j
    · subst e; simp [hj]
    · simp [hj, e]
set_option maxRecDepth 20000 in
set_option maxHeartbeats 1600000 in
theorem link_ok (bm base gb n cap : Nat) (beh : Nat → Nat) (L F : Nat) (w : World) (hn : n ≤ 11) (hL : L < 2048) (hF : F < 2048) (hb : ∀ i, i < n → beh i < 2048) (h0 : w.cell? ⟨bm, 0, none⟩ = some (.slice (some ⟨gb, 0, none⟩) n cap)) (hne : bm ≠ gb)
    (ho : w.ownsRow base 3 1 (.slice (some ⟨gb, 0, none⟩) n cap) n (icells beh n)) :
    Calls Try.prog 89 #[.pointer (some ⟨bm, 0, none⟩), .int .i64 L, .int .i64 F] w fun e w' => e = .returned (.tuple #[]) ∧ Touch (fun b => b = gb) w w' ∧ w'.ownsRow base 3 1 (.slice (some ⟨gb, 0, none⟩) n cap) n (icells (linkF beh L F) n) := by
  go_enter Try.func89, Try.ntmps89
  go_wp2_with fail
  go_loopw [6] (fun i' wr => ∃ i : Nat, i ≤ n ∧ i' = .int .i64 i ∧ Touch (fun b => b = gb) w wr ∧ wr.ownsRow base 3 1 (.slice (some ⟨gb, 0, none⟩) n cap) n (icells (fun j => if j < i then linkF beh L F j else beh j) n)) (fun i' _ => n - (intOf i').toNat)
  case atStart => exact ⟨0, by omega, rfl, Touch.refl _ _, by simpa using ho⟩
  case round =>
    obtain ⟨i, hi, rfl, ht, hw⟩ := hrel
    have x0 : wr.cell? ⟨bm, 0, none⟩ = some (.slice (some ⟨gb, 0, none⟩) n cap) := (World.cell?_of_block (a := ⟨bm, 0, none⟩) (ht.block bm (lt_of_cell h0) (fun e => hne e))).trans h0
    by_cases hlt : i < n
    · have c0 := (hw.cellAt i (by omega)).trans (show (icells (fun j => if j < i then linkF beh L F j else beh j) n)[i]? = some (.int .i64 ((beh i : Nat) : Int)) by simp [icells, hlt])
      have c1 := hw.frozenAt i
      have hpw := wrap64_pow i (by omega)
      have h2 : 2 ^ i ≤ 2 ^ 11 := Nat.pow_le_pow_right (by omega) (by omega)
      have ha := bits_and_i64 L (2 ^ i) (by omega) (by omega)
      have hor := bits_or_i64 (beh i) F (hb i hlt) hF
      have HS : Hid (linkF beh L F i = if L.testBit i then beh i ||| F else beh i) := rfl
      have hbit := and_pow L i
      obtain ⟨an, HAN⟩ : ∃ x, Hid (L &&& 2 ^ i = x) := ⟨_, rfl⟩
      obtain ⟨on, HON⟩ : ∃ x, Hid (beh i ||| F = x) := ⟨_, rfl⟩
      obtain ⟨tb, HTB⟩ : ∃ x, Hid (L.testBit i = x) := ⟨_, rfl⟩
      rw [HAN.out] at ha hbit
      rw [HON.out] at hor HS
      rw [HTB.out] at HS hbit
      rw [← hpw] at ha
      have hb1 : ((an : Int) != 0) = tb := by
        rw [← hbit, Bool.eq_iff_iff]
        simp
      have HW : Hid (wr.ownsRow base 3 1 (.slice (some ⟨gb, 0, none⟩) n cap) n (icells (fun j => if j < i then linkF beh L F j else beh j) n)) := hw
      have HT : Hid (Touch (fun b => b = gb) w wr) := ht
      clear hbit hpw h2 hw ht
      cases tb
      · go_wp2_with fail
        go_roundw
        case rel =>
          refine ⟨i + 1, by omega, by go_num, HT.out, ?_⟩
          have h := HW.out
          have e : icells (fun j => if j < i then linkF beh L F j else beh j) n = icells (fun j => if j < i + 1 then linkF beh L F j else beh j) n := by
            simp only [icells]; apply List.map_congr_left; intro j hj
            by_cases e : j = i
            · subst e
              simp only [Nat.lt_irrefl, if_false, Nat.lt_succ_self, if_true]
              rw [HS.out]; rfl
            · by_cases h' : j < i
              · rw [if_pos h', if_pos (by omega)]
              · rw [if_neg h', if_neg (by omega)]
          rw [e] at h
          exact h
        case measure => simp [intOf]; omega
      · go_wp2_with fail
        go_roundw
        case rel =>
          refine ⟨i + 1, by omega, by go_num, HT.out.set _ _ (.inl rfl), ?_⟩
          have h := (HW.out.stored i (.int .i64 ((on : Nat) : Int))).1
          rw [icells_set] at h
          have e : icells (fun j => if j = i then on else if j < i then linkF beh L F j else beh j) n = icells (fun j => if j < i + 1 then linkF beh L F j else beh j) n := by
            simp only [icells]; apply List.map_congr_left; intro j hj
            by_cases e : j = i
            · subst e
              simp only [Nat.lt_succ_self, if_true]
              rw [HS.out]; rfl
            · by_cases h' : j < i
              · rw [if_neg e, if_pos h', if_pos (by omega)]
              · rw [if_neg e, if_neg h', if_neg (by omega)]
          rw [e] at h
          exact h
        case measure => simp [intOf]; omega
    · have he : i = n := by omega
      subst he
      have HW : Hid (wr.ownsRow base 3 1 (.slice (some ⟨gb, 0, none⟩) i cap) i (icells (linkF beh L F) i)) := by
        have e : icells (fun j => if j < i then linkF beh L F j else beh j) i = icells (linkF beh L F) i := by
          simp only [icells]; apply List.map_congr_left; intro j hj
          rw [if_pos (by simpa using hj)]
        rw [e] at hw
        exact hw
      have HT : Hid (Touch (fun b => b = gb) w wr) := ht
      clear hw ht
      go_wp2_with fail
      go_end0
      exact ⟨rfl, HT.out, HW.out⟩
end Go.Proofs.Ytpngikmcjkjdaab

namespace Go.Proofs.Ytpngikmcjkjdaab
set_option linter.unusedVariables false
theorem way_congr {B B' rd : Nat → Nat → Prop} {L L' : Nat → Prop} (hB : ∀ p q, B p q ↔ B' p q) (hL : ∀ p, L p ↔ L' p) (p : Nat) (x : List Nat) : Way B rd L p x ↔ Way B' rd L' p x :=
  ⟨Way.mono (fun p q h => (hB p q).1 h) (fun p h => (hL p).1 h), Way.mono (fun p q h => (hB p q).2 h) (fun p h => (hL p).2 h)⟩
theorem acc_congr {rd : Nat → Nat → Prop} {s t : Str rd} (he : s.e ↔ t.e) (hF : ∀ p, s.F p ↔ t.F p) (hL : ∀ p, s.L p ↔ t.L p) (hB : ∀ p q, s.B p q ↔ t.B p q) (x : List Nat) : s.acc x ↔ t.acc x := by
  unfold Str.acc
  rw [he]
  constructor
  · rintro (h | ⟨p, hp, hw⟩)
    · exact .inl h
    · exact .inr ⟨p, (hF p).1 hp, (way_congr hB hL p x).1 hw⟩
  · rintro (h | ⟨p, hp, hw⟩)
    · exact .inl h
    · exact .inr ⟨p, (hF p).2 hp, (way_congr hB hL p x).2 hw⟩
def rdB (rdr : Nat → Nat) (p c : Nat) : Prop := (rdr c).testBit p = true
def bStr (rdr beh : Nat → Nat) (lo hi : Nat) (e : Bool) (F L : Nat) : Str (rdB rdr) :=
  ⟨lo, hi, e = true, fun p => F.testBit p = true, fun p => L.testBit p = true, fun p q => (lo ≤ p ∧ p < hi) ∧ (beh p).testBit q = true⟩
structure StrOk (rdr beh : Nat → Nat) (lo hi : Nat) (e : Bool) (F L : Nat) (l : List Nat → Prop) : Prop where
  le : lo ≤ hi
  fi : ∀ p, F.testBit p = true → lo ≤ p ∧ p < hi
  la : ∀ p, L.testBit p = true → lo ≤ p ∧ p < hi
  be : ∀ p q, lo ≤ p → p < hi → (beh p).testBit q = true → lo ≤ q ∧ q < hi
  ac : ∀ x, (bStr rdr beh lo hi e F L).acc x ↔ l x
theorem StrOk.inn {rdr beh : Nat → Nat} {lo hi : Nat} {e : Bool} {F L : Nat} {l : List Nat → Prop} (h : StrOk rdr beh lo hi e F L l) : (bStr rdr beh lo hi e F L).In :=
  ⟨h.le, h.fi, h.la, fun p q hb => ⟨hb.1, h.be p q hb.1.1 hb.1.2 hb.2⟩⟩
theorem StrOk.lcongr {rdr beh : Nat → Nat} {lo hi : Nat} {e : Bool} {F L : Nat} {l l' : List Nat → Prop} (h : StrOk rdr beh lo hi e F L l) (hl : ∀ x, l x ↔ l' x) : StrOk rdr beh lo hi e F L l' := ⟨h.le, h.fi, h.la, h.be, fun x => (h.ac x).trans (hl x)⟩
theorem StrOk.later {rdr rdr' beh beh' : Nat → Nat} {lo hi : Nat} {e : Bool} {F L : Nat} {l : List Nat → Prop} (h : StrOk rdr beh lo hi e F L l) (hb : ∀ p, lo ≤ p → p < hi → beh' p = beh p) (hr : ∀ p c, p < hi → (rdr' c).testBit p = (rdr c).testBit p) : StrOk rdr' beh' lo hi e F L l := by
  refine ⟨h.le, h.fi, h.la, fun p q h1 h2 h3 => h.be p q h1 h2 (by rw [← hb p h1 h2]; exact h3), fun x => ?_⟩
  rw [← h.ac x]
  have hB : ∀ p q, ((lo ≤ p ∧ p < hi) ∧ (beh' p).testBit q = true) ↔ ((lo ≤ p ∧ p < hi) ∧ (beh p).testBit q = true) := by
    intro p q
    constructor
    · rintro ⟨h1, h2⟩; exact ⟨h1, by rw [← hb p h1.1 h1.2]; exact h2⟩
    · rintro ⟨h1, h2⟩; exact ⟨h1, by rw [hb p h1.1 h1.2]; exact h2⟩
  have key : ∀ p x, p < hi → (Way (bStr rdr' beh' lo hi e F L).B (rdB rdr') (bStr rdr' beh' lo hi e F L).L p x ↔ Way (bStr rdr beh lo hi e F L).B (rdB rdr) (bStr rdr beh lo hi e F L).L p x) := by
    intro p x hp
    constructor
    · intro hw
      induction hw with
      | last hr' hl => exact .last (by unfold rdB at hr' ⊢; rw [← hr _ _ hp]; exact hr') hl
      | step hr' hb' _ ih =>
        have hb2 := (hB _ _).1 hb'
        exact .step (by unfold rdB at hr' ⊢; rw [← hr _ _ hp]; exact hr') hb2 (ih (h.be _ _ hb2.1.1 hb2.1.2 hb2.2).2)
    · intro hw
      induction hw with
      | last hr' hl => exact .last (by unfold rdB at hr' ⊢; rw [hr _ _ hp]; exact hr') hl
      | step hr' hb' _ ih => exact .step (by unfold rdB at hr' ⊢; rw [hr _ _ hp]; exact hr') ((hB _ _).2 hb') (ih (h.be _ _ hb'.1.1 hb'.1.2 hb'.2).2)
  constructor
  · rintro (h1 | ⟨p, hp, hw⟩)
    · exact .inl h1
    · exact .inr ⟨p, hp, (key p x (h.fi p hp).2).1 hw⟩
  · rintro (h1 | ⟨p, hp, hw⟩)
    · exact .inl h1
    · exact .inr ⟨p, hp, (key p x (h.fi p hp).2).2 hw⟩
theorem linkF_bit {beh : Nat → Nat} {L F p q : Nat} : (linkF beh L F p).testBit q = true ↔ (beh p).testBit q = true ∨ (L.testBit p = true ∧ F.testBit q = true) := by
  unfold linkF
  by_cases h : L.testBit p = true
  · rw [if_pos h, Nat.testBit_or, Bool.or_eq_true]; simp [h]
  · rw [if_neg h]; simp [h]
theorem StrOk.chain {rdr beh : Nat → Nat} {lo mid hi : Nat} {e1 e2 : Bool} {F1 L1 F2 L2 : Nat} {l1 l2 : List Nat → Prop} (h1 : StrOk rdr beh lo mid e1 F1 L1 l1) (h2 : StrOk rdr beh mid hi e2 F2 L2 l2) :
    StrOk rdr (linkF beh L1 F2) lo hi (e1 && e2) (if e1 then F1 ||| F2 else F1) (if e2 then L2 ||| L1 else L2) (Cat l1 l2) := by
  have hle1 := h1.le
  have hle2 := h2.le
  have hF : ∀ p, (if e1 then F1 ||| F2 else F1).testBit p = true ↔ F1.testBit p = true ∨ (e1 = true ∧ F2.testBit p = true) := by
    intro p; cases e1 <;> simp [Nat.testBit_or]
  have hL : ∀ p, (if e2 then L2 ||| L1 else L2).testBit p = true ↔ L2.testBit p = true ∨ (e2 = true ∧ L1.testBit p = true) := by
    intro p; cases e2 <;> simp [Nat.testBit_or]
  refine ⟨by omega, fun p hp => ?_, fun p hp => ?_, fun p q hp1 hp2 hb => ?_, fun x => ?_⟩
  · rcases (hF p).1 hp with h | ⟨_, h⟩
    · have := h1.fi p h; omega
    · have := h2.fi p h; omega
  · rcases (hL p).1 hp with h | ⟨_, h⟩
    · have := h2.la p h; omega
    · have := h1.la p h; omega
  · rcases linkF_bit.1 hb with h | ⟨_, h⟩
    · by_cases hm : p < mid
      · have := h1.be p q hp1 hm h; omega
      · have := h2.be p q (by omega) hp2 h; omega
    · have := h2.fi q h; omega
  · rw [← Cat.congr h1.ac h2.ac x, ← chain_acc h1.inn h2.inn rfl x]
    refine acc_congr ?_ hF hL (fun p q => ?_) x
    · show (e1 && e2) = true ↔ e1 = true ∧ e2 = true
      simp
    · show ((lo ≤ p ∧ p < hi) ∧ (linkF beh L1 F2 p).testBit q = true) ↔ ((lo ≤ p ∧ p < mid) ∧ (beh p).testBit q = true) ∨ ((mid ≤ p ∧ p < hi) ∧ (beh p).testBit q = true) ∨ (L1.testBit p = true ∧ F2.testBit q = true)
      rw [linkF_bit]
      constructor
      · rintro ⟨hp, h | h⟩
        · by_cases hm : p < mid
          · exact .inl ⟨⟨hp.1, hm⟩, h⟩
          · exact .inr (.inl ⟨⟨by omega, hp.2⟩, h⟩)
        · exact .inr (.inr h)
      · rintro (⟨hp, h⟩ | ⟨hp, h⟩ | h)
        · exact ⟨⟨hp.1, by omega⟩, .inl h⟩
        · exact ⟨⟨by omega, hp.2⟩, .inl h⟩
        · have := h1.la p h.1; exact ⟨⟨this.1, by omega⟩, .inr h⟩
theorem StrOk.alt {rdr beh : Nat → Nat} {lo mid hi : Nat} {e1 e2 : Bool} {F1 L1 F2 L2 : Nat} {l1 l2 : List Nat → Prop} (h1 : StrOk rdr beh lo mid e1 F1 L1 l1) (h2 : StrOk rdr beh mid hi e2 F2 L2 l2) :
    StrOk rdr beh lo hi (e1 || e2) (F1 ||| F2) (L1 ||| L2) (fun x => l1 x ∨ l2 x) := by
  have hle1 := h1.le
  have hle2 := h2.le
  refine ⟨by omega, fun p hp => ?_, fun p hp => ?_, fun p q hp1 hp2 hb => ?_, fun x => ?_⟩
  · rw [Nat.testBit_or, Bool.or_eq_true] at hp
    rcases hp with h | h
    · have := h1.fi p h; omega
    · have := h2.fi p h; omega
  · rw [Nat.testBit_or, Bool.or_eq_true] at hp
    rcases hp with h | h
    · have := h1.la p h; omega
    · have := h2.la p h; omega
  · by_cases hm : p < mid
    · have := h1.be p q hp1 hm hb; omega
    · have := h2.be p q (by omega) hp2 hb; omega
  · rw [← h1.ac x, ← h2.ac x, ← alt_acc h1.inn h2.inn rfl x]
    refine acc_congr ?_ (fun p => ?_) (fun p => ?_) (fun p q => ?_) x
    · show (e1 || e2) = true ↔ e1 = true ∨ e2 = true
      simp
    · show (F1 ||| F2).testBit p = true ↔ F1.testBit p = true ∨ F2.testBit p = true
      rw [Nat.testBit_or, Bool.or_eq_true]
    · show (L1 ||| L2).testBit p = true ↔ L1.testBit p = true ∨ L2.testBit p = true
      rw [Nat.testBit_or, Bool.or_eq_true]
    · show ((lo ≤ p ∧ p < hi) ∧ (beh p).testBit q = true) ↔ ((lo ≤ p ∧ p < mid) ∧ (beh p).testBit q = true) ∨ ((mid ≤ p ∧ p < hi) ∧ (beh p).testBit q = true)
      constructor
      · rintro ⟨hp, h⟩
        by_cases hm : p < mid
        · exact .inl ⟨⟨hp.1, hm⟩, h⟩
        · exact .inr ⟨⟨by omega, hp.2⟩, h⟩
      · rintro (⟨hp, h⟩ | ⟨hp, h⟩)
        · exact ⟨⟨hp.1, by omega⟩, h⟩
        · exact ⟨⟨by omega, hp.2⟩, h⟩
theorem StrOk.opt {rdr beh : Nat → Nat} {lo hi : Nat} {e : Bool} {F L : Nat} {l : List Nat → Prop} (h : StrOk rdr beh lo hi e F L l) : StrOk rdr beh lo hi true F L (fun x => x = [] ∨ l x) := by
  refine ⟨h.le, h.fi, h.la, h.be, fun x => ?_⟩
  rw [← h.ac x, ← opt_acc (s := bStr rdr beh lo hi e F L) x]
  refine acc_congr (s := bStr rdr beh lo hi true F L) (t := (bStr rdr beh lo hi e F L).free False) ?_ (fun p => Iff.rfl) (fun p => Iff.rfl) (fun p q => ?_) x
  · show true = true ↔ True
    simp
  · show ((lo ≤ p ∧ p < hi) ∧ (beh p).testBit q = true) ↔ ((lo ≤ p ∧ p < hi) ∧ (beh p).testBit q = true) ∨ (False ∧ _)
    simp
theorem StrOk.star {rdr beh : Nat → Nat} {lo hi : Nat} {e : Bool} {F L : Nat} {l : List Nat → Prop} (h : StrOk rdr beh lo hi e F L l) : StrOk rdr (linkF beh L F) lo hi true F L (Star l) := by
  refine ⟨h.le, h.fi, h.la, fun p q h1 h2 hb => ?_, fun x => ?_⟩
  · rcases linkF_bit.1 hb with hb | ⟨_, hb⟩
    · exact h.be p q h1 h2 hb
    · exact h.fi q hb
  · rw [← Star.congr h.ac x, ← star_acc (s := bStr rdr beh lo hi e F L) x]
    refine acc_congr (s := bStr rdr (linkF beh L F) lo hi true F L) (t := (bStr rdr beh lo hi e F L).free True) ?_ (fun p => Iff.rfl) (fun p => Iff.rfl) (fun p q => ?_) x
    · show true = true ↔ True
      simp
    · show ((lo ≤ p ∧ p < hi) ∧ (linkF beh L F p).testBit q = true) ↔ ((lo ≤ p ∧ p < hi) ∧ (beh p).testBit q = true) ∨ (True ∧ L.testBit p = true ∧ F.testBit q = true)
      rw [linkF_bit]
      constructor
      · rintro ⟨hp, hb | hb⟩
        · exact .inl ⟨hp, hb⟩
        · exact .inr ⟨trivial, hb⟩
      · rintro (⟨hp, hb⟩ | ⟨_, hb⟩)
        · exact ⟨hp, .inl hb⟩
        · exact ⟨h.la p hb.1, .inr hb⟩
theorem StrOk.nothing (rdr beh : Nat → Nat) (lo : Nat) : StrOk rdr beh lo lo true 0 0 (fun x => x = []) := by
  refine ⟨Nat.le_refl _, fun p hp => by simp at hp, fun p hp => by simp at hp, fun p q h1 h2 => by omega, fun x => ?_⟩
  rw [← nothing_acc (rdB rdr) lo x]
  refine acc_congr (s := bStr rdr beh lo lo true 0 0) (t := Str.nothing (rdB rdr) lo) ?_ (fun p => ?_) (fun p => ?_) (fun p q => ?_) x
  · show true = true ↔ True
    simp
  · show (0 : Nat).testBit p = true ↔ False
    simp
  · show (0 : Nat).testBit p = true ↔ False
    simp
  · show ((lo ≤ p ∧ p < lo) ∧ (beh p).testBit q = true) ↔ False
    constructor
    · rintro ⟨h, _⟩; omega
    · exact fun h => h.elim
theorem StrOk.spot {rdr beh : Nat → Nat} {lo : Nat} {S : Nat → Bool} (hb : beh lo = 0) (hr : ∀ c, (rdr c).testBit lo = S c) : StrOk rdr beh lo (lo + 1) false (2 ^ lo) (2 ^ lo) (Pat.one S).lang := by
  have hp : ∀ p, (2 ^ lo).testBit p = true ↔ p = lo := by
    intro p; rw [Nat.testBit_two_pow]; simp; exact ⟨fun h => h.symm, fun h => h.symm⟩
  refine ⟨by omega, fun p h => ?_, fun p h => ?_, fun p q h1 h2 h3 => ?_, fun x => ?_⟩
  · have := (hp p).1 h; omega
  · have := (hp p).1 h; omega
  · rw [show p = lo by omega, hb] at h3; simp at h3
  · rw [← spot_acc (rd := rdB rdr) (lo := lo) (S := S) (fun c => by unfold rdB; rw [hr c]) x]
    refine acc_congr (s := bStr rdr beh lo (lo + 1) false (2 ^ lo) (2 ^ lo)) (t := Str.spot (rdB rdr) lo) ?_ (fun p => ?_) (fun p => ?_) (fun p q => ?_) x
    · show false = true ↔ False
      simp
    · exact hp p
    · exact hp p
    · show ((lo ≤ p ∧ p < lo + 1) ∧ (beh p).testBit q = true) ↔ False
      constructor
      · rintro ⟨h, h3⟩
        rw [show p = lo by omega, hb] at h3; simp at h3
      · exact fun h => h.elim
theorem StrOk.copyMust {rdr beh : Nat → Nat} {lo hi : Nat} {e : Bool} {F L least i : Nat} {en : Bool} {l : List Nat → Prop} (h : StrOk rdr beh lo hi e F L l) (hi' : i < least) : StrOk rdr beh lo hi e F L (Copy l least i en) :=
  h.lcongr (fun x => by unfold Copy; rw [if_pos hi'])
theorem StrOk.copyOpt {rdr beh : Nat → Nat} {lo hi : Nat} {e : Bool} {F L least i : Nat} {l : List Nat → Prop} (h : StrOk rdr beh lo hi e F L l) (hi' : ¬ i < least) : StrOk rdr beh lo hi true F L (Copy l least i false) :=
  h.opt.lcongr (fun x => by unfold Copy; rw [if_neg hi', if_neg (by simp)])
theorem StrOk.copyStar {rdr beh : Nat → Nat} {lo hi : Nat} {e : Bool} {F L least i : Nat} {l : List Nat → Prop} (h : StrOk rdr beh lo hi e F L l) (hi' : ¬ i < least) : StrOk rdr (linkF beh L F) lo hi true F L (Copy l least i true) :=
  h.star.lcongr (fun x => by unfold Copy; rw [if_neg hi', if_pos rfl])
end Go.Proofs.Ytpngikmcjkjdaab

namespace Go.Proofs.Ytpngikmcjkjdaab
set_option linter.unusedVariables false
def swp (b x : Nat) : Nat := if x = b then 0 else if x = 0 then b else x
theorem swp_swp (b x : Nat) : swp b (swp b x) = x := by
  unfold swp
  by_cases h1 : x = b
  · subst h1; by_cases h2 : x = 0
    · simp [h2]
    · simp [Ne.symm h2]
  · by_cases h2 : x = 0
    · subst h2; simp [h1]
    · simp [h1, h2]
theorem swp_lt {b x n : Nat} (hb : b < n) (hx : x < n) : swp b x < n := by unfold swp; split <;> (try split) <;> omega
structure Mach where
  n : Nat
  beh : Nat → Nat
  rdr : Nat → Nat
  lasts : Nat
namespace Mach
variable (m : Mach)
def step (S c : Nat) : Nat := folF m.beh S m.n &&& m.rdr c
def succ (q c : Nat) : Nat := swp 1 (m.step (swp 1 q) c)
def good (q : Nat) : Prop := q < 2048
def tab (ps : List Nat) : Tab where
  n := ps.length
  acc k := swp 1 (ps.getD k 0) &&& m.lasts != 0
  nxt := pn m.succ ps
def lang (x : List Nat) : Bool := x.foldl m.step 1 &&& m.lasts != 0
variable {m}
theorem bound {ps : List Nat} {p : Nat} (h : PRel good m.succ ps p) : ps.length ≤ 2048 := nodup_bound 2048 ps h.nd (fun x hx => h.inr x hx)
theorem numbered {ps : List Nat} (h : PRel good m.succ ps (8 * ps.length)) : Numbered (m.tab ps) where
  pos := h.len
  nx i c hi hc := by
    have := (h.clo (8 * i + c) (by have : i < ps.length := hi; omega)).2
    rw [show (8 * i + c) / 8 = i by omega, show (8 * i + c) % 8 = c by omega] at this
    exact List.idxOf_lt_length_of_mem this
  step p hp := h.num p hp
  row i hi := h.row i (by have : i < ps.length := hi; omega)
  all := h.cm
theorem tab_read {ps : List Nat} (h : PRel good m.succ ps (8 * ps.length)) (k : Nat) (hk : k < ps.length) (x : List Nat) (hx : Notes x) :
    (m.tab ps).read k x < ps.length ∧ swp 1 (ps.getD ((m.tab ps).read k x) 0) = x.foldl m.step (swp 1 (ps.getD k 0)) := by
  induction x generalizing k with
  | nil => exact ⟨hk, rfl⟩
  | cons c x ih =>
    have hc : c < 8 := hx c (by simp)
    have hx' : Notes x := fun d hd => hx d (by simp [hd])
    have hcl := (h.clo (8 * k + c) (by omega)).2
    rw [show (8 * k + c) / 8 = k by omega, show (8 * k + c) % 8 = c by omega] at hcl
    have hlt : (m.tab ps).nxt k c < ps.length := List.idxOf_lt_length_of_mem hcl
    have he : ps.getD ((m.tab ps).nxt k c) 0 = m.succ (ps.getD k 0) c := getD_idxOf ps _ hcl
    simp only [Tab.read, List.foldl_cons]
    have := ih _ hlt hx'
    rw [he] at this
    rw [show m.step (swp 1 (ps.getD k 0)) c = swp 1 (m.succ (ps.getD k 0) c) by unfold succ; rw [swp_swp]]
    exact this
theorem tab_accepts {ps : List Nat} (h : PRel good m.succ ps (8 * ps.length)) (x : List Nat) (hx : Notes x) : (m.tab ps).accepts x = m.lang x := by
  have := tab_read h 0 h.len x hx
  rw [h.hd] at this
  simp only [Tab.accepts]
  show (swp 1 (ps.getD ((m.tab ps).read 0 x) 0) &&& m.lasts != 0) = _
  rw [this.2]
  rfl
theorem and_ne {S L : Nat} : (S &&& L != 0) = true ↔ ∃ p, S.testBit p = true ∧ L.testBit p = true := by
  rw [bne_iff_ne]
  constructor
  · intro h
    obtain ⟨p, hp⟩ := Nat.exists_testBit_of_ne_zero h
    rw [Nat.testBit_and, Bool.and_eq_true] at hp
    exact ⟨p, hp⟩
  · rintro ⟨p, h1, h2⟩ e
    have : (S &&& L).testBit p = true := by rw [Nat.testBit_and, h1, h2]; rfl
    rw [e] at this
    simp at this
theorem foldl_step (m : Mach) (x : List Nat) (S : Nat) (P : Nat → Prop) (hP : ∀ p, S.testBit p = true ↔ P p) (q : Nat) : (x.foldl m.step S).testBit q = true ↔ (x.foldl (stepS (fun p q => p < m.n ∧ (m.beh p).testBit q = true) (rdB m.rdr)) P) q := by
  induction x generalizing S P with
  | nil => exact hP q
  | cons c x ih =>
    simp only [List.foldl_cons]
    refine ih _ _ (fun p => ?_)
    unfold step stepS rdB
    rw [Nat.testBit_and, Bool.and_eq_true, folF_bit]
    constructor
    · rintro ⟨⟨p0, h1, h2, h3⟩, h4⟩; exact ⟨h4, p0, (hP p0).1 h2, h1, h3⟩
    · rintro ⟨h4, p0, h2, h1, h3⟩; exact ⟨⟨p0, h1, (hP p0).2 h2, h3⟩, h4⟩
theorem lang_ok {rdr beh : Nat → Nat} {n : Nat} {e : Bool} {F L : Nat} {l : List Nat → Prop} (h : StrOk rdr beh 1 n e F L l) (h0 : beh 0 = 0) (x : List Nat) :
    lang ⟨n, linkF beh 1 F, rdr, if e then L ||| 1 else L⟩ x = true ↔ l x := by
  unfold lang
  rw [and_ne, ← h.ac x]
  have hn := h.le
  have b1 : ∀ p, (1 : Nat).testBit p = true ↔ p = 0 := by
    intro p
    rw [show (1 : Nat) = 2 ^ 0 from rfl, Nat.testBit_two_pow]; simp; exact ⟨fun h => h.symm, fun h => h.symm⟩
  rw [← ahead_acc (s := bStr rdr beh 1 n e F L) (B := fun p q => p < n ∧ (linkF beh 1 F p).testBit q = true) (L := fun p => (if e then L ||| 1 else L).testBit p = true) (a := 0) h.inn (by show 0 < 1; omega) (fun p q => ?_) (fun p => ?_) x]
  · constructor
    · rintro ⟨p, h1, h2⟩; exact ⟨p, (foldl_step _ x 1 (fun p => p = 0) b1 p).1 h1, h2⟩
    · rintro ⟨p, h1, h2⟩; exact ⟨p, (foldl_step _ x 1 (fun p => p = 0) b1 p).2 h1, h2⟩
  · show (p < n ∧ (linkF beh 1 F p).testBit q = true) ↔ (p = 0 ∧ F.testBit q = true) ∨ ((1 ≤ p ∧ p < n) ∧ (beh p).testBit q = true)
    rw [linkF_bit, b1 p]
    constructor
    · rintro ⟨h1, h2 | h2⟩
      · by_cases hp : p = 0
        · rw [hp, h0] at h2; simp at h2
        · exact .inr ⟨⟨by omega, h1⟩, h2⟩
      · exact .inl h2
    · rintro (⟨h1, h2⟩ | ⟨h1, h2⟩)
      · exact ⟨by omega, .inr ⟨h1, h2⟩⟩
      · exact ⟨h1.2, .inl h2⟩
  · show (if e then L ||| 1 else L).testBit p = true ↔ (p = 0 ∧ e = true) ∨ L.testBit p = true
    cases e
    · simp
    · simp only [if_true, Nat.testBit_or, Bool.or_eq_true, b1 p]
      constructor
      · rintro (h1 | h1)
        · exact .inr h1
        · exact .inl ⟨h1, trivial⟩
      · rintro (⟨h1, _⟩ | h1)
        · exact .inr h1
        · exact .inl h1
end Mach
end Go.Proofs.Ytpngikmcjkjdaab

namespace Go.Proofs.Ytpngikmcjkjdaab
open Go.RowKit
set_option linter.unusedVariables false
structure MachAt (w : World) (bm : Nat) (vb : Value) (n : Nat) (beh rdr : Nat → Nat) : Prop where
  blk : w.rowIs bm 115 9 (fun i => if i = 0 then vb else .int .i64 ((rdr (i - 1) : Nat) : Int))
  own : w.ownsRow (bm + 1) 3 1 vb n (icells beh n)
  lb : ∀ i, i < n → beh i < 2048
  lr : ∀ c, c < 8 → rdr c < 2048
def bools8 (f : Nat → Bool) : Array Value := #[.bool (f 0), .bool (f 1), .bool (f 2), .bool (f 3), .bool (f 4), .bool (f 5), .bool (f 6), .bool (f 7)]
theorem bools8_is {w : World} {b t : Nat} {f : Nat → Bool} (h : w.heap[b]? = some (.cells (bools8 f) t (0, 0))) : w.rowIs b t 8 (fun i => .bool (f i)) := by
  refine ⟨_, h, rfl, fun i hi => ?_⟩
  rcases (show i = 0 ∨ i = 1 ∨ i = 2 ∨ i = 3 ∨ i = 4 ∨ i = 5 ∨ i = 6 ∨ i = 7 by omega) with rfl | rfl | rfl | rfl | rfl | rfl | rfl | rfl <;> rfl
theorem MachAt.below {w w1 : World} {bm : Nat} {vb : Value} {n : Nat} {beh rdr : Nat → Nat} (h : MachAt w bm vb n beh rdr) (hb : Below w.heap.size w w1) : MachAt w1 bm vb n beh rdr :=
  ⟨h.blk.of_block (hb.block _ h.blk.lt), ownsRow_below h.own hb, h.lb, h.lr⟩
set_option maxRecDepth 20000 in
set_option maxHeartbeats 2000000 in
theorem addSpot_ok (bm : Nat) (vb : Value) (n : Nat) (beh rdr : Nat → Nat) (f : Nat → Bool) (w : World) (hn : n < 11) (h : MachAt w bm vb n beh rdr) :
    Calls Try.prog 70 #[.pointer (some ⟨bm, 0, none⟩), .agg (bools8 f)] w
      fun e w' => e = .returned (.int .i64 ((2 ^ n : Nat) : Int)) ∧ ∃ vb', MachAt w' bm vb' (n + 1) (fun i => if i = n then 0 else beh i) (fun c => if f c then rdr c ||| 2 ^ n else rdr c) ∧ Touch (fun b => b = bm ∨ vb.ownBlock = some b) w w' ∧ (∀ g, vb'.ownBlock = some g → vb.ownBlock = some g ∨ w.heap.size ≤ g) := by
  obtain ⟨i3, hi3, hz3, hz31, hz32⟩ := info_parts Try.info3
  obtain ⟨W, hW⟩ : ∃ W, W = w.alloc (.cells (bools8 f) 88) := ⟨_, rfl⟩
  have BW : Below w.heap.size w W := by rw [hW]; exact (Below.refl _ _).alloc (Nat.le_refl _) _
  have hWs : W.heap.size = w.heap.size + 1 := by rw [hW]; simp
  have b0 : W.heap[w.heap.size]? = some (.cells (bools8 f) 88 (0, 0)) := by rw [hW]; exact heap_at_new rfl
  have h1 := h.below BW
  have x0 := h1.blk.cell (i := 0) (by omega)
  have x1 := h1.blk.frozen 0
  simp only [if_true] at x0
  obtain ⟨ao, cap, rfl, hao⟩ := ownsRow_shape h1.own
  have hpw := wrap64_pow n (by omega)
  have hbl := h1.blk.lt
  go_enter Try.func70, Try.ntmps70
  go_upto_region 1 with fail
  rw [← hW]
  clear hW
  have HPa : Hid (MachAt (W.alloc (.cells #[.int .i64 0] 3)) bm (.slice ao n cap) n beh rdr) := h1.below ((Below.refl _ _).alloc (Nat.le_refl _) _)
  have hna := HPa.out.own
  have hbm : bm < w.heap.size := h.blk.lt
  have HG : Hid (∀ g cap' w2, w2.ownsRow (bm + 1) 3 1 (.slice (some ⟨g, 0, none⟩) (n + 1) cap') (n + 1) (icells beh n ++ [.int .i64 0]) → (W.alloc (.cells #[.int .i64 0] 3)).grownBy w2 (Value.slice ao n cap).ownBlock → ((Value.slice ao n cap).ownBlock = some g ∨ g = (W.alloc (.cells #[.int .i64 0] 3)).heap.size) →
      w2.cell? ⟨bm, 0, none⟩ = some (.slice ao n cap) ∧ w2.frozen? ⟨bm, 0, none⟩ = false ∧
      Hid (MachAt (w2.setCell ⟨bm, 0, none⟩ (.slice (some ⟨g, 0, none⟩) (n + 1) cap')) bm (.slice (some ⟨g, 0, none⟩) (n + 1) cap') (n + 1) (fun i => if i = n then 0 else beh i) rdr) ∧
      Hid (Touch (fun b => b = bm ∨ (Value.slice ao n cap).ownBlock = some b) w (w2.setCell ⟨bm, 0, none⟩ (.slice (some ⟨g, 0, none⟩) (n + 1) cap'))) ∧ Hid ((w2.setCell ⟨bm, 0, none⟩ (.slice (some ⟨g, 0, none⟩) (n + 1) cap')).rowIs w.heap.size 88 8 (fun i => .bool (f i))) ∧ Hid (g ≠ w.heap.size)) := by
    intro g cap' w2 ho hg hf
    have hm := HPa.out
    have hlt := fun k (e : (Value.slice ao n cap).ownBlock = some k) => hm.own.lt k e
    have hlt0 := fun k (e : (Value.slice ao n cap).ownBlock = some k) => h.own.lt k e
    have hblk := rowIs_grown hm.blk hg (fun e => by have := (hlt _ e).1; omega)
    have hnot := rowIs_grown ((bools8_is b0).alloc (.cells #[.int .i64 0] 3)) hg (fun e => by have := (hlt0 _ e).2; omega)
    have hgn : g ≠ w.heap.size := by
      rcases hf with hf | hf
      · have := (hlt0 g hf).2; omega
      · rw [hf]; simp; omega
    have e1 : icells beh n ++ [.int .i64 0] = icells (fun i => if i = n then 0 else beh i) (n + 1) := by
      rw [icells_succ]
      congr 1
      · simp only [icells]; apply List.map_congr_left; intro j hj
        have : j < n := by simpa using hj
        rw [if_neg (by omega)]
      · simp
    rw [e1] at ho
    have hx := hblk.cell (i := 0) (by omega)
    simp only [if_true] at hx
    refine ⟨hx, hblk.frozen 0, ⟨(hblk.set 0 _).congr (fun j _ => ?_), ownsRow_setCell_below ho (by simp) _, fun j hj => ?_, h.lr⟩, ?_, hnot.setOther (by simp; omega) _, hgn⟩
    · by_cases e : j = 0
      · simp [e]
      · simp [e]
    · by_cases e : j = n
      · simp [e]
      · simp only [if_neg e]; exact h.lb j (by omega)
    · have t0 : Touch (fun b => b = bm ∨ (Value.slice ao n cap).ownBlock = some b) w (W.alloc (.cells #[.int .i64 0] 3)) := by
        refine ⟨?_, ?_, ?_, ?_, fun k hk _ => ?_⟩
        · exact BW.os
        · exact BW.tape
        · exact BW.output
        · simp; omega
        · exact (Below.heap_alloc W _ k (by omega)).trans (BW.block k hk)
      exact (t0.grown hg (fun k e => .inl (.inr e))).set _ _ (.inl (.inl rfl))
  have hWl : w.heap.size + 1 ≤ W.heap.size := by omega
  clear hWs
  go_wp2_with (at_builtin; refine wpList_append_fresh _ rfl _ _ 22 rfl (bm + 1) 3 i3 (.int .i64 0) 1 8 Try.underlying22 hi3 hz3 hz31 hz32 rfl (by decide) _ n (icells beh n) rfl hna ⟨W.heap.size, 0, none⟩ 1 1 [.int .i64 0] rfl rfl (cell_one_new _ _ _) (by intro u hu; simp at hu; subst hu; rfl) (by decide) (by unfold maxLen; omega) (by omega) (by simp; omega) ?_; intro g cap' w2 hown hgr hfr; obtain ⟨f0, f1, HM, HTo, HNo, HGn⟩ := HG.out g cap' w2 hown hgr hfr; have HFR : Hid _ := hfr; clear hown hgr hfr)
  clear HG HPa hna f0 f1 x0 x1
  generalize w2.setCell ⟨bm, 0, none⟩ (.slice (some ⟨g, 0, none⟩) (n + 1) cap') = W3 at HM HTo HNo ⊢
  have h2n : 2 ^ n < 2048 := Nat.pow_lt_pow_of_lt (a := 2) (n := n) (m := 11) (by omega) hn
  go_loopw [6] (fun k' wr => ∃ k : Nat, k ≤ 8 ∧ k' = .int .i64 k ∧ MachAt wr bm (.slice (some ⟨g, 0, none⟩) (n + 1) cap') (n + 1) (fun i => if i = n then 0 else beh i) (fun c => if c < k ∧ f c = true then rdr c ||| 2 ^ n else rdr c) ∧ Touch (fun b => b = bm ∨ (Value.slice ao n cap).ownBlock = some b) w wr ∧ wr.rowIs w.heap.size 88 8 (fun i => .bool (f i)))
    (fun k' _ => 8 - (intOf k').toNat)
  case atStart => exact ⟨0, by omega, rfl, ⟨HM.out.blk.congr (fun j _ => by simp), HM.out.own, HM.out.lb, fun c hc => by simpa using HM.out.lr c hc⟩, HTo.out, HNo.out⟩
  case round =>
    clear HM HTo HNo
    obtain ⟨k, hk, rfl, hM, hT, hN⟩ := hrel
    by_cases hlt : k < 8
    · have c0 := hN.cell (i := k) hlt
      have c1 := hM.blk.cell (i := 1 + k) (by omega)
      have c2 := hM.blk.frozen (1 + k)
      rw [if_neg (by omega), show 1 + k - 1 = k by omega] at c1
      simp only [Nat.lt_irrefl, false_and, if_false] at c1
      have hrk : rdr k < 2048 := h.lr k hlt
      have hor := bits_or_i64 (rdr k) (2 ^ n) hrk h2n
      have hlo : rdr k ||| 2 ^ n < 2 ^ 11 := Nat.or_lt_two_pow (by omega) (by omega)
      obtain ⟨on, HON⟩ : ∃ x, Hid (rdr k ||| 2 ^ n = x) := ⟨_, rfl⟩
      rw [HON.out] at hor hlo
      rw [show ((2 ^ n : Nat) : Int) = (2 : Int) ^ n by simp] at hor
      obtain ⟨fk, HFK⟩ : ∃ x, Hid (f k = x) := ⟨_, rfl⟩
      rw [HFK.out] at c0
      have HM : Hid (MachAt wr bm (.slice (some ⟨g, 0, none⟩) (n + 1) cap') (n + 1) (fun i => if i = n then 0 else beh i) (fun c => if c < k ∧ f c = true then rdr c ||| 2 ^ n else rdr c)) := hM
      have HT : Hid (Touch (fun b => b = bm ∨ (Value.slice ao n cap).ownBlock = some b) w wr) := hT
      have HN : Hid (wr.rowIs w.heap.size 88 8 (fun i => .bool (f i))) := hN
      clear hM hT hN
      cases fk
      · go_wp2_with fail
        go_roundw
        case rel =>
          have e : ∀ c, (if c < k ∧ f c = true then rdr c ||| 2 ^ n else rdr c) = (if c < k + 1 ∧ f c = true then rdr c ||| 2 ^ n else rdr c) := by
            intro c
            by_cases ec : c = k
            · subst ec; simp [HFK.out]
            · have : (c < k) = (c < k + 1) := by apply propext; omega
              simp only [this]
          exact ⟨k + 1, by omega, by go_num, ⟨HM.out.blk.congr (fun j _ => by rw [e (j - 1)]), HM.out.own, HM.out.lb, fun c hc => by rw [← e c]; exact HM.out.lr c hc⟩, HT.out, HN.out⟩
        case measure => simp [intOf]; omega
      · go_wp2_with fail
        go_region
        go_wp2_with fail
        go_roundw
        case rel =>
          have hm := HM.out
          have hTd : Touch (fun b => b = bm ∨ (Value.slice ao n cap).ownBlock = some b) w ((wr.setCell ⟨bm, 1 + k, none⟩ (.int .i64 (on : Int))).drew) := by
            have ht := HT.out.set ⟨bm, 1 + k, none⟩ (.int .i64 (on : Int)) (.inl (.inl rfl))
            exact ⟨ht.os, ht.tape, ht.output, ht.size, ht.block⟩
          refine ⟨k + 1, by omega, by go_num, ⟨(hm.blk.set (1 + k) (.int .i64 (on : Int))).congr (fun j _ => ?_), ownsRow_setCell_below hm.own (by simp) _, hm.lb, fun c hc => ?_⟩, hTd, HN.out.setOther (by simp; omega) _⟩
          · by_cases ej : j = 1 + k
            · subst ej
              rw [if_pos rfl, if_neg (by omega), show 1 + k - 1 = k by omega, if_pos ⟨Nat.lt_succ_self k, HFK.out⟩, HON.out]
            · rw [if_neg ej]
              by_cases ej0 : j = 0
              · simp [ej0]
              · rw [if_neg ej0, if_neg ej0]
                have : (j - 1 < k) = (j - 1 < k + 1) := by apply propext; omega
                simp only [this]
          · by_cases ec : c = k
            · subst ec
              rw [if_pos ⟨Nat.lt_succ_self c, HFK.out⟩, HON.out]; omega
            · have h1 := hm.lr c hc
              have : (c < k) = (c < k + 1) := by apply propext; omega
              simp only [this] at h1
              exact h1
        case measure => simp [intOf]; omega
    · have he : k = 8 := by omega
      subst he
      have HM : Hid (MachAt wr bm (.slice (some ⟨g, 0, none⟩) (n + 1) cap') (n + 1) (fun i => if i = n then 0 else beh i) (fun c => if f c = true then rdr c ||| 2 ^ n else rdr c)) := by
        have e : ∀ c, c < 8 → (if c < 8 ∧ f c = true then rdr c ||| 2 ^ n else rdr c) = (if f c = true then rdr c ||| 2 ^ n else rdr c) := by
          intro c hc; simp [hc]
        exact ⟨hM.blk.congr (fun j hj => by
          by_cases ej : j = 0
          · simp [ej]
          · rw [if_neg ej, if_neg ej, e (j - 1) (by omega)]), hM.own, hM.lb, fun c hc => by rw [← e c hc]; exact hM.lr c hc⟩
      have HT : Hid (Touch (fun b => b = bm ∨ (Value.slice ao n cap).ownBlock = some b) w wr) := hT
      clear hM hT hN
      go_wp2_with fail
      go_ret
      refine ⟨by simp, (.slice (some ⟨g, 0, none⟩) (n + 1) cap'), HM.out, HT.out, fun g' hg' => ?_⟩
      simp only [Value.ownBlock, Option.some.injEq] at hg'
      subst hg'
      rcases HFR.out with hf | hf
      · exact .inl hf
      · right; rw [hf]; simp; omega
end Go.Proofs.Ytpngikmcjkjdaab
