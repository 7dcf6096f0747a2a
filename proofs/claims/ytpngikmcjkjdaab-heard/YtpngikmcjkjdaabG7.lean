import Derived.Deep.RegionWith
import Derived.Test.YtpngikmcjkjdaabG2
import Derived.Test.YtpngikmcjkjdaabG3
import Derived.Test.YtpngikmcjkjdaabG6
set_option linter.unusedVariables false
set_option linter.unusedSimpArgs false
namespace Go.Proofs.Ytpngikmcjkjdaab
set_option linter.unusedVariables false
theorem way_congr {B B' rd : Nat → Nat → Prop} {L L' : Nat → Prop} (hB : ∀ p q, B p q ↔ B' p q) (hL : ∀ p, L p ↔ L' p) (p : Nat) (x : List Nat) : Way B rd L p x ↔ Way B' rd L' p x :=
  ⟨Way.mono (fun p q h => (hB p q).1 h) (fun p h => (hL p).1 h), Way.mono (fun p q h => (hB p q).2 h) (fun p h => (hL p).2 h)⟩
theorem acc_congr {rd : Nat → Nat → Prop} {s t : Str rd} (he : s.e ↔ t.e) (hF : ∀ p, s.F p ↔ t.F p) (hL : ∀ p, s.L p ↔ t.L p) (hB : ∀ p q, s.B p q ↔ t.B p q) (x : List Nat) : s.acc x ↔ t.acc x := by
  unfold Str.acc
  rw [he]
  constructor
  · rintro (h | ⟨p, hp, hw⟩)
    · exact .inl h
    · exact .inr ⟨p, (hF p).1 hp, (way_congr hB hL p x).1 hw⟩
  · rintro (h | ⟨p, hp, hw⟩)
    · exact .inl h
    · exact .inr ⟨p, (hF p).2 hp, (way_congr hB hL p x).2 hw⟩
def rdB (rdr : Nat → Nat) (p c : Nat) : Prop := (rdr c).testBit p = true
def bStr (rdr beh : Nat → Nat) (lo hi : Nat) (e : Bool) (F L : Nat) : Str (rdB rdr) :=
  ⟨lo, hi, e = true, fun p => F.testBit p = true, fun p => L.testBit p = true, fun p q => (lo ≤ p ∧ p < hi) ∧ (beh p).testBit q = true⟩
structure StrOk (rdr beh : Nat → Nat) (lo hi : Nat) (e : Bool) (F L : Nat) (l : List Nat → Prop) : Prop where
  le : lo ≤ hi
  fi : ∀ p, F.testBit p = true → lo ≤ p ∧ p < hi
  la : ∀ p, L.testBit p = true → lo ≤ p ∧ p < hi
  be : ∀ p q, lo ≤ p → p < hi → (beh p).testBit q = true → lo ≤ q ∧ q < hi
  ac : ∀ x, (bStr rdr beh lo hi e F L).acc x ↔ l x
theorem StrOk.inn {rdr beh : Nat → Nat} {lo hi : Nat} {e : Bool} {F L : Nat} {l : List Nat → Prop} (h : StrOk rdr beh lo hi e F L l) : (bStr rdr beh lo hi e F L).In :=
  ⟨h.le, h.fi, h.la, fun p q hb => ⟨hb.1, h.be p q hb.1.1 hb.1.2 hb.2⟩⟩
theorem StrOk.lcongr {rdr beh : Nat → Nat} {lo hi : Nat} {e : Bool} {F L : Nat} {l l' : List Nat → Prop} (h : StrOk rdr beh lo hi e F L l) (hl : ∀ x, l x ↔ l' x) : StrOk rdr beh lo hi e F L l' := ⟨h.le, h.fi, h.la, h.be, fun x => (h.ac x).trans (hl x)⟩
theorem StrOk.later {rdr rdr' beh beh' : Nat → Nat} {lo hi : Nat} {e : Bool} {F L : Nat} {l : List Nat → Prop} (h : StrOk rdr beh lo hi e F L l) (hb : ∀ p, lo ≤ p → p < hi → beh' p = beh p) (hr : ∀ p c, p < hi → (rdr' c).testBit p = (rdr c).testBit p) : StrOk rdr' beh' lo hi e F L l := by
  refine ⟨h.le, h.fi, h.la, fun p q h1 h2 h3 => h.be p q h1 h2 (by rw [← hb p h1 h2]; exact h3), fun x => ?_⟩
  rw [← h.ac x]
  have hB : ∀ p q, ((lo ≤ p ∧ p < hi) ∧ (beh' p).testBit q = true) ↔ ((lo ≤ p ∧ p < hi) ∧ (beh p).testBit q = true) := by
    intro p q
    constructor
    · rintro ⟨h1, h2⟩; exact ⟨h1, by rw [← hb p h1.1 h1.2]; exact h2⟩
    · rintro ⟨h1, h2⟩; exact ⟨h1, by rw [hb p h1.1 h1.2]; exact h2⟩
  have key : ∀ p x, p < hi → (Way (bStr rdr' beh' lo hi e F L).B (rdB rdr') (bStr rdr' beh' lo hi e F L).L p x ↔ Way (bStr rdr beh lo hi e F L).B (rdB rdr) (bStr rdr beh lo hi e F L).L p x) := by
    intro p x hp
    constructor
    · intro hw
      induction hw with
      | last hr' hl => exact .last (by unfold rdB at hr' ⊢; rw [← hr _ _ hp]; exact hr') hl
      | step hr' hb' _ ih =>
        have hb2 := (hB _ _).1 hb'
        exact .step (by unfold rdB at hr' ⊢; rw [← hr _ _ hp]; exact hr') hb2 (ih (h.be _ _ hb2.1.1 hb2.1.2 hb2.2).2)
    · intro hw
      induction hw with
      | last hr' hl => exact .last (by unfold rdB at hr' ⊢; rw [hr _ _ hp]; exact hr') hl
      | step hr' hb' _ ih => exact .step (by unfold rdB at hr' ⊢; rw [hr _ _ hp]; exact hr') ((hB _ _).2 hb') (ih (h.be _ _ hb'.1.1 hb'.1.2 hb'.2).2)
  constructor
  · rintro (h1 | ⟨p, hp, hw⟩)
    · exact .inl h1
    · exact .inr ⟨p, hp, (key p x (h.fi p hp).2).1 hw⟩
  · rintro (h1 | ⟨p, hp, hw⟩)
    · exact .inl h1
    · exact .inr ⟨p, hp, (key p x (h.fi p hp).2).2 hw⟩
theorem linkF_bit {beh : Nat → Nat} {L F p q : Nat} : (linkF beh L F p).testBit q = true ↔ (beh p).testBit q = true ∨ (L.testBit p = true ∧ F.testBit q = true) := by
  unfold linkF
  by_cases h : L.testBit p = true
  · rw [if_pos h, Nat.testBit_or, Bool.or_eq_true]; simp [h]
  · rw [if_neg h]; simp [h]
theorem StrOk.chain {rdr beh : Nat → Nat} {lo mid hi : Nat} {e1 e2 : Bool} {F1 L1 F2 L2 : Nat} {l1 l2 : List Nat → Prop} (h1 : StrOk rdr beh lo mid e1 F1 L1 l1) (h2 : StrOk rdr beh mid hi e2 F2 L2 l2) :
    StrOk rdr (linkF beh L1 F2) lo hi (e1 && e2) (if e1 then F1 ||| F2 else F1) (if e2 then L2 ||| L1 else L2) (Cat l1 l2) := by
  have hle1 := h1.le
  have hle2 := h2.le
  have hF : ∀ p, (if e1 then F1 ||| F2 else F1).testBit p = true ↔ F1.testBit p = true ∨ (e1 = true ∧ F2.testBit p = true) := by
    intro p; cases e1 <;> simp [Nat.testBit_or]
  have hL : ∀ p, (if e2 then L2 ||| L1 else L2).testBit p = true ↔ L2.testBit p = true ∨ (e2 = true ∧ L1.testBit p = true) := by
    intro p; cases e2 <;> simp [Nat.testBit_or]
  refine ⟨by omega, fun p hp => ?_, fun p hp => ?_, fun p q hp1 hp2 hb => ?_, fun x => ?_⟩
  · rcases (hF p).1 hp with h | ⟨_, h⟩
    · have := h1.fi p h; omega
    · have := h2.fi p h; omega
  · rcases (hL p).1 hp with h | ⟨_, h⟩
    · have := h2.la p h; omega
    · have := h1.la p h; omega
  · rcases linkF_bit.1 hb with h | ⟨_, h⟩
    · by_cases hm : p < mid
      · have := h1.be p q hp1 hm h; omega
      · have := h2.be p q (by omega) hp2 h; omega
    · have := h2.fi q h; omega
  · rw [← Cat.congr h1.ac h2.ac x, ← chain_acc h1.inn h2.inn rfl x]
    refine acc_congr ?_ hF hL (fun p q => ?_) x
    · show (e1 && e2) = true ↔ e1 = true ∧ e2 = true
      simp
    · show ((lo ≤ p ∧ p < hi) ∧ (linkF beh L1 F2 p).testBit q = true) ↔ ((lo ≤ p ∧ p < mid) ∧ (beh p).testBit q = true) ∨ ((mid ≤ p ∧ p < hi) ∧ (beh p).testBit q = true) ∨ (L1.testBit p = true ∧ F2.testBit q = true)
      rw [linkF_bit]
      constructor
      · rintro ⟨hp, h | h⟩
        · by_cases hm : p < mid
          · exact .inl ⟨⟨hp.1, hm⟩, h⟩
          · exact .inr (.inl ⟨⟨by omega, hp.2⟩, h⟩)
        · exact .inr (.inr h)
      · rintro (⟨hp, h⟩ | ⟨hp, h⟩ | h)
        · exact ⟨⟨hp.1, by omega⟩, .inl h⟩
        · exact ⟨⟨by omega, hp.2⟩, .inl h⟩
        · have := h1.la p h.1; exact ⟨⟨this.1, by omega⟩, .inr h⟩
theorem StrOk.alt {rdr beh : Nat → Nat} {lo mid hi : Nat} {e1 e2 : Bool} {F1 L1 F2 L2 : Nat} {l1 l2 : List Nat → Prop} (h1 : StrOk rdr beh lo mid e1 F1 L1 l1) (h2 : StrOk rdr beh mid hi e2 F2 L2 l2) :
    StrOk rdr beh lo hi (e1 || e2) (F1 ||| F2) (L1 ||| L2) (fun x => l1 x ∨ l2 x) := by
  have hle1 := h1.le
  have hle2 := h2.le
  refine ⟨by omega, fun p hp => ?_, fun p hp => ?_, fun p q hp1 hp2 hb => ?_, fun x => ?_⟩
  · rw [Nat.testBit_or, Bool.or_eq_true] at hp
    rcases hp with h | h
    · have := h1.fi p h; omega
    · have := h2.fi p h; omega
  · rw [Nat.testBit_or, Bool.or_eq_true] at hp
    rcases hp with h | h
    · have := h1.la p h; omega
    · have := h2.la p h; omega
  · by_cases hm : p < mid
    · have := h1.be p q hp1 hm hb; omega
    · have := h2.be p q (by omega) hp2 hb; omega
  · rw [← h1.ac x, ← h2.ac x, ← alt_acc h1.inn h2.inn rfl x]
    refine acc_congr ?_ (fun p => ?_) (fun p => ?_) (fun p q => ?_) x
    · show (e1 || e2) = true ↔ e1 = true ∨ e2 = true
      simp
    · show (F1 ||| F2).testBit p = true ↔ F1.testBit p = true ∨ F2.testBit p = true
      rw [Nat.testBit_or, Bool.or_eq_true]
    · show (L1 ||| L2).testBit p = true ↔ L1.testBit p = true ∨ L2.testBit p = true
      rw [Nat.testBit_or, Bool.or_eq_true]
    · show ((lo ≤ p ∧ p < hi) ∧ (beh p).testBit q = true) ↔ ((lo ≤ p ∧ p < mid) ∧ (beh p).testBit q = true) ∨ ((mid ≤ p ∧ p < hi) ∧ (beh p).testBit q = true)
      constructor
      · rintro ⟨hp, h⟩
        by_cases hm : p < mid
        · exact .inl ⟨⟨hp.1, hm⟩, h⟩
        · exact .inr ⟨⟨by omega, hp.2⟩, h⟩
      · rintro (⟨hp, h⟩ | ⟨hp, h⟩)
        · exact ⟨⟨hp.1, by omega⟩, h⟩
        · exact ⟨⟨by omega, hp.2⟩, h⟩
theorem StrOk.opt {rdr beh : Nat → Nat} {lo hi : Nat} {e : Bool} {F L : Nat} {l : List Nat → Prop} (h : StrOk rdr beh lo hi e F L l) : StrOk rdr beh lo hi true F L (fun x => x = [] ∨ l x) := by
  refine ⟨h.le, h.fi, h.la, h.be, fun x => ?_⟩
  rw [← h.ac x, ← opt_acc (s := bStr rdr beh lo hi e F L) x]
  refine acc_congr (s := bStr rdr beh lo hi true F L) (t := (bStr rdr beh lo hi e F L).free False) ?_ (fun p => Iff.rfl) (fun p => Iff.rfl) (fun p q => ?_) x
  · show true = true ↔ True
    simp
  · show ((lo ≤ p ∧ p < hi) ∧ (beh p).testBit q = true) ↔ ((lo ≤ p ∧ p < hi) ∧ (beh p).testBit q = true) ∨ (False ∧ _)
    simp
theorem StrOk.star {rdr beh : Nat → Nat} {lo hi : Nat} {e : Bool} {F L : Nat} {l : List Nat → Prop} (h : StrOk rdr beh lo hi e F L l) : StrOk rdr (linkF beh L F) lo hi true F L (Star l) := by
  refine ⟨h.le, h.fi, h.la, fun p q h1 h2 hb => ?_, fun x => ?_⟩
  · rcases linkF_bit.1 hb with hb | ⟨_, hb⟩
    · exact h.be p q h1 h2 hb
    · exact h.fi q hb
  · rw [← Star.congr h.ac x, ← star_acc (s := bStr rdr beh lo hi e F L) x]
    refine acc_congr (s := bStr rdr (linkF beh L F) lo hi true F L) (t := (bStr rdr beh lo hi e F L).free True) ?_ (fun p => Iff.rfl) (fun p => Iff.rfl) (fun p q => ?_) x
    · show true = true ↔ True
      simp
    · show ((lo ≤ p ∧ p < hi) ∧ (linkF beh L F p).testBit q = true) ↔ ((lo ≤ p ∧ p < hi) ∧ (beh p).testBit q = true) ∨ (True ∧ L.testBit p = true ∧ F.testBit q = true)
      rw [linkF_bit]
      constructor
      · rintro ⟨hp, hb | hb⟩
        · exact .inl ⟨hp, hb⟩
        · exact .inr ⟨trivial, hb⟩
      · rintro (⟨hp, hb⟩ | ⟨_, hb⟩)
        · exact ⟨hp, .inl hb⟩
        · exact ⟨h.la p hb.1, .inr hb⟩
theorem StrOk.nothing (rdr beh : Nat → Nat) (lo : Nat) : StrOk rdr beh lo lo true 0 0 (fun x => x = []) := by
  refine ⟨Nat.le_refl _, fun p hp => by simp at hp, fun p hp => by simp at hp, fun p q h1 h2 => by omega, fun x => ?_⟩
  rw [← nothing_acc (rdB rdr) lo x]
  refine acc_congr (s := bStr rdr beh lo lo true 0 0) (t := Str.nothing (rdB rdr) lo) ?_ (fun p => ?_) (fun p => ?_) (fun p q => ?_) x
  · show true = true ↔ True
    simp
  · show (0 : Nat).testBit p = true ↔ False
    simp
  · show (0 : Nat).testBit p = true ↔ False
    simp
  · show ((lo ≤ p ∧ p < lo) ∧ (beh p).testBit q = true) ↔ False
    constructor
    · rintro ⟨h, _⟩; omega
    · exact fun h => h.elim
theorem StrOk.spot {rdr beh : Nat → Nat} {lo : Nat} {S : Nat → Bool} (hb : beh lo = 0) (hr : ∀ c, (rdr c).testBit lo = S c) : StrOk rdr beh lo (lo + 1) false (2 ^ lo) (2 ^ lo) (Pat.one S).lang := by
  have hp : ∀ p, (2 ^ lo).testBit p = true ↔ p = lo := by
    intro p; rw [Nat.testBit_two_pow]; simp; exact ⟨fun h => h.symm, fun h => h.symm⟩
  refine ⟨by omega, fun p h => ?_, fun p h => ?_, fun p q h1 h2 h3 => ?_, fun x => ?_⟩
  · have := (hp p).1 h; omega
  · have := (hp p).1 h; omega
  · rw [show p = lo by omega, hb] at h3; simp at h3
  · rw [← spot_acc (rd := rdB rdr) (lo := lo) (S := S) (fun c => by unfold rdB; rw [hr c]) x]
    refine acc_congr (s := bStr rdr beh lo (lo + 1) false (2 ^ lo) (2 ^ lo)) (t := Str.spot (rdB rdr) lo) ?_ (fun p => ?_) (fun p => ?_) (fun p q => ?_) x
    · show false = true ↔ False
      simp
    · exact hp p
    · exact hp p
    · show ((lo ≤ p ∧ p < lo + 1) ∧ (beh p).testBit q = true) ↔ False
      constructor
      · rintro ⟨h, h3⟩
        rw [show p = lo by omega, hb] at h3; simp at h3
      · exact fun h => h.elim
theorem StrOk.copyMust {rdr beh : Nat → Nat} {lo hi : Nat} {e : Bool} {F L least i : Nat} {en : Bool} {l : List Nat → Prop} (h : StrOk rdr beh lo hi e F L l) (hi' : i < least) : StrOk rdr beh lo hi e F L (Copy l least i en) :=
  h.lcongr (fun x => by unfold Copy; rw [if_pos hi'])
theorem StrOk.copyOpt {rdr beh : Nat → Nat} {lo hi : Nat} {e : Bool} {F L least i : Nat} {l : List Nat → Prop} (h : StrOk rdr beh lo hi e F L l) (hi' : ¬ i < least) : StrOk rdr beh lo hi true F L (Copy l least i false) :=
  h.opt.lcongr (fun x => by unfold Copy; rw [if_neg hi', if_neg (by simp)])
theorem StrOk.copyStar {rdr beh : Nat → Nat} {lo hi : Nat} {e : Bool} {F L least i : Nat} {l : List Nat → Prop} (h : StrOk rdr beh lo hi e F L l) (hi' : ¬ i < least) : StrOk rdr (linkF beh L F) lo hi true F L (Copy l least i true) :=
  h.star.lcongr (fun x => by unfold Copy; rw [if_neg hi', if_pos rfl])
end Go.Proofs.Ytpngikmcjkjdaab

namespace Go.Proofs.Ytpngikmcjkjdaab
set_option linter.unusedVariables false
def swp (b x : Nat) : Nat := if x = b then 0 else if x = 0 then b else x
theorem swp_swp (b x : Nat) : swp b (swp b x) = x := by
  unfold swp
  by_cases h1 : x = b
  · subst h1; by_cases h2 : x = 0
    · simp [h2]
    · simp [Ne.symm h2]
  · by_cases h2 : x = 0
    · subst h2; simp [h1]
    · simp [h1, h2]
theorem swp_lt {b x n : Nat} (hb : b < n) (hx : x < n) : swp b x < n := by unfold swp; split <;> (try split) <;> omega
structure Mach where
  n : Nat
  beh : Nat → Nat
  rdr : Nat → Nat
  lasts : Nat
namespace Mach
variable (m : Mach)
def step (S c : Nat) : Nat := folF m.beh S m.n &&& m.rdr c
def succ (q c : Nat) : Nat := swp 1 (m.step (swp 1 q) c)
def good (q : Nat) : Prop := q < 2048
def tab (ps : List Nat) : Tab where
  n := ps.length
  acc k := swp 1 (ps.getD k 0) &&& m.lasts != 0
  nxt := pn m.succ ps
def lang (x : List Nat) : Bool := x.foldl m.step 1 &&& m.lasts != 0
variable {m}
theorem step_lt (hb : ∀ i, i < m.n → m.beh i < 2048) (S c : Nat) : m.step S c < 2048 := by
  have h1 := folF_lt (beh := m.beh) (S := S) hb
  have h2 : folF m.beh S m.n &&& m.rdr c ≤ folF m.beh S m.n := Nat.and_le_left
  unfold step
  omega
theorem succ_good (hb : ∀ i, i < m.n → m.beh i < 2048) (q c : Nat) : good (m.succ q c) := swp_lt (by omega) (step_lt hb _ c)
theorem bound {ps : List Nat} {p : Nat} (h : PRel good m.succ ps p) : ps.length ≤ 2048 := nodup_bound 2048 ps h.nd (fun x hx => h.inr x hx)
theorem numbered {ps : List Nat} (h : PRel good m.succ ps (8 * ps.length)) : Numbered (m.tab ps) where
  pos := h.len
  nx i c hi hc := by
    have := (h.clo (8 * i + c) (by have : i < ps.length := hi; omega)).2
    rw [show (8 * i + c) / 8 = i by omega, show (8 * i + c) % 8 = c by omega] at this
    exact List.idxOf_lt_length_of_mem this
  step p hp := h.num p hp
  row i hi := h.row i (by have : i < ps.length := hi; omega)
  all := h.cm
theorem tab_read {ps : List Nat} (h : PRel good m.succ ps (8 * ps.length)) (k : Nat) (hk : k < ps.length) (x : List Nat) (hx : Notes x) :
    (m.tab ps).read k x < ps.length ∧ swp 1 (ps.getD ((m.tab ps).read k x) 0) = x.foldl m.step (swp 1 (ps.getD k 0)) := by
  induction x generalizing k with
  | nil => exact ⟨hk, rfl⟩
  | cons c x ih =>
    have hc : c < 8 := hx c (by simp)
    have hx' : Notes x := fun d hd => hx d (by simp [hd])
    have hcl := (h.clo (8 * k + c) (by omega)).2
    rw [show (8 * k + c) / 8 = k by omega, show (8 * k + c) % 8 = c by omega] at hcl
    have hlt : (m.tab ps).nxt k c < ps.length := List.idxOf_lt_length_of_mem hcl
    have he : ps.getD ((m.tab ps).nxt k c) 0 = m.succ (ps.getD k 0) c := getD_idxOf ps _ hcl
    simp only [Tab.read, List.foldl_cons]
    have := ih _ hlt hx'
    rw [he] at this
    rw [show m.step (swp 1 (ps.getD k 0)) c = swp 1 (m.succ (ps.getD k 0) c) by unfold succ; rw [swp_swp]]
    exact this
theorem tab_accepts {ps : List Nat} (h : PRel good m.succ ps (8 * ps.length)) (x : List Nat) (hx : Notes x) : (m.tab ps).accepts x = m.lang x := by
  have := tab_read h 0 h.len x hx
  rw [h.hd] at this
  simp only [Tab.accepts]
  show (swp 1 (ps.getD ((m.tab ps).read 0 x) 0) &&& m.lasts != 0) = _
  rw [this.2]
  rfl
theorem and_ne {S L : Nat} : (S &&& L != 0) = true ↔ ∃ p, S.testBit p = true ∧ L.testBit p = true := by
  rw [bne_iff_ne]
  constructor
  · intro h
    obtain ⟨p, hp⟩ := Nat.exists_testBit_of_ne_zero h
    rw [Nat.testBit_and, Bool.and_eq_true] at hp
    exact ⟨p, hp⟩
  · rintro ⟨p, h1, h2⟩ e
    have : (S &&& L).testBit p = true := by rw [Nat.testBit_and, h1, h2]; rfl
    rw [e] at this
    simp at this
theorem foldl_step (m : Mach) (x : List Nat) (S : Nat) (P : Nat → Prop) (hP : ∀ p, S.testBit p = true ↔ P p) (q : Nat) : (x.foldl m.step S).testBit q = true ↔ (x.foldl (stepS (fun p q => p < m.n ∧ (m.beh p).testBit q = true) (rdB m.rdr)) P) q := by
  induction x generalizing S P with
  | nil => exact hP q
  | cons c x ih =>
    simp only [List.foldl_cons]
    refine ih _ _ (fun p => ?_)
    unfold step stepS rdB
    rw [Nat.testBit_and, Bool.and_eq_true, folF_bit]
    constructor
    · rintro ⟨⟨p0, h1, h2, h3⟩, h4⟩; exact ⟨h4, p0, (hP p0).1 h2, h1, h3⟩
    · rintro ⟨h4, p0, h2, h1, h3⟩; exact ⟨⟨p0, h1, (hP p0).2 h2, h3⟩, h4⟩
theorem lang_ok {rdr beh : Nat → Nat} {n : Nat} {e : Bool} {F L : Nat} {l : List Nat → Prop} (h : StrOk rdr beh 1 n e F L l) (h0 : beh 0 = 0) (x : List Nat) :
    lang ⟨n, linkF beh 1 F, rdr, if e then L ||| 1 else L⟩ x = true ↔ l x := by
  unfold lang
  rw [and_ne, ← h.ac x]
  have hn := h.le
  have b1 : ∀ p, (1 : Nat).testBit p = true ↔ p = 0 := by
    intro p
    rw [show (1 : Nat) = 2 ^ 0 from rfl, Nat.testBit_two_pow]; simp; exact ⟨fun h => h.symm, fun h => h.symm⟩
  rw [← ahead_acc (s := bStr rdr beh 1 n e F L) (B := fun p q => p < n ∧ (linkF beh 1 F p).testBit q = true) (L := fun p => (if e then L ||| 1 else L).testBit p = true) (a := 0) h.inn (by show 0 < 1; omega) (fun p q => ?_) (fun p => ?_) x]
  · constructor
    · rintro ⟨p, h1, h2⟩; exact ⟨p, (foldl_step _ x 1 (fun p => p = 0) b1 p).1 h1, h2⟩
    · rintro ⟨p, h1, h2⟩; exact ⟨p, (foldl_step _ x 1 (fun p => p = 0) b1 p).2 h1, h2⟩
  · show (p < n ∧ (linkF beh 1 F p).testBit q = true) ↔ (p = 0 ∧ F.testBit q = true) ∨ ((1 ≤ p ∧ p < n) ∧ (beh p).testBit q = true)
    rw [linkF_bit, b1 p]
    constructor
    · rintro ⟨h1, h2 | h2⟩
      · by_cases hp : p = 0
        · rw [hp, h0] at h2; simp at h2
        · exact .inr ⟨⟨by omega, h1⟩, h2⟩
      · exact .inl h2
    · rintro (⟨h1, h2⟩ | ⟨h1, h2⟩)
      · exact ⟨by omega, .inr ⟨h1, h2⟩⟩
      · exact ⟨h1.2, .inl h2⟩
  · show (if e then L ||| 1 else L).testBit p = true ↔ (p = 0 ∧ e = true) ∨ L.testBit p = true
    cases e
    · simp
    · simp only [if_true, Nat.testBit_or, Bool.or_eq_true, b1 p]
      constructor
      · rintro (h1 | h1)
        · exact .inr h1
        · exact .inl ⟨h1, trivial⟩
      · rintro (⟨h1, _⟩ | h1)
        · exact .inr h1
        · exact .inl h1
end Mach
end Go.Proofs.Ytpngikmcjkjdaab

namespace Go.Proofs.Ytpngikmcjkjdaab
open Go.RowKit
set_option linter.unusedVariables false
structure MachAt (w : World) (bm : Nat) (vb : Value) (n : Nat) (beh rdr : Nat → Nat) : Prop where
  blk : w.rowIs bm 115 9 (fun i => if i = 0 then vb else .int .i64 ((rdr (i - 1) : Nat) : Int))
  own : w.ownsRow (bm + 1) 3 1 vb n (icells beh n)
  lb : ∀ i, i < n → beh i < 2048
  lr : ∀ c, c < 8 → rdr c < 2048
def bools8 (f : Nat → Bool) : Array Value := #[.bool (f 0), .bool (f 1), .bool (f 2), .bool (f 3), .bool (f 4), .bool (f 5), .bool (f 6), .bool (f 7)]
theorem bools8_is {w : World} {b t : Nat} {f : Nat → Bool} (h : w.heap[b]? = some (.cells (bools8 f) t (0, 0))) : w.rowIs b t 8 (fun i => .bool (f i)) := by
  refine ⟨_, h, rfl, fun i hi => ?_⟩
  rcases (show i = 0 ∨ i = 1 ∨ i = 2 ∨ i = 3 ∨ i = 4 ∨ i = 5 ∨ i = 6 ∨ i = 7 by omega) with rfl | rfl | rfl | rfl | rfl | rfl | rfl | rfl <;> rfl
theorem MachAt.below {w w1 : World} {bm : Nat} {vb : Value} {n : Nat} {beh rdr : Nat → Nat} (h : MachAt w bm vb n beh rdr) (hb : Below w.heap.size w w1) : MachAt w1 bm vb n beh rdr :=
  ⟨h.blk.of_block (hb.block _ h.blk.lt), ownsRow_below h.own hb, h.lb, h.lr⟩
set_option maxRecDepth 20000 in
set_option maxHeartbeats 2000000 in
theorem addSpot_ok (bm : Nat) (vb : Value) (n : Nat) (beh rdr : Nat → Nat) (f : Nat → Bool) (w : World) (hn : n < 11) (h : MachAt w bm vb n beh rdr) :
    Calls Try.prog 70 #[.pointer (some ⟨bm, 0, none⟩), .agg (bools8 f)] w
      fun e w' => e = .returned (.int .i64 ((2 ^ n : Nat) : Int)) ∧ ∃ vb', MachAt w' bm vb' (n + 1) (fun i => if i = n then 0 else beh i) (fun c => if f c then rdr c ||| 2 ^ n else rdr c) ∧ Touch (fun b => b = bm ∨ vb.ownBlock = some b) w w' ∧ (∀ g, vb'.ownBlock = some g → vb.ownBlock = some g ∨ w.heap.size ≤ g) := by
  obtain ⟨i3, hi3, hz3, hz31, hz32⟩ := info_parts Try.info3
  obtain ⟨W, hW⟩ : ∃ W, W = w.alloc (.cells (bools8 f) 88) := ⟨_, rfl⟩
  have BW : Below w.heap.size w W := by rw [hW]; exact (Below.refl _ _).alloc (Nat.le_refl _) _
  have hWs : W.heap.size = w.heap.size + 1 := by rw [hW]; simp
  have b0 : W.heap[w.heap.size]? = some (.cells (bools8 f) 88 (0, 0)) := by rw [hW]; exact heap_at_new rfl
  have h1 := h.below BW
  have x0 := h1.blk.cell (i := 0) (by omega)
  have x1 := h1.blk.frozen 0
  simp only [if_true] at x0
  obtain ⟨ao, cap, rfl, hao⟩ := ownsRow_shape h1.own
  have hpw := wrap64_pow n (by omega)
  have hbl := h1.blk.lt
  go_enter Try.func70, Try.ntmps70
  go_upto_region 1 with fail
  rw [← hW]
  clear hW
  have HPa : Hid (MachAt (W.alloc (.cells #[.int .i64 0] 3)) bm (.slice ao n cap) n beh rdr) := h1.below ((Below.refl _ _).alloc (Nat.le_refl _) _)
  have hna := HPa.out.own
  have hbm : bm < w.heap.size := h.blk.lt
  have HG : Hid (∀ g cap' w2, w2.ownsRow (bm + 1) 3 1 (.slice (some ⟨g, 0, none⟩) (n + 1) cap') (n + 1) (icells beh n ++ [.int .i64 0]) → (W.alloc (.cells #[.int .i64 0] 3)).grownBy w2 (Value.slice ao n cap).ownBlock → ((Value.slice ao n cap).ownBlock = some g ∨ g = (W.alloc (.cells #[.int .i64 0] 3)).heap.size) →
      w2.cell? ⟨bm, 0, none⟩ = some (.slice ao n cap) ∧ w2.frozen? ⟨bm, 0, none⟩ = false ∧
      Hid (MachAt (w2.setCell ⟨bm, 0, none⟩ (.slice (some ⟨g, 0, none⟩) (n + 1) cap')) bm (.slice (some ⟨g, 0, none⟩) (n + 1) cap') (n + 1) (fun i => if i = n then 0 else beh i) rdr) ∧
      Hid (Touch (fun b => b = bm ∨ (Value.slice ao n cap).ownBlock = some b) w (w2.setCell ⟨bm, 0, none⟩ (.slice (some ⟨g, 0, none⟩) (n + 1) cap'))) ∧ Hid ((w2.setCell ⟨bm, 0, none⟩ (.slice (some ⟨g, 0, none⟩) (n + 1) cap')).rowIs w.heap.size 88 8 (fun i => .bool (f i))) ∧ Hid (g ≠ w.heap.size)) := by
    intro g cap' w2 ho hg hf
    have hm := HPa.out
    have hlt := fun k (e : (Value.slice ao n cap).ownBlock = some k) => hm.own.lt k e
    have hlt0 := fun k (e : (Value.slice ao n cap).ownBlock = some k) => h.own.lt k e
    have hblk := rowIs_grown hm.blk hg (fun e => by have := (hlt _ e).1; omega)
    have hnot := rowIs_grown ((bools8_is b0).alloc (.cells #[.int .i64 0] 3)) hg (fun e => by have := (hlt0 _ e).2; omega)
    have hgn : g ≠ w.heap.size := by
      rcases hf with hf | hf
      · have := (hlt0 g hf).2; omega
      · rw [hf]; simp; omega
    have e1 : icells beh n ++ [.int .i64 0] = icells (fun i => if i = n then 0 else beh i) (n + 1) := by
      rw [icells_succ]
      congr 1
      · simp only [icells]; apply List.map_congr_left; intro j hj
        have : j < n := by simpa using hj
        rw [if_neg (by omega)]
      · simp
    rw [e1] at ho
    have hx := hblk.cell (i := 0) (by omega)
    simp only [if_true] at hx
    refine ⟨hx, hblk.frozen 0, ⟨(hblk.set 0 _).congr (fun j _ => ?_), ownsRow_setCell_below ho (by simp) _, fun j hj => ?_, h.lr⟩, ?_, hnot.setOther (by simp; omega) _, hgn⟩
    · by_cases e : j = 0
      · simp [e]
      · simp [e]
    · by_cases e : j = n
      · simp [e]
      · simp only [if_neg e]; exact h.lb j (by omega)
    · have t0 : Touch (fun b => b = bm ∨ (Value.slice ao n cap).ownBlock = some b) w (W.alloc (.cells #[.int .i64 0] 3)) := by
        refine ⟨?_, ?_, ?_, ?_, fun k hk _ => ?_⟩
        · exact BW.os
        · exact BW.tape
        · exact BW.output
        · simp; omega
        · exact (Below.heap_alloc W _ k (by omega)).trans (BW.block k hk)
      exact (t0.grown hg (fun k e => .inl (.inr e))).set _ _ (.inl (.inl rfl))
  have hWl : w.heap.size + 1 ≤ W.heap.size := by omega
  clear hWs
  go_wp2_with (at_builtin; refine wpList_append_fresh _ rfl _ _ 22 rfl (bm + 1) 3 i3 (.int .i64 0) 1 8 Try.underlying22 hi3 hz3 hz31 hz32 rfl (by decide) _ n (icells beh n) rfl hna ⟨W.heap.size, 0, none⟩ 1 1 [.int .i64 0] rfl rfl (cell_one_new _ _ _) (by intro u hu; simp at hu; subst hu; rfl) (by decide) (by unfold maxLen; omega) (by omega) (by simp; omega) ?_; intro g cap' w2 hown hgr hfr; obtain ⟨f0, f1, HM, HTo, HNo, HGn⟩ := HG.out g cap' w2 hown hgr hfr; have HFR : Hid _ := hfr; clear hown hgr hfr)
  clear HG HPa hna f0 f1 x0 x1
  generalize w2.setCell ⟨bm, 0, none⟩ (.slice (some ⟨g, 0, none⟩) (n + 1) cap') = W3 at HM HTo HNo ⊢
  have h2n : 2 ^ n < 2048 := Nat.pow_lt_pow_of_lt (a := 2) (n := n) (m := 11) (by omega) hn
  go_loopw [6] (fun k' wr => ∃ k : Nat, k ≤ 8 ∧ k' = .int .i64 k ∧ MachAt wr bm (.slice (some ⟨g, 0, none⟩) (n + 1) cap') (n + 1) (fun i => if i = n then 0 else beh i) (fun c => if c < k ∧ f c = true then rdr c ||| 2 ^ n else rdr c) ∧ Touch (fun b => b = bm ∨ (Value.slice ao n cap).ownBlock = some b) w wr ∧ wr.rowIs w.heap.size 88 8 (fun i => .bool (f i)))
    (fun k' _ => 8 - (intOf k').toNat)
  case atStart => exact ⟨0, by omega, rfl, ⟨HM.out.blk.congr (fun j _ => by simp), HM.out.own, HM.out.lb, fun c hc => by simpa using HM.out.lr c hc⟩, HTo.out, HNo.out⟩
  case round =>
    clear HM HTo HNo
    obtain ⟨k, hk, rfl, hM, hT, hN⟩ := hrel
    by_cases hlt : k < 8
    · have c0 := hN.cell (i := k) hlt
      have c1 := hM.blk.cell (i := 1 + k) (by omega)
      have c2 := hM.blk.frozen (1 + k)
      rw [if_neg (by omega), show 1 + k - 1 = k by omega] at c1
      simp only [Nat.lt_irrefl, false_and, if_false] at c1
      have hrk : rdr k < 2048 := h.lr k hlt
      have hor := bits_or_i64 (rdr k) (2 ^ n) hrk h2n
      have hlo : rdr k ||| 2 ^ n < 2 ^ 11 := Nat.or_lt_two_pow (by omega) (by omega)
      obtain ⟨on, HON⟩ : ∃ x, Hid (rdr k ||| 2 ^ n = x) := ⟨_, rfl⟩
      rw [HON.out] at hor hlo
      rw [show ((2 ^ n : Nat) : Int) = (2 : Int) ^ n by simp] at hor
      obtain ⟨fk, HFK⟩ : ∃ x, Hid (f k = x) := ⟨_, rfl⟩
      rw [HFK.out] at c0
      have HM : Hid (MachAt wr bm (.slice (some ⟨g, 0, none⟩) (n + 1) cap') (n + 1) (fun i => if i = n then 0 else beh i) (fun c => if c < k ∧ f c = true then rdr c ||| 2 ^ n else rdr c)) := hM
      have HT : Hid (Touch (fun b => b = bm ∨ (Value.slice ao n cap).ownBlock = some b) w wr) := hT
      have HN : Hid (wr.rowIs w.heap.size 88 8 (fun i => .bool (f i))) := hN
      clear hM hT hN
      cases fk
      · go_wp2_with fail
        go_roundw
        case rel =>
          have e : ∀ c, (if c < k ∧ f c = true then rdr c ||| 2 ^ n else rdr c) = (if c < k + 1 ∧ f c = true then rdr c ||| 2 ^ n else rdr c) := by
            intro c
            by_cases ec : c = k
            · subst ec; simp [HFK.out]
            · have : (c < k) = (c < k + 1) := by apply propext; omega
              simp only [this]
          exact ⟨k + 1, by omega, by go_num, ⟨HM.out.blk.congr (fun j _ => by rw [e (j - 1)]), HM.out.own, HM.out.lb, fun c hc => by rw [← e c]; exact HM.out.lr c hc⟩, HT.out, HN.out⟩
        case measure => simp [intOf]; omega
      · go_wp2_with fail
        go_region
        go_wp2_with fail
        go_roundw
        case rel =>
          have hm := HM.out
          have hTd : Touch (fun b => b = bm ∨ (Value.slice ao n cap).ownBlock = some b) w ((wr.setCell ⟨bm, 1 + k, none⟩ (.int .i64 (on : Int))).drew) := by
            have ht := HT.out.set ⟨bm, 1 + k, none⟩ (.int .i64 (on : Int)) (.inl (.inl rfl))
            exact ⟨ht.os, ht.tape, ht.output, ht.size, ht.block⟩
          refine ⟨k + 1, by omega, by go_num, ⟨(hm.blk.set (1 + k) (.int .i64 (on : Int))).congr (fun j _ => ?_), ownsRow_setCell_below hm.own (by simp) _, hm.lb, fun c hc => ?_⟩, hTd, HN.out.setOther (by simp; omega) _⟩
          · by_cases ej : j = 1 + k
            · subst ej
              rw [if_pos rfl, if_neg (by omega), show 1 + k - 1 = k by omega, if_pos ⟨Nat.lt_succ_self k, HFK.out⟩, HON.out]
            · rw [if_neg ej]
              by_cases ej0 : j = 0
              · simp [ej0]
              · rw [if_neg ej0, if_neg ej0]
                have : (j - 1 < k) = (j - 1 < k + 1) := by apply propext; omega
                simp only [this]
          · by_cases ec : c = k
            · subst ec
              rw [if_pos ⟨Nat.lt_succ_self c, HFK.out⟩, HON.out]; omega
            · have h1 := hm.lr c hc
              have : (c < k) = (c < k + 1) := by apply propext; omega
              simp only [this] at h1
              exact h1
        case measure => simp [intOf]; omega
    · have he : k = 8 := by omega
      subst he
      have HM : Hid (MachAt wr bm (.slice (some ⟨g, 0, none⟩) (n + 1) cap') (n + 1) (fun i => if i = n then 0 else beh i) (fun c => if f c = true then rdr c ||| 2 ^ n else rdr c)) := by
        have e : ∀ c, c < 8 → (if c < 8 ∧ f c = true then rdr c ||| 2 ^ n else rdr c) = (if f c = true then rdr c ||| 2 ^ n else rdr c) := by
          intro c hc; simp [hc]
        exact ⟨hM.blk.congr (fun j hj => by
          by_cases ej : j = 0
          · simp [ej]
          · rw [if_neg ej, if_neg ej, e (j - 1) (by omega)]), hM.own, hM.lb, fun c hc => by rw [← e c hc]; exact hM.lr c hc⟩
      have HT : Hid (Touch (fun b => b = bm ∨ (Value.slice ao n cap).ownBlock = some b) w wr) := hT
      clear hM hT hN
      go_wp2_with fail
      go_ret
      refine ⟨by simp, (.slice (some ⟨g, 0, none⟩) (n + 1) cap'), HM.out, HT.out, fun g' hg' => ?_⟩
      simp only [Value.ownBlock, Option.some.injEq] at hg'
      subst hg'
      rcases HFR.out with hf | hf
      · exact .inl hf
      · right; rw [hf]; simp; omega
end Go.Proofs.Ytpngikmcjkjdaab

namespace Go.Proofs.Ytpngikmcjkjdaab
open Go.RowKit
set_option linter.unusedVariables false
theorem zero_met2 (w : World) : Sem.run Try.prog (zeroValue 147) w = .ok (.agg (zs 2048)) w := by kernel_rfl
def setcells (ps : List Nat) : List Value := ps.map fun q => .int .i64 ((swp 1 q : Nat) : Int)
theorem setcells_snoc (ps : List Nat) (q : Nat) : setcells ps ++ [.int .i64 ((swp 1 q : Nat) : Int)] = setcells (ps ++ [q]) := by simp [setcells]
theorem setcells_at (ps : List Nat) (k : Nat) (hk : k < ps.length) : (setcells ps)[k]? = some (.int .i64 ((swp 1 (ps.getD k 0) : Nat) : Int)) := by
  simp [setcells, List.getD_eq_getElem?_getD, hk]
structure SetMem (W : World) (B : Nat) (w : World) (ps : List Nat) (vp va vn : Value) (k k' : Nat) (xa xn : List Value) : Prop where
  blw : Below B W w
  blk : w.heap[B]? = some (.cells #[va, vn] 125 (0, 0))
  met : w.rowIs (B + 1) 147 2048 (fun S => .int .i64 (metv ps (swp 1 S) : Nat))
  own0 : w.ownsRow (B + 1 + 1) 4 1 va k xa
  own1 : w.ownsRow (B + 1 + 1) 113 8 vn k' xn
  own2 : w.ownsRow (B + 1 + 1) 3 1 vp ps.length (setcells ps)
structure SetRound (W : World) (B H : Nat) (w : World) (ps : List Nat) (vp va vn : Value) (k : Nat) (xa xn : List Value) (r : Nat → Nat) : Prop where
  mem : SetMem W B w ps vp va vn k k xa xn
  rw : w.rowIs H 113 8 (fun c => .int .i64 (r c : Nat))
  lo : B + 1 + 1 ≤ H
  dp : ∀ g, vp.ownBlock = some g → g ≠ H
  da : ∀ g, va.ownBlock = some g → g < H
  dn : ∀ g, vn.ownBlock = some g → g < H
section
variable {W : World} {B H : Nat} {w w2 : World} {ps : List Nat} {vp va vn : Value} {k : Nat} {xa xn : List Value} {r : Nat → Nat}
theorem SetMem.below {k' : Nat} (h : SetMem W B w ps vp va vn k k' xa xn) (hb : Below w.heap.size w w2) : SetMem W B w2 ps vp va vn k k' xa xn where
  blw := h.blw.trans (hb.mono (by have := heap_lt h.blk; omega))
  blk := (hb.block _ (heap_lt h.blk)).trans h.blk
  met := h.met.of_block (hb.block _ h.met.lt)
  own0 := ownsRow_below h.own0 hb
  own1 := ownsRow_below h.own1 hb
  own2 := ownsRow_below h.own2 hb
theorem SetRound.below (h : SetRound W B H w ps vp va vn k xa xn r) (hb : Below w.heap.size w w2) : SetRound W B H w2 ps vp va vn k xa xn r :=
  ⟨h.mem.below hb, h.rw.of_block (hb.block _ h.rw.lt), h.lo, h.dp, h.da, h.dn⟩
theorem SetRound.grown (h : SetRound W B H w ps vp va vn k xa xn r) {q g cap : Nat} (hown : w2.ownsRow (B + 1 + 1) 3 1 (.slice (some ⟨g, 0, none⟩) (ps.length + 1) cap) (ps.length + 1) (setcells (ps ++ [q])))
    (hg : w.grownBy w2 vp.ownBlock) (hf : vp.ownBlock = some g ∨ g = w.heap.size) :
    Below B W w2 ∧ w2.heap[B]? = some (.cells #[va, vn] 125 (0, 0)) ∧ w2.rowIs (B + 1) 147 2048 (fun S => .int .i64 (metv ps (swp 1 S) : Nat)) ∧
      w2.ownsRow (B + 1 + 1) 4 1 va k xa ∧ w2.ownsRow (B + 1 + 1) 113 8 vn k xn ∧
      w2.rowIs H 113 8 (fun c => .int .i64 (r c : Nat)) ∧ g ≠ H := by
  have hm := h.mem
  have hsz := heap_lt hm.blk
  have hlt := fun x e => hm.own2.lt x e
  have hH1 := h.rw.lt
  refine ⟨hm.blw.grown hg (by omega) (fun x e => by have := (hlt x e).1; omega), ?_, rowIs_grown hm.met hg (fun e => by have := (hlt _ e).1; omega), ?_, ?_, rowIs_grown h.rw hg (fun e => h.dp _ e rfl), ?_⟩
  · rw [hg.block _ hsz (fun e => by have := (hlt _ e.symm).1; omega)]; exact hm.blk
  · refine hm.own0.kept hg ?_
    cases hv : va.ownBlock with
    | none => exact .inl rfl
    | some x => exact .inr (fun e => own_apart hm.own0 hm.own2 (by decide) x hv e.symm)
  · refine hm.own1.kept hg ?_
    cases hv : vn.ownBlock with
    | none => exact .inl rfl
    | some x => exact .inr (fun e => own_apart hm.own1 hm.own2 (by decide) x hv e.symm)
  · rcases hf with hf | rfl
    · exact h.dp g hf
    · omega
theorem SetRound.new (h : SetRound W B H w ps vp va vn k xa xn r) {S g cap c : Nat} (hq : swp 1 S ∉ ps) (hown : w2.ownsRow (B + 1 + 1) 3 1 (.slice (some ⟨g, 0, none⟩) (ps.length + 1) cap) (ps.length + 1) (setcells (ps ++ [swp 1 S])))
    (hg : w.grownBy w2 vp.ownBlock) (hf : vp.ownBlock = some g ∨ g = w.heap.size) :
    SetRound W B H ((w2.setCell ⟨B + 1, S, none⟩ (.int .i64 ((ps.length : Int) + 1))).setCell ⟨H, c, none⟩ (.int .i64 (ps.length : Int))) (ps ++ [swp 1 S]) (.slice (some ⟨g, 0, none⟩) (ps.length + 1) cap) va vn k xa xn (fun x => if x = c then ps.length else r x) := by
  obtain ⟨g1, g2, g3, g4, g5, g7, g8⟩ := h.grown hown hg hf
  have hlo := h.lo
  refine ⟨⟨(g1.setCell (p := ⟨B + 1, S, none⟩) (by simp) _).setCell (p := ⟨H, c, none⟩) (by simp; omega) _, heap_set_other (heap_set_other g2 (by simp)) (by simp; omega), ?_, ?_, ?_, ?_⟩,
    ?_, h.lo, ?_, h.da, h.dn⟩
  · refine ((g3.set S _).setOther (by simp; omega) _).congr (fun x _ => ?_)
    rw [metv_new ps (swp 1 S) (swp 1 x) hq]
    by_cases e : x = S
    · simp [e]
    · have e' : swp 1 x ≠ swp 1 S := fun h => e (by rw [← swp_swp 1 x, h, swp_swp])
      simp [e, e']
  · exact ownsRow_set (ownsRow_set g4 _ _ (fun x hx => by have := (g4.lt x hx).1; simp; omega)) _ _ (fun x hx => by have := h.da x hx; simp; omega)
  · exact ownsRow_set (ownsRow_set g5 _ _ (fun x hx => by have := (g5.lt x hx).1; simp; omega)) _ _ (fun x hx => by have := h.dn x hx; simp; omega)
  · simp only [List.length_append, List.length_singleton]
    exact ownsRow_set (ownsRow_set hown _ _ (fun x hx => by have := (hown.lt x hx).1; simp; omega)) _ _ (fun x hx => by simp only [Value.ownBlock, Option.some.injEq] at hx; subst hx; simpa using g8)
  · refine ((g7.setOther (a := ⟨B + 1, S, none⟩) (by simp; omega) _).set c _).congr (fun x _ => ?_)
    by_cases e : x = c
    · simp [e]
    · simp [e]
  · intro x hx
    simp only [Value.ownBlock, Option.some.injEq] at hx; subst hx; exact g8
theorem SetRound.old (h : SetRound W B H w ps vp va vn k xa xn r) {c v : Nat} :
    SetRound W B H (w.setCell ⟨H, c, none⟩ (.int .i64 (v : Int))) ps vp va vn k xa xn (fun x => if x = c then v else r x) := by
  have hm := h.mem
  have hlo := h.lo
  refine ⟨⟨hm.blw.setCell (p := ⟨H, c, none⟩) (by simp; omega) _, heap_set_other hm.blk (by simp; omega), hm.met.setOther (by simp; omega) _, ?_, ?_, ?_⟩, ?_, h.lo, h.dp, h.da, h.dn⟩
  · exact ownsRow_set hm.own0 _ _ (fun x hx => by have := h.da x hx; simp; omega)
  · exact ownsRow_set hm.own1 _ _ (fun x hx => by have := h.dn x hx; simp; omega)
  · exact ownsRow_set hm.own2 _ _ (fun x hx => by have := h.dp x hx; simpa using this)
  · refine (h.rw.set c _).congr (fun x _ => ?_)
    by_cases e : x = c
    · simp [e]
    · simp [e]
theorem SetRound.add (h : SetRound W B H w ps vp va vn k xa xn r) {va' vn' : Value} {ya yn : List Value} (hb : w2.heap[B]? = some (.cells #[va', vn'] 125 (0, 0)))
    (h0 : w2.ownsRow (B + 1 + 1) 4 1 va' (k + 1) ya) (h1 : w2.ownsRow (B + 1 + 1) 113 8 vn' (k + 1) yn)
    (ht : Touch (fun b => b = B ∨ va.ownBlock = some b ∨ vn.ownBlock = some b) w w2) : SetMem W B w2 ps vp va' vn' (k + 1) (k + 1) ya yn := by
  have hm := h.mem
  have hsz := heap_lt hm.blk
  refine ⟨ht.below hm.blw (by omega) ?_, hb, ht.row hm.met ?_, h0, h1, ht.own hm.own2 ?_⟩
  · rintro x (rfl | e | e)
    · omega
    · have := (hm.own0.lt _ e).1; omega
    · have := (hm.own1.lt _ e).1; omega
  · rintro (e | e | e)
    · omega
    · have := (hm.own0.lt _ e).1; omega
    · have := (hm.own1.lt _ e).1; omega
  · rintro g hg (rfl | e | e)
    · have := (hm.own2.lt _ hg).1; omega
    · exact own_apart hm.own2 hm.own0 (by decide) g hg e
    · exact own_apart hm.own2 hm.own1 (by decide) g hg e
theorem SetRound.rcongr (h : SetRound W B H w ps vp va vn k xa xn r) {r' : Nat → Nat} (e : ∀ x, x < 8 → r x = r' x) : SetRound W B H w ps vp va vn k xa xn r' :=
  ⟨h.mem, h.rw.congr (fun x hx => by rw [e x hx]), h.lo, h.dp, h.da, h.dn⟩
end
end Go.Proofs.Ytpngikmcjkjdaab

namespace Go.Proofs.Ytpngikmcjkjdaab
open Go.RowKit
set_option linter.unusedVariables false
set_option linter.unusedSimpArgs false
theorem acells_mach {m : Mach} {ps : List Nat} {q k : Nat} (hk : k ≤ ps.length) : acells (m.tab (ps ++ [q])).acc k = acells (m.tab ps).acc k := by
  induction k with
  | zero => rfl
  | succ k ih =>
    simp only [acells]
    rw [ih (by omega)]
    simp only [Mach.tab]
    rw [getD_app _ _ _ (by omega)]
theorem and_ne_int (S L : Nat) (hS : S < 2048) (hL : L < 2048) : (bits BinOp.and IntKind.i64 (S : Int) (L : Int) != 0) = (S &&& L != 0) := by
  rw [bits_and_i64 S L (by omega) (by omega), Bool.eq_iff_iff]
  simp
set_option maxRecDepth 20000 in
set_option maxHeartbeats 2000000 in
theorem mwiden_ok (bm gb n cap : Nat) (beh rdr : Nat → Nat) (lasts : Nat) (w : World) (hn : n ≤ 11) (hn1 : 1 ≤ n) (hL : lasts < 2048) (h : MachAt w bm (.slice (some ⟨gb, 0, none⟩) n cap) n beh rdr) :
    Calls Try.prog 73 #[.pointer (some ⟨bm, 0, none⟩), .int .i64 1, .int .i64 lasts] w
      fun e w' => Below w.heap.size w w' ∧ ∃ ps gw ga ca gn cn, PRel Mach.good (Mach.succ ⟨n, beh, rdr, lasts⟩) ps (8 * ps.length) ∧ e = .returned (.pointer (some ⟨gw, 0, none⟩)) ∧ WideAt w' gw ga ca gn cn (Mach.tab ⟨n, beh, rdr, lasts⟩ ps) := by
  have hz := zero_met2
  obtain ⟨m, HMM⟩ : ∃ m : Mach, Hid ((⟨n, beh, rdr, lasts⟩ : Mach) = m) := ⟨_, rfl⟩
  rw [HMM.out]
  obtain ⟨i3, hi3, hz3, hz31, hz32⟩ := info_parts Try.info3
  have Hmn : Hid (m.n = n) := by unfold Hid; rw [← HMM.out]
  have Hmb : Hid (m.beh = beh) := by unfold Hid; rw [← HMM.out]
  have Hmr : Hid (m.rdr = rdr) := by unfold Hid; rw [← HMM.out]
  have Hml : Hid (m.lasts = lasts) := by unfold Hid; rw [← HMM.out]
  have hbl : ∀ i, i < m.n → m.beh i < 2048 := by rw [Hmn.out, Hmb.out]; exact h.lb
  obtain ⟨W0, hW0⟩ : ∃ W, W = (w.alloc (.cells #[.slice none 0 0, .slice none 0 0] 125)).alloc (.cells (zs 2048) 147) := ⟨_, rfl⟩
  have BW0 : Below w.heap.size w W0 := by
    rw [hW0]; exact ((Below.refl _ _).alloc (Nat.le_refl _) _).alloc (by simp) _
  have hW0s : W0.heap.size = w.heap.size + 1 + 1 := by rw [hW0]; simp
  have b3 : W0.heap[w.heap.size]? = some (.cells #[.slice none 0 0, .slice none 0 0] 125 (0, 0)) := by rw [hW0]; exact heap_at_old (heap_at_new (by simp))
  have b4 : W0.heap[w.heap.size + 1]? = some (.cells (zs 2048) 147 (0, 0)) := by rw [hW0]; exact heap_at_new (by simp)
  have r4 : W0.rowIs (w.heap.size + 1) 147 2048 (fun _ => .int .i64 0) := ⟨_, b4, by simp [zs], fun i hi => by simp [zs, hi]⟩
  have s0 := r4.cell (i := 1) (by omega)
  have s1 := r4.frozen 1
  have R4 : Hid (W0.rowIs (w.heap.size + 1) 147 2048 (fun _ => .int .i64 0)) := r4
  clear r4 b4
  go_enter Try.func73, Try.ntmps73
  go_upto_region 3 with fail
  rw [← hW0]
  clear hW0 hz
  go_wp2_with fail
  clear s0 s1
  obtain ⟨W2, hW2⟩ : ∃ W, W = (W0.setCell ⟨w.heap.size + 1, 1, none⟩ (.int .i64 1)).alloc (.cells #[.int .i64 1] 3) := ⟨_, rfl⟩
  have P0 : SetMem W0 w.heap.size W2 [0] (.slice (some ⟨w.heap.size + 1 + 1, 0, none⟩) 1 1) (.slice none 0 0) (.slice none 0 0) 0 0 [] [] := by
    rw [hW2]
    refine ⟨((Below.refl _ _).setCell (p := ⟨w.heap.size + 1, 1, none⟩) (by simp) _).alloc (by simp; omega) _, heap_at_old (heap_set_other b3 (by simp)), ?_, World.ownsRow_nil _ _ _ _, World.ownsRow_nil _ _ _ _, ?_⟩
    · refine ((R4.out.set 1 (.int .i64 1)).congr (fun S _ => ?_)).alloc _
      by_cases e : S = 1
      · subst e; simp [metv, swp]
      · have : swp 1 S ≠ 0 := by unfold swp; rw [if_neg e]; split <;> omega
        simp [metv, e, this]
    · have h := World.ownsRow_lit (base := w.heap.size + 1 + 1) (e := 3) (size := 1) (W0.setCell ⟨w.heap.size + 1, 1, none⟩ (.int .i64 1)) #[.int .i64 1] 1 (by simp; omega) (by decide) rfl
      have hsz : (W0.setCell ⟨w.heap.size + 1, 1, none⟩ (.int .i64 1)).heap.size = W0.heap.size := by simp
      rw [hsz, hW0s] at h
      exact h
  rw [← hW2]
  clear hW2 R4 b3
  have hbig : ∀ qs r, PRel Mach.good m.succ qs r → qs.length ≤ 2048 := fun qs r h => Mach.bound h
  have hbm : bm < w.heap.size := h.blk.lt
  have hgb : gb < w.heap.size := (h.own.lt gb rfl).2
  have HMA : Hid (∀ wr, Below w.heap.size w wr → MachAt wr bm (.slice (some ⟨gb, 0, none⟩) n cap) n beh rdr) := fun wr hb => h.below hb
  have hlb := h.lb
  have hlr := h.lr
  clear h
  go_loopw [9, 10, 11, 12, 13, 14] (fun vs k' _ _ _ _ wr => ∃ (k : Nat) (ps : List Nat) (va vn : Value), k ≤ ps.length ∧ k' = .int .i64 k ∧ PRel Mach.good m.succ ps (8 * k) ∧ SetMem W0 w.heap.size wr ps vs va vn k k (acells (m.tab ps).acc k) (rcells (pn m.succ ps) k))
    (fun _ k' _ _ _ _ _ => 4096 - (intOf k').toNat)
  case atStart => exact ⟨0, [0], _, _, by simp, rfl, PRel.start (by unfold Mach.good; omega), P0⟩
  case round =>
    obtain ⟨k, ps, va, vn, hk, rfl, hR, hP⟩ := hrel
    clear P0
    have hbd := hbig _ _ hR
    have hlen := hR.len
    have hbw : Below w.heap.size w wr := BW0.trans (hP.blw.mono (by omega))
    obtain ⟨ap, cp, rfl, hap⟩ := ownsRow_shape hP.own2
    obtain ⟨gp, rfl, hcp⟩ := hap (by omega)
    have hszs := heap_lt hP.blk
    rename World => wo
    by_cases hlt : k < ps.length
    · have e0 := (hcp k (by omega)).trans (setcells_at ps k hlt)
      obtain ⟨q, HQ⟩ : ∃ x, Hid (ps.getD k 0 = x) := ⟨_, rfl⟩
      rw [HQ.out] at e0
      have hgq : q < 2048 := by rw [← HQ.out]; exact hR.inr _ (getD_mem ps k hlt)
      obtain ⟨S, HSQ⟩ : ∃ x, Hid (swp 1 q = x) := ⟨_, rfl⟩
      rw [HSQ.out] at e0
      have hS : S < 2048 := by rw [← HSQ.out]; exact swp_lt (by omega) hgq
      have hM := HMA.out wo hbw
      have x0 := hM.blk.cell (i := 0) (by omega)
      simp only [if_true] at x0
      have HC := follow_ok bm gb n cap beh S wo hn hS hlb x0 (fun i hi => (hM.own.cellAt i (by omega)).trans (by simp [icells, hi]))
      obtain ⟨nx, HNX⟩ : ∃ x, Hid (folF beh S n = x) := ⟨_, rfl⟩
      rw [HNX.out] at HC
      have hnx : nx < 2048 := by rw [← HNX.out]; exact folF_lt hlb
      have R0 : SetRound W0 w.heap.size wo.heap.size (wo.alloc (.cells #[.int .i64 0, .int .i64 0, .int .i64 0, .int .i64 0, .int .i64 0, .int .i64 0, .int .i64 0, .int .i64 0] 113)) ps (.slice (some ⟨gp, 0, none⟩) ps.length cp) va vn k (acells (m.tab ps).acc k) (rcells (pn m.succ ps) k) (fun _ => 0) := by
        refine ⟨hP.below ((Below.refl _ _).alloc (Nat.le_refl _) _), ⟨_, heap_at_new rfl, rfl, fun i hi => ?_⟩, by have := hP.met.lt; omega, fun g hg => ?_, fun g hg => (hP.own0.lt g hg).2, fun g hg => (hP.own1.lt g hg).2⟩
        · rcases (show i = 0 ∨ i = 1 ∨ i = 2 ∨ i = 3 ∨ i = 4 ∨ i = 5 ∨ i = 6 ∨ i = 7 by omega) with rfl | rfl | rfl | rfl | rfl | rfl | rfl | rfl <;> rfl
        · have := (hP.own2.lt g hg).2; omega
      have HR : Hid _ := hR
      have hmz := hP.met.lt
      clear hP hR hap hcp hM
      go_wp2_with (go_at_call 90; refine HC.mono ?_; rintro e w' ⟨rfl, rfl⟩)
      clear e0 x0 HC
      go_loopw [9, 13, 14] (fun vs c' _ wr => ∃ (c : Nat) (qs : List Nat), c ≤ 8 ∧ c' = .int .i64 c ∧ k < qs.length ∧ Hid (qs.getD k 0 = q) ∧ PRel Mach.good m.succ qs (8 * k + c) ∧ SetRound W0 w.heap.size wo.heap.size wr qs vs va vn k (acells (m.tab qs).acc k) (rcells (pn m.succ qs) k) (fun c' => if c' < c then pn m.succ qs k c' else 0))
        (fun _ c' _ _ => 8 - (intOf c').toNat)
      case atStart => exact ⟨0, ps, by omega, rfl, hlt, HQ, HR.out, R0.rcongr (fun x _ => by simp)⟩
      case round =>
        clear R0 HR HQ hlt hbd hlen
        obtain ⟨c, qs, hc, rfl, hlt, HQ, hR, hP⟩ := hrel
        have hbd := hbig _ _ hR
        have hlen := hR.len
        have hbw2 : Below w.heap.size w wr := BW0.trans (hP.mem.blw.mono (by omega))
        obtain ⟨ap, cp, rfl, hap⟩ := ownsRow_shape hP.mem.own2
        obtain ⟨gq, rfl, hcp⟩ := hap (by omega)
        have hszs2 := heap_lt hP.mem.blk
        have hM := HMA.out wr hbw2
        by_cases hl8 : c < 8
        · have x1 := hM.blk.cell (i := 1 + c) (by omega)
          rw [if_neg (by omega), show 1 + c - 1 = c by omega] at x1
          have hba := bits_and_i64 nx (rdr c) (by omega) (by have := hlr c hl8; omega)
          obtain ⟨T, HT⟩ : ∃ x, Hid (nx &&& rdr c = x) := ⟨_, rfl⟩
          rw [HT.out] at hba
          have hT : T < 2048 := by
            rw [← HT.out]
            have : nx &&& rdr c ≤ nx := Nat.and_le_left
            omega
          have HS1 : Hid (m.succ (qs.getD ((8 * k + c) / 8) 0) ((8 * k + c) % 8) = swp 1 T) := by
            unfold Hid
            rw [show (8 * k + c) / 8 = k by omega, show (8 * k + c) % 8 = c by omega, HQ.out]
            unfold Mach.succ Mach.step
            rw [HSQ.out, Hmn.out, Hmb.out, Hmr.out, HNX.out, HT.out]
          have m0 := hP.mem.met.cell (i := T) (by omega)
          have m1 := hP.mem.met.frozen T
          have r0 := hP.rw.cell hl8
          have r1 := hP.rw.frozen c
          simp only [Nat.lt_irrefl, if_false] at r0
          have HP : Hid (SetRound W0 w.heap.size wo.heap.size wr qs (.slice (some ⟨gq, 0, none⟩) qs.length cp) va vn k (acells (m.tab qs).acc k) (rcells (pn m.succ qs) k) (fun c' => if c' < c then pn m.succ qs k c' else 0)) := hP
          have HR : Hid (PRel Mach.good m.succ qs (8 * k + c)) := hR
          have HH := hP.rw.lt
          have HH2 := hP.lo
          clear hP hR hap hcp hM hbw2
          have d1 : ¬ wo.heap.size = w.heap.size + 1 := by omega
          have d2 : ¬ w.heap.size + 1 = wo.heap.size := by omega
          by_cases hmem : swp 1 T ∈ qs
          · have hmv : metv qs (swp 1 T) = qs.idxOf (swp 1 T) + 1 := by simp [metv, hmem]
            have hil := List.idxOf_lt_length_of_mem hmem
            rw [hmv] at m0
            obtain ⟨ix, HX⟩ : ∃ x, Hid (qs.idxOf (swp 1 T) = x) := ⟨_, rfl⟩
            rw [HX.out] at m0 hil
            have hpn : Hid (pn m.succ qs k c = ix) := by
              have := HS1.out
              rw [show (8 * k + c) / 8 = k by omega, show (8 * k + c) % 8 = c by omega] at this
              unfold Hid pn; rw [this]; exact HX.out
            have HM : Hid (swp 1 T ∈ qs) := hmem
            clear hmem hmv
            have mb : (((ix + 1 : Nat) : Int) == 0) = false := by simp; omega
            go_wp2_with fail
            go_roundw
            case rel =>
              have hm : m.succ (qs.getD ((8 * k + c) / 8) 0) ((8 * k + c) % 8) ∈ qs := by rw [HS1.out]; exact HM.out
              have hn := (HP.out.old (c := c) (v := ix)).rcongr (r' := fun c' => if c' < c + 1 then pn m.succ qs k c' else 0) (fun x _ => by
                by_cases e : x = c
                · subst e; simp [hpn.out]
                · by_cases h' : x < c
                  · simp only [e, h', if_false, if_true]; rw [if_pos (by omega)]
                  · simp only [e, h', if_false]; rw [if_neg (by omega)])
              exact ⟨c + 1, qs, by omega, by go_num, hlt, HQ, HR.out.old (by omega) hm, hn⟩
            case measure => simp [intOf]; omega
          · have hmv : metv qs (swp 1 T) = 0 := by simp [metv, hmem]
            rw [hmv] at m0
            have HM : Hid (swp 1 T ∉ qs) := hmem
            clear hmem hmv
            have HPa : Hid (SetRound W0 w.heap.size wo.heap.size (wr.alloc (.cells #[.int .i64 (T : Int)] 3)) qs (.slice (some ⟨gq, 0, none⟩) qs.length cp) va vn k (acells (m.tab qs).acc k) (rcells (pn m.succ qs) k) (fun c' => if c' < c then pn m.succ qs k c' else 0)) := HP.out.below ((Below.refl _ _).alloc (Nat.le_refl _) _)
            have hna := HPa.out.mem.own2
            have hcells : Hid (setcells qs ++ [.int .i64 (T : Int)] = setcells (qs ++ [swp 1 T])) := by
              have := setcells_snoc qs (swp 1 T)
              rw [swp_swp] at this
              exact this
            have HG : Hid (∀ g cap w2, w2.ownsRow (w.heap.size + 1 + 1) 3 1 (.slice (some ⟨g, 0, none⟩) (qs.length + 1) cap) (qs.length + 1) (setcells qs ++ [.int .i64 (T : Int)]) →
                (wr.alloc (.cells #[.int .i64 (T : Int)] 3)).grownBy w2 (Value.slice (some ⟨gq, 0, none⟩) qs.length cp).ownBlock → ((Value.slice (some ⟨gq, 0, none⟩) qs.length cp).ownBlock = some g ∨ g = (wr.alloc (.cells #[.int .i64 (T : Int)] 3)).heap.size) →
                w2.cell? ⟨w.heap.size + 1, T, none⟩ = some (.int .i64 0) ∧ w2.frozen? ⟨w.heap.size + 1, T, none⟩ = false ∧ w2.cell? ⟨wo.heap.size, c, none⟩ = some (.int .i64 0) ∧ w2.frozen? ⟨wo.heap.size, c, none⟩ = false ∧
                Hid (SetRound W0 w.heap.size wo.heap.size ((w2.setCell ⟨w.heap.size + 1, T, none⟩ (.int .i64 ((qs.length : Int) + 1))).setCell ⟨wo.heap.size, c, none⟩ (.int .i64 (qs.length : Int))) (qs ++ [swp 1 T]) (.slice (some ⟨g, 0, none⟩) (qs.length + 1) cap) va vn k (acells (m.tab qs).acc k) (rcells (pn m.succ qs) k) (fun x => if x = c then qs.length else if x < c then pn m.succ qs k x else 0))) := by
              intro g cap w2 ho hg hf
              rw [hcells.out] at ho
              obtain ⟨_, _, g3, _, _, g7, _⟩ := HPa.out.grown ho hg hf
              refine ⟨?_, g3.frozen _, ?_, g7.frozen _, HPa.out.new HM.out ho hg hf⟩
              · rw [g3.cell (by omega)]; simp [metv, HM.out]
              · rw [g7.cell hl8]; simp
            go_wp2_with (at_builtin; refine wpList_append_fresh _ rfl _ _ 22 rfl (w.heap.size + 1 + 1) 3 i3 (.int .i64 0) 1 8 Try.underlying22 hi3 hz3 hz31 hz32 rfl (by decide) _ qs.length (setcells qs) rfl hna ⟨wr.heap.size, 0, none⟩ 1 1 [.int .i64 (T : Int)] rfl rfl (cell_one_new _ _ _) (by intro u hu; simp at hu; subst hu; rfl) (by decide) (by unfold maxLen; omega) (by omega) (by simp; omega) ?_; intro g cap w2 hown hgr hfr; obtain ⟨f0, f1, f2, f3, HN⟩ := HG.out g cap w2 hown hgr hfr; clear hown hgr hfr)
            go_roundw
            case rel =>
              have hnm : m.succ (qs.getD ((8 * k + c) / 8) 0) ((8 * k + c) % 8) ∉ qs := by rw [HS1.out]; exact HM.out
              have hgd : Mach.good (m.succ (qs.getD ((8 * k + c) / 8) 0) ((8 * k + c) % 8)) := by
                rw [HS1.out]; exact swp_lt (by omega) hT
              have hnew := HR.out.new (by omega) hnm hgd
              rw [HS1.out] at hnew
              have hpnew : pn m.succ (qs ++ [swp 1 T]) k c = qs.length := by
                have := HS1.out
                rw [show (8 * k + c) / 8 = k by omega, show (8 * k + c) % 8 = c by omega] at this
                simp only [pn]
                rw [getD_app _ _ _ hlt, this, List.idxOf_append, if_neg HM.out]; simp
              have hn := HN.out.rcongr (r' := fun c' => if c' < c + 1 then pn m.succ (qs ++ [swp 1 T]) k c' else 0) (fun x hx => by
                by_cases e : x = c
                · subst e; simp [hpnew]
                · by_cases h' : x < c
                  · simp only [e, h', if_false, if_true]; rw [if_pos (by omega), pn_new HR.out k x hx (by omega)]
                  · simp only [e, h', if_false]; rw [if_neg (by omega)])
              rw [← acells_mach (m := m) (q := swp 1 T) (by omega), ← rcells_congr (X := pn m.succ (qs ++ [swp 1 T])) (fun x c' hx hc' => pn_new HR.out x c' hc' (by omega))] at hn
              exact ⟨c + 1, qs ++ [swp 1 T], by omega, by go_num, by simp; omega, by unfold Hid; rw [getD_app _ _ _ hlt]; exact HQ.out, hnew, hn⟩
            case measure => simp [intOf]; omega
        · have hc8 : c = 8 := by omega
          subst hc8
          have e0 := (hcp k (by omega)).trans (setcells_at qs k hlt)
          rw [HQ.out, HSQ.out] at e0
          have hba := and_ne_int S lasts hS hL
          obtain ⟨ab, HAB⟩ : ∃ x, Hid ((S &&& lasts != 0) = x) := ⟨_, rfl⟩
          rw [HAB.out] at hba
          have HP : Hid (SetRound W0 w.heap.size wo.heap.size wr qs (.slice (some ⟨gq, 0, none⟩) qs.length cp) va vn k (acells (m.tab qs).acc k) (rcells (pn m.succ qs) k) (fun c' => if c' < 8 then pn m.succ qs k c' else 0)) := hP
          have HR : Hid (PRel Mach.good m.succ qs (8 * k + 8)) := hR
          have HP3 : Hid (SetRound W0 w.heap.size wo.heap.size wr.drew qs (.slice (some ⟨gq, 0, none⟩) qs.length cp) va vn k (acells (m.tab qs).acc k) (rcells (pn m.succ qs) k) (fun c' => if c' < 8 then pn m.succ qs k c' else 0)) := HP.out.below (Below.refl wr.heap.size wr).drew
          have f2 := HP.out.rw
          have c0 := f2.cell (i := 0) (by omega)
          have c1 := f2.cell (i := 1) (by omega)
          have c2 := f2.cell (i := 2) (by omega)
          have c3 := f2.cell (i := 3) (by omega)
          have c4 := f2.cell (i := 4) (by omega)
          have c5 := f2.cell (i := 5) (by omega)
          have c6 := f2.cell (i := 6) (by omega)
          have c7 := f2.cell (i := 7) (by omega)
          simp only [show (0 : Nat) < 8 from by decide, show (1 : Nat) < 8 from by decide, show (2 : Nat) < 8 from by decide, show (3 : Nat) < 8 from by decide, show (4 : Nat) < 8 from by decide, show (5 : Nat) < 8 from by decide, show (6 : Nat) < 8 from by decide, show (7 : Nat) < 8 from by decide, if_true] at c0 c1 c2 c3 c4 c5 c6 c7
          have HA := add_ok w.heap.size (w.heap.size + 1 + 1) va vn k _ _ ab (pn m.succ qs k) wr.drew HP3.out.mem.blk HP3.out.mem.own0 HP3.out.mem.own1 (by omega) (by have := HP3.out.mem.met.lt; omega) (by omega)
          unfold row8 at HA
          clear hP hR hap hcp hM hbw2 f2 HP
          go_wp2_with fail
          go_region_with (go_at_call 78; refine HA.mono ?_; rintro e w6 ⟨rfl, va', vn', f0, f1, f2, f3, _, _⟩; have F1 : Hid _ := HP3.out.add f0 f1 f2 f3; clear f0 f1 f2 f3)
          all_goals
            go_wp2_with fail
            go_roundw
            case rel =>
              have f1 := F1.out
              have ea : acells (m.tab qs).acc k ++ [.bool ab] = acells (m.tab qs).acc (k + 1) := by
                simp only [acells, Mach.tab]; rw [HQ.out, HSQ.out, Hml.out, HAB.out]
              have er : rcells (pn m.succ qs) k ++ [(.int .i64 ((pn m.succ qs k 0 : Nat) : Int)), (.int .i64 ((pn m.succ qs k 1 : Nat) : Int)), (.int .i64 ((pn m.succ qs k 2 : Nat) : Int)), (.int .i64 ((pn m.succ qs k 3 : Nat) : Int)), (.int .i64 ((pn m.succ qs k 4 : Nat) : Int)), (.int .i64 ((pn m.succ qs k 5 : Nat) : Int)), (.int .i64 ((pn m.succ qs k 6 : Nat) : Int)), (.int .i64 ((pn m.succ qs k 7 : Nat) : Int))] = rcells (pn m.succ qs) (k + 1) := by
                simp only [rcells]; rfl
              rw [ea, er] at f1
              exact ⟨k + 1, qs, _, _, by omega, by go_num, by rw [show 8 * (k + 1) = 8 * k + 8 by omega]; exact HR.out, f1⟩
            case measure => simp [intOf]; omega
    · have he : k = ps.length := by omega
      subst he
      obtain ⟨y0, y1, _, _⟩ := cell_two hP.blk
      obtain ⟨aa, ca, rfl, haa⟩ := ownsRow_shape hP.own0
      obtain ⟨an, cn, rfl, han⟩ := ownsRow_shape hP.own1
      obtain ⟨ga, rfl, _⟩ := haa hR.len
      obtain ⟨gn, rfl, _⟩ := han hR.len
      have HP : Hid _ := hP
      have HR : Hid (PRel Mach.good m.succ ps (8 * ps.length)) := hR
      have HY0 : Hid _ := y0
      have HY1 : Hid _ := y1
      clear hP hR hap y0 y1
      go_wp2_with fail
      go_ret
      have hp := HP.out
      refine ⟨hbw, ps, w.heap.size, ga, ca, gn, cn, HR.out, rfl, ⟨HY0.out, HY1.out, fun x hx => ?_, fun x c hx hc => ?_⟩⟩
      · have hx' : x < ps.length := hx
        rw [hp.own0.cellAt x (by omega)]
        exact acells_at _ _ _ hx'
      · have hx' : x < ps.length := hx
        rw [hp.own1.cellAt (x * 8 + c) (by omega)]
        exact rcells_at _ _ _ _ hx' hc
end Go.Proofs.Ytpngikmcjkjdaab
