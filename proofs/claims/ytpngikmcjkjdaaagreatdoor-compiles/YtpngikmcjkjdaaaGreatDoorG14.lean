import Derived.Test.YtpngikmcjkjdaaaGreatDoorG1
import Derived.Test.YtpngikmcjkjdaaaGreatDoorG12
import Derived.Test.YtpngikmcjkjdaaaGreatDoorG13
import Derived.Test.YtpngikmcjkjdaaaGreatDoorG2
import Derived.Test.YtpngikmcjkjdaaaGreatDoorG3
set_option linter.unusedVariables false
set_option linter.unusedSimpArgs false
namespace Go.Proofs.YtpngikmcjkjdaaaGreatDoor
set_option linter.unusedVariables false
def splitF : List Nat → Int → List Nat → List (List Nat)
  | [], _, cur => [cur]
  | c :: l, n, cur => if c = 40 then splitF l (n + 1) (cur ++ [c]) else if c = 41 then splitF l (n - 1) (cur ++ [c]) else if c = 124 ∧ n = 0 then cur :: splitF l n [] else splitF l n (cur ++ [c])
def closF : List Nat → Int → Nat → Nat
  | [], _, k => k
  | c :: l, n, k => if c = 40 then closF l (n + 1) (k + 1) else if c = 41 then (if n - 1 = 0 then k else closF l (n - 1) (k + 1)) else closF l n (k + 1)
def Flat (m : Int) (l : List Nat) : Prop := ∀ n cur rest, m ≤ n → splitF (l ++ rest) n cur = splitF rest n (cur ++ l)
def Skip (l : List Nat) : Prop := ∀ n k rest, 1 ≤ n → closF (l ++ rest) n k = closF rest n (k + l.length)
theorem Flat.nil (m : Int) : Flat m [] := fun n cur rest _ => by simp
theorem Flat.app {m : Int} {l l' : List Nat} (h : Flat m l) (h' : Flat m l') : Flat m (l ++ l') := fun n cur rest hn => by rw [List.append_assoc, h n cur _ hn, h' n _ rest hn, List.append_assoc]
theorem Flat.one {c : Nat} (m : Int) (h1 : c ≠ 40) (h2 : c ≠ 41) (h3 : c ≠ 124) : Flat m [c] := fun n cur rest _ => by
  simp only [List.cons_append, List.nil_append, splitF]
  rw [if_neg h1, if_neg h2, if_neg (fun h => h3 h.1)]
theorem Flat.bar : Flat 1 [124] := fun n cur rest hn => by
  simp only [List.cons_append, List.nil_append, splitF]
  rw [if_neg (by omega), if_neg (by omega), if_neg (fun h => by omega)]
theorem Flat.mono {m m' : Int} {l : List Nat} (h : Flat m l) (hm : m ≤ m') : Flat m' l := fun n cur rest hn => h n cur rest (by omega)
theorem Flat.par {l : List Nat} (h : Flat 1 l) : Flat 0 (40 :: l ++ [41]) := fun n cur rest hn => by
  rw [show 40 :: l ++ [41] ++ rest = 40 :: (l ++ (41 :: rest)) by simp]
  rw [show splitF (40 :: (l ++ (41 :: rest))) n cur = splitF (l ++ (41 :: rest)) (n + 1) (cur ++ [40]) by simp [splitF]]
  rw [h (n + 1) _ _ (by omega)]
  rw [show splitF (41 :: rest) (n + 1) (cur ++ [40] ++ l) = splitF rest (n + 1 - 1) (cur ++ [40] ++ l ++ [41]) by simp [splitF]]
  rw [show n + 1 - 1 = n by omega]
  congr 1; simp
theorem Skip.nil : Skip [] := fun n k rest _ => by simp
theorem Skip.app {l l' : List Nat} (h : Skip l) (h' : Skip l') : Skip (l ++ l') := fun n k rest hn => by rw [List.append_assoc, h n k _ hn, h' n _ rest hn, List.length_append, Nat.add_assoc]
theorem Skip.one {c : Nat} (h1 : c ≠ 40) (h2 : c ≠ 41) : Skip [c] := fun n k rest _ => by
  simp only [List.cons_append, List.nil_append, closF]
  rw [if_neg h1, if_neg h2]; simp
theorem Skip.par {l : List Nat} (h : Skip l) : Skip (40 :: l ++ [41]) := fun n k rest hn => by
  rw [show 40 :: l ++ [41] ++ rest = 40 :: (l ++ (41 :: rest)) by simp]
  rw [show closF (40 :: (l ++ (41 :: rest))) n k = closF (l ++ (41 :: rest)) (n + 1) (k + 1) by simp [closF]]
  rw [h (n + 1) _ _ (by omega)]
  rw [show closF (41 :: rest) (n + 1) (k + 1 + l.length) = closF rest (n + 1 - 1) (k + 1 + l.length + 1) by
    simp only [closF]; rw [if_neg (by omega), if_pos trivial, if_neg (by omega)]]
  rw [show n + 1 - 1 = n by omega]
  congr 1; simp; omega
theorem flat_plain {l : List Nat} (m : Int) (h : ∀ c ∈ l, c ≠ 40 ∧ c ≠ 41 ∧ c ≠ 124) : Flat m l ∧ Skip l := by
  induction l with
  | nil => exact ⟨Flat.nil m, Skip.nil⟩
  | cons c l ih =>
    obtain ⟨h1, h2, h3⟩ := h c (by simp)
    obtain ⟨i1, i2⟩ := ih (fun x hx => h x (by simp [hx]))
    exact ⟨(Flat.one m h1 h2 h3).app i1, (Skip.one h1 h2).app i2⟩
theorem Mk.plain {m : Mk} (h : m.ok) : ∀ c ∈ m.text, c ≠ 40 ∧ c ≠ 41 ∧ c ≠ 124 := by
  intro c hc
  cases m <;> simp [Mk.text] at hc <;> simp [Mk.ok] at h <;> omega
theorem Prt.plain {x : Prt} (h : x.ok) : ∀ c ∈ x.text, (97 ≤ c ∧ c ≤ 104) ∨ c = 45 := by
  intro c hc
  unfold Prt.text at hc
  obtain ⟨h1, h2, _, _⟩ := h
  cases hd : x.dash <;> rw [hd] at hc <;> simp at hc <;> omega
theorem prts_plain {ps : List Prt} (h : ∀ x ∈ ps, x.ok) : ∀ c ∈ ps.flatMap Prt.text, (97 ≤ c ∧ c ≤ 104) ∨ c = 45 := by
  intro c hc
  obtain ⟨x, hx, hc⟩ := List.mem_flatMap.1 hc
  exact Prt.plain (h x hx) c hc
theorem Atom0T.plain {l : List Nat} {p : Pat} (h : Atom0T l p) : ∀ c ∈ l, c ≠ 40 ∧ c ≠ 41 ∧ c ≠ 124 := by
  intro x hx
  rcases h with ⟨c, hc, rfl, _⟩ | ⟨rfl, _⟩ | ⟨ps, _, h1, ⟨rfl, _⟩ | ⟨rfl, _⟩⟩
  · simp at hx; omega
  · simp at hx; omega
  · simp only [List.cons_append, List.mem_cons, List.mem_append, List.not_mem_nil, or_false] at hx
    rcases hx with hx | hx | hx
    · omega
    · have := prts_plain h1 x hx; omega
    · omega
  · simp only [List.cons_append, List.mem_cons, List.mem_append, List.not_mem_nil, or_false] at hx
    rcases hx with hx | hx | hx | hx
    · omega
    · omega
    · have := prts_plain h1 x hx; omega
    · omega
theorem flatMap_flat {α : Type} {m : Int} {f : α → List Nat} {l : List α} (h : ∀ x ∈ l, Flat m (f x) ∧ Skip (f x)) : Flat m (l.flatMap f) ∧ Skip (l.flatMap f) := by
  induction l with
  | nil => exact ⟨Flat.nil m, Skip.nil⟩
  | cons x l ih =>
    obtain ⟨h1, h2⟩ := h x (by simp)
    obtain ⟨i1, i2⟩ := ih (fun y hy => h y (by simp [hy]))
    rw [List.flatMap_cons]
    exact ⟨h1.app i1, h2.app i2⟩
def FlatA (A : List Nat → Pat → Prop) : Prop := ∀ l p, A l p → Flat 0 l ∧ Skip l
theorem SeqT.flat {A : List Nat → Pat → Prop} (hA : FlatA A) {l : List Nat} {p : Pat} (h : SeqT A l p) : Flat 0 l ∧ Skip l := by
  obtain ⟨its, h1, rfl, _⟩ := h
  refine flatMap_flat (fun i hi => ?_)
  obtain ⟨h2, h3⟩ := h1 i hi
  obtain ⟨f1, f2⟩ := hA _ _ h2
  obtain ⟨g1, g2⟩ := flat_plain 0 (Mk.plain h3)
  exact ⟨f1.app g1, f2.app g2⟩
theorem PatT.flat {A : List Nat → Pat → Prop} (hA : FlatA A) {l : List Nat} {p : Pat} (h : PatT A l p) : Flat 1 l ∧ Skip l := by
  obtain ⟨x, xs, h1, h2, rfl, _⟩ := h
  obtain ⟨f1, f2⟩ := h1.flat hA
  obtain ⟨g1, g2⟩ := flatMap_flat (m := 1) (f := fun y : List Nat × Pat => 124 :: y.1) (l := xs) (fun y hy => by
    obtain ⟨k1, k2⟩ := (h2 y hy).flat hA
    exact ⟨Flat.bar.app (k1.mono (by omega)), (Skip.one (by omega) (by omega)).app k2⟩)
  exact ⟨(f1.mono (by omega)).app g1, f2.app g2⟩
theorem atomT_flat (k : Nat) : FlatA (AtomT k) := by
  induction k with
  | zero => intro l p h; exact flat_plain 0 (Atom0T.plain h)
  | succ k ih =>
    intro l p h
    rcases h with h | ⟨l', rfl, h⟩
    · exact flat_plain 0 (Atom0T.plain h)
    · obtain ⟨h1, h2⟩ := h.flat ih
      exact ⟨h1.par, h2.par⟩
theorem split_pat {A : List Nat → Pat → Prop} (hA : FlatA A) {x : List Nat × Pat} {xs : List (List Nat × Pat)} (h1 : SeqT A x.1 x.2) (h2 : ∀ y ∈ xs, SeqT A y.1 y.2) : splitF (x.1 ++ barsL xs) 0 [] = x.1 :: xs.map (·.1) := by
  have key : ∀ (xs : List (List Nat × Pat)) (cur : List Nat), (∀ y ∈ xs, SeqT A y.1 y.2) → splitF (barsL xs) 0 cur = cur :: xs.map (·.1) := by
    intro xs
    induction xs with
    | nil => intro cur _; rfl
    | cons y xs ih =>
      intro cur h
      have hy := (h y (by simp)).flat hA
      show splitF (124 :: y.1 ++ barsL xs) 0 cur = _
      rw [show splitF (124 :: y.1 ++ barsL xs) 0 cur = cur :: splitF (y.1 ++ barsL xs) 0 [] by simp [splitF]]
      rw [hy.1 0 [] _ (by omega), ih _ (fun z hz => h z (by simp [hz]))]
      simp
  rw [(h1.flat hA).1 0 [] _ (by omega), key xs _ h2]
  simp
theorem clos_par {A : List Nat → Pat → Prop} (hA : FlatA A) {l : List Nat} {p : Pat} (h : PatT A l p) (k : Nat) (rest : List Nat) : closF (40 :: l ++ [41] ++ rest) 0 k = k + 1 + l.length := by
  rw [show 40 :: l ++ [41] ++ rest = 40 :: (l ++ (41 :: rest)) by simp]
  rw [show closF (40 :: (l ++ (41 :: rest))) 0 k = closF (l ++ (41 :: rest)) 1 (k + 1) by simp [closF]]
  rw [(h.flat hA).2 1 _ _ (by omega)]
  simp [closF]
theorem AtomT.head {k : Nat} {l : List Nat} {p : Pat} (h : AtomT k l p) : ∃ c l', l = c :: l' ∧ c ≠ 42 ∧ c ≠ 43 ∧ c ≠ 63 ∧ c ≠ 123 := by
  have h0 : ∀ {l : List Nat} {p : Pat}, Atom0T l p → ∃ c l', l = c :: l' ∧ c ≠ 42 ∧ c ≠ 43 ∧ c ≠ 63 ∧ c ≠ 123 := by
    intro l p h
    rcases h with ⟨c, hc, rfl, _⟩ | ⟨rfl, _⟩ | ⟨ps, _, h1, ⟨rfl, _⟩ | ⟨rfl, _⟩⟩
    · exact ⟨_, _, rfl, by omega, by omega, by omega, by omega⟩
    · exact ⟨_, _, rfl, by omega, by omega, by omega, by omega⟩
    · exact ⟨_, _, rfl, by omega, by omega, by omega, by omega⟩
    · exact ⟨_, _, rfl, by omega, by omega, by omega, by omega⟩
  cases k with
  | zero => exact h0 h
  | succ k =>
    rcases h with h | ⟨l', rfl, _⟩
    · exact h0 h
    · exact ⟨_, _, rfl, by omega, by omega, by omega, by omega⟩
def Mk.lo : Mk → Nat
  | .none => 1
  | .star => 0
  | .plus => 1
  | .opt => 0
  | .just n => n
  | .more n => n
  | .span n _ => n
def Mk.hi : Mk → Int
  | .none => 1
  | .star => -1
  | .plus => -1
  | .opt => 1
  | .just n => n
  | .more _ => -1
  | .span _ m => m
def Ex.repd (x : Ex) (lo : Nat) (hi : Int) : Ex := if hi < 0 then x.must x.star' lo else x.must (x.opts (hi - lo).toNat) lo
theorem pow_one {l : List Nat → Prop} (x : List Nat) : Pow l 1 x ↔ l x := cat_nil_right x
theorem repd_star {x : Ex} {lo : Nat} : x.repd lo (-1) = x.must x.star' lo := if_pos (by decide)
theorem repd_span {x : Ex} {lo hi : Nat} (h : lo ≤ hi) : x.repd lo hi = x.must (x.opts (hi - lo)) lo := by
  unfold Ex.repd
  rw [if_neg (by omega), show ((hi : Int) - (lo : Int)).toNat = hi - lo by omega]
theorem repd_lang (x : Ex) (q : Pat) (h : ∀ y, x.lang y ↔ q.lang y) (m : Mk) (hm : m.ok) (y : List Nat) : (x.repd m.lo m.hi).lang y ↔ (m.app q).lang y := by
  have span : ∀ lo hi : Nat, lo ≤ hi → ((x.repd lo hi).lang y ↔ Copies q.lang lo false hi y) := by
    intro lo hi hle
    rw [repd_span hle]
    have := rep_span x q.lang h lo (hi - lo) y
    rw [show lo + (hi - lo) = hi by omega] at this
    exact this
  have more : ∀ lo : Nat, (x.repd lo (-1)).lang y ↔ Copies q.lang lo true (lo + 1) y := by
    intro lo
    rw [repd_star]
    exact rep_more x q.lang h lo y
  cases m with
  | none => exact (span 1 1 (by omega)).trans ((copies_must 1 (by omega) y).trans (pow_one y))
  | star => exact more 0
  | plus => exact more 1
  | opt => exact span 0 1 (by omega)
  | just n => exact span n n (by omega)
  | more n => exact more n
  | span n m => exact span n m hm.1
theorem thn'_letters (a b : Ex) : (a.thn' b).letters ≤ a.letters + b.letters := by
  unfold Ex.thn'; split
  · omega
  · split
    · omega
    · exact Nat.le_refl _
theorem alt'_letters (a b : Ex) : (a.alt' b).letters ≤ a.letters + b.letters := by
  unfold Ex.alt'; split
  · omega
  · exact Nat.le_refl _
theorem star'_letters (a : Ex) : a.star'.letters ≤ a.letters := by
  unfold Ex.star'; split
  · omega
  · exact Nat.le_refl _
theorem opts_letters (x : Ex) (n : Nat) : (x.opts n).letters ≤ n * x.letters := by
  induction n with
  | zero => simp [Ex.opts, Ex.letters]
  | succ n ih =>
    simp only [Ex.opts]
    have h1 := alt'_letters .nil (x.thn' (x.opts n))
    have h2 := thn'_letters x (x.opts n)
    have h3 : Ex.nil.letters = 0 := rfl
    rw [Nat.add_mul]; omega
theorem must_letters (x e : Ex) (n : Nat) : (x.must e n).letters ≤ n * x.letters + e.letters := by
  induction n with
  | zero => simp [Ex.must]
  | succ n ih =>
    simp only [Ex.must]
    have h2 := thn'_letters x (x.must e n)
    rw [Nat.add_mul]; omega
theorem repd_letters (x : Ex) (q : Pat) (h : x.letters ≤ q.size) (m : Mk) (hm : m.ok) : (x.repd m.lo m.hi).letters ≤ (m.app q).size := by
  have star : ∀ lo, (x.must x.star' lo).letters ≤ q.size * (lo + 1) := by
    intro lo
    have h1 := must_letters x x.star' lo
    have h2 := star'_letters x
    have h3 : lo * x.letters ≤ lo * q.size := Nat.mul_le_mul_left _ h
    rw [Nat.mul_add, Nat.mul_comm q.size lo]; omega
  have span : ∀ lo n, (x.must (x.opts n) lo).letters ≤ q.size * (lo + n) := by
    intro lo n
    have h1 := must_letters x (x.opts n) lo
    have h2 := opts_letters x n
    have h3 : lo * x.letters ≤ lo * q.size := Nat.mul_le_mul_left _ h
    have h4 : n * x.letters ≤ n * q.size := Nat.mul_le_mul_left _ h
    rw [Nat.mul_add, Nat.mul_comm q.size lo, Nat.mul_comm q.size n]; omega
  have span' : ∀ lo hi : Nat, lo ≤ hi → (x.repd lo hi).letters ≤ q.size * hi := by
    intro lo hi hle
    rw [repd_span hle]
    have := span lo (hi - lo)
    rw [show lo + (hi - lo) = hi by omega] at this
    exact this
  have star' : ∀ lo : Nat, (x.repd lo (-1)).letters ≤ q.size * (lo + 1) := by
    intro lo; rw [repd_star]; exact star lo
  cases m with
  | none =>
    have := span' 1 1 (by omega)
    rw [Nat.mul_one] at this
    exact this
  | star => exact star' 0
  | plus => exact star' 1
  | opt => exact span' 0 1 (by omega)
  | just n => exact span' n n (by omega)
  | more n => exact star' n
  | span n m => exact span' n m hm.1
theorem chainL_lang (p : Pat) (its : List Itm) (y : List Nat) : (chainL p its).lang y ↔ Cat p.lang (chainL .none its).lang y := by
  induction its generalizing p y with
  | nil => exact (cat_nil_right y).symm
  | cons i its ih =>
    show (chainL (.chain p i.pat) its).lang y ↔ Cat p.lang (chainL (.chain .none i.pat) its).lang y
    rw [ih (.chain p i.pat) y]
    have h1 : ∀ z, (chainL (.chain .none i.pat) its).lang z ↔ Cat i.pat.lang (chainL .none its).lang z := by
      intro z
      rw [ih (.chain .none i.pat) z]
      exact Cat.congr (fun u => cat_nil_left u) (fun _ => Iff.rfl) z
    rw [Cat.congr (fun _ => Iff.rfl) h1 y]
    exact cat_assoc y
theorem chainL_size (p : Pat) (its : List Itm) : (chainL p its).size = p.size + (its.map fun i => i.pat.size).sum := by
  induction its generalizing p with
  | nil => simp [chainL]
  | cons i its ih =>
    show (chainL (.chain p i.pat) its).size = _
    rw [ih]
    simp only [Pat.size, List.map_cons, List.sum_cons]; omega
theorem altL_size (p : Pat) (xs : List (List Nat × Pat)) : (altL p xs).size = p.size + (xs.map fun y => y.2.size).sum := by
  induction xs generalizing p with
  | nil => simp [altL]
  | cons y xs ih =>
    show (altL (.alt p y.2) xs).size = _
    rw [ih]
    simp only [Pat.size, List.map_cons, List.sum_cons]; omega
end Go.Proofs.YtpngikmcjkjdaaaGreatDoor
namespace Go.Proofs.YtpngikmcjkjdaaaGreatDoor
set_option linter.unusedVariables false
set_option linter.unusedSimpArgs false
def setL (S : Nat → Bool) : Nat → List UInt8
  | 0 => []
  | c + 1 => if S c then setL S c ++ [UInt8.ofNat (97 + c)] else setL S c
def Ex.nm : Ex → List UInt8
  | .nil => [45]
  | .one S => 91 :: setL S 8 ++ [93]
  | .star a => 40 :: a.nm ++ [41, 42]
  | .thn a b => 40 :: a.nm ++ 44 :: b.nm ++ [41]
  | .alt a b => 40 :: a.nm ++ 124 :: b.nm ++ [41]
def Ex.can : Ex → Prop
  | .nil => True
  | .one S => ∀ c, 8 ≤ c → S c = false
  | .star a => a.can
  | .thn a b => a.can ∧ b.can
  | .alt a b => a.can ∧ b.can
theorem setL_mem {S : Nat → Bool} {n : Nat} (hn : n ≤ 8) {x : UInt8} (hx : x ∈ setL S n) : ∃ c, c < n ∧ S c = true ∧ x.toNat = 97 + c := by
  induction n with
  | zero => simp [setL] at hx
  | succ n ih =>
    simp only [setL] at hx
    split at hx
    · rename_i h
      rcases List.mem_append.1 hx with hx | hx
      · obtain ⟨c, h1, h2⟩ := ih (by omega) hx; exact ⟨c, by omega, h2⟩
      · rw [List.mem_singleton] at hx; subst hx; refine ⟨n, by omega, h, ?_⟩
        rw [UInt8.toNat_ofNat']; omega
    · obtain ⟨c, h1, h2⟩ := ih (by omega) hx; exact ⟨c, by omega, h2⟩
theorem setL_has {S : Nat → Bool} {n c : Nat} (hc : c < n) (h : S c = true) : UInt8.ofNat (97 + c) ∈ setL S n := by
  induction n with
  | zero => omega
  | succ n ih =>
    simp only [setL]
    by_cases e : c = n
    · subst e; rw [if_pos h]; simp
    · have := ih (by omega)
      split
      · exact List.mem_append_left _ this
      · exact this
theorem setL_inj {S S' : Nat → Bool} (h : setL S 8 = setL S' 8) (hS : ∀ c, 8 ≤ c → S c = false) (hS' : ∀ c, 8 ≤ c → S' c = false) : S = S' := by
  have key : ∀ {S S' : Nat → Bool}, setL S 8 = setL S' 8 → ∀ c, c < 8 → S c = true → S' c = true := by
    intro S S' h c hc hs
    have h1 := setL_has hc hs
    rw [h] at h1
    obtain ⟨d, h2, h3, h4⟩ := setL_mem (by omega) h1
    rw [UInt8.toNat_ofNat'] at h4
    rw [show c = d by omega]; exact h3
  funext c
  by_cases hc : c < 8
  · cases h1 : S c
    · cases h2 : S' c
      · rfl
      · rw [key h.symm c hc h2] at h1; simp at h1
    · rw [key h c hc h1]
  · rw [hS c (by omega), hS' c (by omega)]
theorem split_at {α : Type} {z : α} {l l' x y : List α} (h : l ++ z :: x = l' ++ z :: y) (h1 : z ∉ l) (h2 : z ∉ l') : l = l' ∧ x = y := by
  induction l generalizing l' with
  | nil =>
    cases l' with
    | nil => simpa using h
    | cons b l' => simp at h; exact absurd (by simp [h.1]) h2
  | cons a l ih =>
    cases l' with
    | nil => simp at h; exact absurd (by simp [h.1]) h1
    | cons b l' =>
      simp only [List.cons_append, List.cons.injEq] at h
      obtain ⟨e1, e2⟩ := ih h.2 (fun hz => h1 (by simp [hz])) (fun hz => h2 (by simp [hz]))
      exact ⟨by rw [h.1, e1], e2⟩
theorem no93 (S : Nat → Bool) : (93 : UInt8) ∉ setL S 8 := by
  intro h
  obtain ⟨c, _, _, h3⟩ := setL_mem (by omega) h
  have : (93 : UInt8).toNat = 93 := rfl
  omega
theorem nm_inj (e : Ex) : ∀ e' x y, e.can → e'.can → e.nm ++ x = e'.nm ++ y → e = e' ∧ x = y := by
  induction e with
  | nil =>
    intro e' x y _ _ h
    cases e' <;> simp [Ex.nm] at h
    exact ⟨rfl, h⟩
  | one S =>
    intro e' x y hc hc' h
    cases e' with
    | nil => simp [Ex.nm] at h
    | one S' =>
      simp only [Ex.nm, List.cons_append, List.append_assoc, List.cons.injEq, true_and, List.nil_append] at h
      obtain ⟨h1, h2⟩ := split_at h (no93 S) (no93 S')
      exact ⟨by rw [setL_inj h1 hc hc'], h2⟩
    | star _ => simp [Ex.nm] at h
    | thn _ _ => simp [Ex.nm] at h
    | alt _ _ => simp [Ex.nm] at h
  | star a iha =>
    intro e' x y hc hc' h
    cases e' with
    | nil => simp [Ex.nm] at h
    | one S' => simp [Ex.nm] at h
    | star b =>
      simp only [Ex.nm, List.cons_append, List.append_assoc, List.cons.injEq, true_and, List.nil_append] at h
      obtain ⟨rfl, h2⟩ := iha b _ _ hc hc' h
      simp at h2
      exact ⟨rfl, h2⟩
    | thn b d =>
      simp only [Ex.nm, List.cons_append, List.append_assoc, List.cons.injEq, true_and, List.nil_append] at h
      obtain ⟨rfl, h2⟩ := iha b _ _ hc hc'.1 h
      simp at h2
    | alt b d =>
      simp only [Ex.nm, List.cons_append, List.append_assoc, List.cons.injEq, true_and, List.nil_append] at h
      obtain ⟨rfl, h2⟩ := iha b _ _ hc hc'.1 h
      simp at h2
  | thn a b iha ihb =>
    intro e' x y hc hc' h
    cases e' with
    | nil => simp [Ex.nm] at h
    | one S' => simp [Ex.nm] at h
    | star d =>
      simp only [Ex.nm, List.cons_append, List.append_assoc, List.cons.injEq, true_and, List.nil_append] at h
      obtain ⟨rfl, h2⟩ := iha d _ _ hc.1 hc' h
      simp at h2
    | thn d f =>
      simp only [Ex.nm, List.cons_append, List.append_assoc, List.cons.injEq, true_and, List.nil_append] at h
      obtain ⟨rfl, h2⟩ := iha d _ _ hc.1 hc'.1 h
      simp only [List.cons.injEq, true_and] at h2
      obtain ⟨rfl, h3⟩ := ihb f _ _ hc.2 hc'.2 h2
      simp at h3
      exact ⟨rfl, h3⟩
    | alt d f =>
      simp only [Ex.nm, List.cons_append, List.append_assoc, List.cons.injEq, true_and, List.nil_append] at h
      obtain ⟨rfl, h2⟩ := iha d _ _ hc.1 hc'.1 h
      simp at h2
  | alt a b iha ihb =>
    intro e' x y hc hc' h
    cases e' with
    | nil => simp [Ex.nm] at h
    | one S' => simp [Ex.nm] at h
    | star d =>
      simp only [Ex.nm, List.cons_append, List.append_assoc, List.cons.injEq, true_and, List.nil_append] at h
      obtain ⟨rfl, h2⟩ := iha d _ _ hc.1 hc' h
      simp at h2
    | thn d f =>
      simp only [Ex.nm, List.cons_append, List.append_assoc, List.cons.injEq, true_and, List.nil_append] at h
      obtain ⟨rfl, h2⟩ := iha d _ _ hc.1 hc'.1 h
      simp at h2
    | alt d f =>
      simp only [Ex.nm, List.cons_append, List.append_assoc, List.cons.injEq, true_and, List.nil_append] at h
      obtain ⟨rfl, h2⟩ := iha d _ _ hc.1 hc'.1 h
      simp only [List.cons.injEq, true_and] at h2
      obtain ⟨rfl, h3⟩ := ihb f _ _ hc.2 hc'.2 h2
      simp at h3
      exact ⟨rfl, h3⟩
theorem nm_eq {e e' : Ex} (hc : e.can) (hc' : e'.can) (h : e.nm = e'.nm) : e = e' := (nm_inj e e' [] [] hc hc' (by rw [h])).1
theorem can_thn' {a b : Ex} (ha : a.can) (hb : b.can) : (a.thn' b).can := by
  unfold Ex.thn'; split
  · exact hb
  · split
    · exact ha
    · exact ⟨ha, hb⟩
theorem can_alt' {a b : Ex} (ha : a.can) (hb : b.can) : (a.alt' b).can := by
  unfold Ex.alt'; split
  · exact ha
  · exact ⟨ha, hb⟩
theorem can_star' {a : Ex} (ha : a.can) : a.star'.can := by
  unfold Ex.star'; split
  · exact ha
  · exact ha
theorem can_opts {x : Ex} (h : x.can) (n : Nat) : (x.opts n).can := by
  induction n with
  | zero => trivial
  | succ n ih => exact can_alt' trivial (can_thn' h ih)
theorem can_must {x e : Ex} (h : x.can) (he : e.can) (n : Nat) : (x.must e n).can := by
  induction n with
  | zero => exact he
  | succ n ih => exact can_thn' h ih
theorem can_repd {x : Ex} (h : x.can) (lo : Nat) (hi : Int) : (x.repd lo hi).can := by
  unfold Ex.repd; split
  · exact can_must h (can_star' h) lo
  · exact can_must h (can_opts h _) lo
theorem can_pds {e : Ex} (h : e.can) : ∀ d ∈ e.pds, d.can := by
  induction e with
  | nil => intro d hd; simp [Ex.pds] at hd
  | one S => intro d hd; simp [Ex.pds] at hd; subst hd; trivial
  | alt a b iha ihb =>
    intro d hd
    simp only [Ex.pds, List.mem_append] at hd
    rcases hd with hd | hd
    · exact iha h.1 d hd
    · exact ihb h.2 d hd
  | thn a b iha ihb =>
    intro d hd
    simp only [Ex.pds, List.mem_append, List.mem_map] at hd
    rcases hd with ⟨y, hy, rfl⟩ | hd
    · exact can_thn' (iha h.1 y hy) h.2
    · exact ihb h.2 d hd
  | star a iha =>
    intro d hd
    simp only [Ex.pds, List.mem_map] at hd
    obtain ⟨y, hy, rfl⟩ := hd
    exact can_thn' (iha h y hy) h
def SrtE (l : List Ex) : Prop := l.Pairwise fun a b => Op.bytesLess a.nm b.nm = true
def insE : List Ex → Ex → List Ex
  | [], e => [e]
  | x :: l, e => if x.nm = e.nm then x :: l else if Op.bytesLess e.nm x.nm then e :: x :: l else x :: insE l e
theorem mem_insE {l : List Ex} {e d : Ex} (hc : e.can) (hl : ∀ x ∈ l, x.can) : d ∈ insE l e ↔ d = e ∨ d ∈ l := by
  induction l with
  | nil => simp [insE]
  | cons x l ih =>
    simp only [insE]
    split
    · rename_i h
      have : x = e := nm_eq (hl x (by simp)) hc h
      subst this
      simp
    · split
      · simp
      · rw [List.mem_cons, ih (fun y hy => hl y (by simp [hy])), List.mem_cons]
        constructor
        · rintro (h | h | h)
          · exact .inr (.inl h)
          · exact .inl h
          · exact .inr (.inr h)
        · rintro (h | h | h)
          · exact .inr (.inl h)
          · exact .inl h
          · exact .inr (.inr h)
theorem srt_insE {l : List Ex} {e : Ex} (hc : e.can) (hl : ∀ x ∈ l, x.can) (hs : SrtE l) : SrtE (insE l e) := by
  induction l with
  | nil => simp [insE, SrtE]
  | cons x l ih =>
    have hs' := List.pairwise_cons.1 hs
    simp only [insE]
    split
    · exact hs
    · rename_i hne
      split
      · rename_i hlt
        refine List.pairwise_cons.2 ⟨fun y hy => ?_, hs⟩
        rcases List.mem_cons.1 hy with rfl | hy
        · exact hlt
        · exact bl_trans _ _ _ hlt (hs'.1 y hy)
      · rename_i hlt
        have hgt : Op.bytesLess x.nm e.nm = true := bl_tri _ _ (by simpa using hlt) (fun e => hne e.symm)
        refine List.pairwise_cons.2 ⟨fun y hy => ?_, ih (fun y hy => hl y (by simp [hy])) hs'.2⟩
        rcases (mem_insE hc (fun y hy => hl y (by simp [hy]))).1 hy with rfl | hy
        · exact hgt
        · exact hs'.1 y hy
def insL (out : List Ex) (l : List Ex) : List Ex := l.foldl insE out
def stepE (es : List Ex) (c : Nat) : List Ex := es.foldl (fun out e => insL out (e.behind c)) []
def accE (es : List Ex) : Bool := es.any Ex.empty
theorem insL_ok {out l : List Ex} (hl : ∀ x ∈ l, x.can) (ho : ∀ x ∈ out, x.can) (hs : SrtE out) : SrtE (insL out l) ∧ ∀ d, d ∈ insL out l ↔ d ∈ out ∨ d ∈ l := by
  induction l generalizing out with
  | nil => exact ⟨hs, fun d => by simp [insL]⟩
  | cons x l ih =>
    have hx := hl x (by simp)
    have ho' : ∀ y ∈ insE out x, y.can := fun y hy => by
      rcases (mem_insE hx ho).1 hy with rfl | hy
      · exact hx
      · exact ho y hy
    obtain ⟨h1, h2⟩ := ih (out := insE out x) (fun y hy => hl y (by simp [hy])) ho' (srt_insE hx ho hs)
    refine ⟨h1, fun d => ?_⟩
    show d ∈ insL (insE out x) l ↔ _
    rw [h2 d, mem_insE hx ho, List.mem_cons]
    constructor
    · rintro ((h | h) | h)
      · exact .inr (.inl h)
      · exact .inl h
      · exact .inr (.inr h)
    · rintro (h | h | h)
      · exact .inl (.inr h)
      · exact .inl (.inl h)
      · exact .inr h
theorem can_behind {e : Ex} (h : e.can) (c : Nat) : ∀ d ∈ e.behind c, d.can := fun d hd => can_pds h d (behind_pds e c d hd)
theorem stepE_ok {es : List Ex} (c : Nat) (hc : ∀ x ∈ es, x.can) : SrtE (stepE es c) ∧ ∀ d, d ∈ stepE es c ↔ ∃ e ∈ es, d ∈ e.behind c := by
  have key : ∀ (es out : List Ex), (∀ x ∈ es, x.can) → (∀ x ∈ out, x.can) → SrtE out → SrtE (es.foldl (fun out e => insL out (e.behind c)) out) ∧ ∀ d, d ∈ es.foldl (fun out e => insL out (e.behind c)) out ↔ d ∈ out ∨ ∃ e ∈ es, d ∈ e.behind c := by
    intro es
    induction es with
    | nil => intro out _ _ hs; exact ⟨hs, fun d => by simp⟩
    | cons e es ih =>
      intro out hc ho hs
      have he := hc e (by simp)
      obtain ⟨h1, h2⟩ := insL_ok (can_behind he c) ho hs
      obtain ⟨h3, h4⟩ := ih (insL out (e.behind c)) (fun y hy => hc y (by simp [hy])) (fun y hy => by
        rcases (h2 y).1 hy with hy | hy
        · exact ho y hy
        · exact can_behind he c y hy) h1
      refine ⟨h3, fun d => ?_⟩
      rw [List.foldl_cons, h4 d, h2 d]
      constructor
      · rintro ((h | h) | ⟨x, hx, h⟩)
        · exact .inl h
        · exact .inr ⟨e, by simp, h⟩
        · exact .inr ⟨x, by simp [hx], h⟩
      · rintro (h | ⟨x, hx, h⟩)
        · exact .inl (.inl h)
        · rcases List.mem_cons.1 hx with rfl | hx
          · exact .inl (.inr h)
          · exact .inr ⟨x, hx, h⟩
  obtain ⟨h1, h2⟩ := key es [] hc (by simp) (by simp [SrtE])
  exact ⟨h1, fun d => by rw [stepE, h2 d]; simp⟩
def subsl : List Ex → List (List Ex)
  | [] => [[]]
  | a :: l => subsl l ++ (subsl l).map (a :: ·)
theorem subsl_len (l : List Ex) : (subsl l).length = 2 ^ l.length := by
  induction l with
  | nil => rfl
  | cons a l ih => simp only [subsl, List.length_append, List.length_map, ih, List.length_cons, Nat.pow_succ]; omega
theorem subsl_of {U l : List Ex} (hU : SrtE U) (hl : SrtE l) (h : ∀ d ∈ l, d ∈ U) : l ∈ subsl U := by
  induction U generalizing l with
  | nil =>
    cases l with
    | nil => simp [subsl]
    | cons a l => exact absurd (h a (by simp)) (by simp)
  | cons u U ih =>
    have p := List.pairwise_cons.1 hU
    simp only [subsl, List.mem_append, List.mem_map]
    cases l with
    | nil => exact .inl (ih p.2 (by simp [SrtE]) (by simp))
    | cons a l =>
      have q := List.pairwise_cons.1 hl
      rcases List.mem_cons.1 (h a (by simp)) with h1 | h1
      · subst h1
        refine .inr ⟨l, ih p.2 q.2 (fun d hd => ?_), rfl⟩
        rcases List.mem_cons.1 (h d (by simp [hd])) with h2 | h2
        · subst h2; have := q.1 d hd; rw [bl_irrefl] at this; simp at this
        · exact h2
      · refine .inl (ih p.2 hl (fun d hd => ?_))
        rcases List.mem_cons.1 (h d hd) with h2 | h2
        · subst h2
          rcases List.mem_cons.1 hd with h3 | h3
          · subst h3; exact h1
          · have q1 := q.1 d h3
            have q2 := p.1 a h1
            rw [bl_asymm q1] at q2; simp at q2
        · exact h2
end Go.Proofs.YtpngikmcjkjdaaaGreatDoor
namespace Go.Proofs.YtpngikmcjkjdaaaGreatDoor
set_option linter.unusedVariables false
set_option linter.unusedSimpArgs false
def uniE (E : Ex) : List Ex := insL [] (E :: E.pds)
theorem uniE_ok {E : Ex} (hE : E.can) : SrtE (uniE E) ∧ ∀ d, d ∈ uniE E ↔ d = E ∨ d ∈ E.pds := by
  obtain ⟨h1, h2⟩ := insL_ok (out := []) (l := E :: E.pds) (fun x hx => by
    rcases List.mem_cons.1 hx with rfl | hx
    · exact hE
    · exact can_pds hE x hx) (by simp) (by simp [SrtE])
  exact ⟨h1, fun d => by rw [uniE, h2 d]; simp⟩
theorem insE_len (l : List Ex) (e : Ex) : (insE l e).length ≤ l.length + 1 := by
  induction l with
  | nil => simp [insE]
  | cons x l ih =>
    simp only [insE]
    split
    · simp
    · split
      · simp
      · simp; omega
theorem insL_len (out l : List Ex) : (insL out l).length ≤ out.length + l.length := by
  induction l generalizing out with
  | nil => simp [insL]
  | cons x l ih =>
    have h1 := ih (insE out x)
    have h2 := insE_len out x
    show (insL (insE out x) l).length ≤ _
    simp only [List.length_cons]; omega
theorem uniE_len (E : Ex) : (uniE E).length ≤ E.letters + 1 := by
  have := insL_len [] (E :: E.pds)
  simp only [List.length_nil, List.length_cons, pds_length] at this
  unfold uniE; omega
def stsE (E : Ex) : List (List Ex) := [E] :: subsl (uniE E)
theorem stsE_len (E : Ex) (h : E.letters ≤ 10) : (stsE E).length ≤ 2049 := by
  have h1 := uniE_len E
  have h2 : 2 ^ (uniE E).length ≤ 2 ^ 11 := Nat.pow_le_pow_right (by omega) (by omega)
  simp only [stsE, List.length_cons, subsl_len]
  omega
noncomputable instance : DecidableEq Ex := fun a b => Classical.propDecidable (a = b)
noncomputable def codE (E : Ex) (r : List Ex) : Nat := (stsE E).idxOf r
def decE (E : Ex) (q : Nat) : List Ex := (stsE E).getD q []
structure StE (E : Ex) (r : List Ex) : Prop where
  srt : SrtE r
  uni : ∀ d ∈ r, d ∈ uniE E
theorem StE.can {E : Ex} {r : List Ex} (hE : E.can) (h : StE E r) : ∀ d ∈ r, d.can := fun d hd => by
  rcases ((uniE_ok hE).2 d).1 (h.uni d hd) with rfl | h1
  · exact hE
  · exact can_pds hE d h1
theorem StE.first {E : Ex} (hE : E.can) : StE E [E] := ⟨by simp [SrtE], fun d hd => by simp at hd; subst hd; exact ((uniE_ok hE).2 d).2 (.inl rfl)⟩
theorem StE.mem {E : Ex} {r : List Ex} (hE : E.can) (h : StE E r) : r ∈ stsE E := List.mem_cons_of_mem _ (subsl_of (uniE_ok hE).1 h.srt h.uni)
theorem StE.step {E : Ex} {r : List Ex} (hE : E.can) (h : StE E r) (c : Nat) : StE E (stepE r c) := by
  obtain ⟨h1, h2⟩ := stepE_ok (es := r) c (h.can hE)
  refine ⟨h1, fun d hd => ?_⟩
  obtain ⟨e, he, hd⟩ := (h2 d).1 hd
  refine ((uniE_ok hE).2 d).2 (.inr ?_)
  rcases ((uniE_ok hE).2 e).1 (h.uni e he) with rfl | h3
  · exact behind_pds e c d hd
  · exact pds_closed E c e h3 d hd
theorem subsl_st {U l : List Ex} (hU : SrtE U) (h : l ∈ subsl U) : SrtE l ∧ ∀ d ∈ l, d ∈ U := by
  induction U generalizing l with
  | nil => simp [subsl] at h; subst h; simp [SrtE]
  | cons u U ih =>
    have p := List.pairwise_cons.1 hU
    simp only [subsl, List.mem_append, List.mem_map] at h
    rcases h with h | ⟨l', h, rfl⟩
    · obtain ⟨h1, h2⟩ := ih p.2 h
      exact ⟨h1, fun d hd => by simp [h2 d hd]⟩
    · obtain ⟨h1, h2⟩ := ih p.2 h
      refine ⟨List.pairwise_cons.2 ⟨fun d hd => p.1 d (h2 d hd), h1⟩, fun d hd => ?_⟩
      rcases List.mem_cons.1 hd with rfl | hd
      · simp
      · simp [h2 d hd]
theorem decE_st {E : Ex} (hE : E.can) (q : Nat) (hq : q < (stsE E).length) : StE E (decE E q) := by
  have hm : decE E q ∈ stsE E := by
    unfold decE
    rw [List.getD_eq_getElem?_getD, List.getElem?_eq_getElem hq]
    exact List.getElem_mem hq
  rcases List.mem_cons.1 hm with h | h
  · rw [h]; exact StE.first hE
  · obtain ⟨h1, h2⟩ := subsl_st (uniE_ok hE).1 h
    exact ⟨h1, h2⟩
theorem decE_cod {E : Ex} {r : List Ex} (h : r ∈ stsE E) : decE E (codE E r) = r ∧ codE E r < (stsE E).length := by
  have hl : codE E r < (stsE E).length := List.idxOf_lt_length_of_mem h
  refine ⟨?_, hl⟩
  unfold decE
  rw [List.getD_eq_getElem?_getD, List.getElem?_eq_getElem hl]
  simp [codE]
theorem codE_first (E : Ex) : codE E [E] = 0 := by unfold codE stsE; simp
noncomputable def sucE (E : Ex) (q c : Nat) : Nat := codE E (stepE (decE E q) c)
def goodE (E : Ex) (q : Nat) : Prop := q < (stsE E).length ∧ codE E (decE E q) = q
theorem goodE_cod {E : Ex} {r : List Ex} (h : r ∈ stsE E) : goodE E (codE E r) := ⟨(decE_cod h).2, by rw [(decE_cod h).1]⟩
theorem goodE_zero (E : Ex) : goodE E 0 := by
  have := goodE_cod (E := E) (r := [E]) (by simp [stsE])
  rw [codE_first] at this
  exact this
theorem goodE_suc {E : Ex} (hE : E.can) {q : Nat} (hq : goodE E q) (c : Nat) : goodE E (sucE E q c) := goodE_cod (((decE_st hE q hq.1).step hE c).mem hE)
theorem decE_suc {E : Ex} (hE : E.can) {q : Nat} (hq : goodE E q) (c : Nat) : decE E (sucE E q c) = stepE (decE E q) c := (decE_cod (((decE_st hE q hq.1).step hE c).mem hE)).1
theorem boundE {E : Ex} (hl : E.letters ≤ 10) {ps : List Nat} {p : Nat} (h : PRel (goodE E) (sucE E) ps p) : ps.length ≤ 2049 := by
  have := nodup_bound (stsE E).length ps h.nd (fun x hx => (h.inr x hx).1)
  have := stsE_len E hl
  omega
noncomputable def tabE (E : Ex) (ps : List Nat) : Tab where
  n := ps.length
  acc k := accE (decE E (ps.getD k 0))
  nxt := pn (sucE E) ps
theorem numberedE {E : Ex} {ps : List Nat} (h : PRel (goodE E) (sucE E) ps (8 * ps.length)) : Numbered (tabE E ps) where
  pos := h.len
  nx i c hi hc := by
    have := (h.clo (8 * i + c) (by have : i < ps.length := hi; omega)).2
    rw [show (8 * i + c) / 8 = i by omega, show (8 * i + c) % 8 = c by omega] at this
    exact List.idxOf_lt_length_of_mem this
  step p hp := h.num p hp
  row i hi := h.row i (by have : i < ps.length := hi; omega)
  all := h.cm
theorem tabE_read {E : Ex} (hE : E.can) {ps : List Nat} (h : PRel (goodE E) (sucE E) ps (8 * ps.length)) (k : Nat) (hk : k < ps.length) (x : List Nat) (hx : Notes x) :
    (tabE E ps).read k x < ps.length ∧ decE E (ps.getD ((tabE E ps).read k x) 0) = x.foldl stepE (decE E (ps.getD k 0)) := by
  induction x generalizing k with
  | nil => exact ⟨hk, rfl⟩
  | cons c x ih =>
    have hc : c < 8 := hx c (by simp)
    have hx' : Notes x := fun d hd => hx d (by simp [hd])
    have hcl := (h.clo (8 * k + c) (by omega)).2
    rw [show (8 * k + c) / 8 = k by omega, show (8 * k + c) % 8 = c by omega] at hcl
    have hlt : (tabE E ps).nxt k c < ps.length := List.idxOf_lt_length_of_mem hcl
    have he : ps.getD ((tabE E ps).nxt k c) 0 = sucE E (ps.getD k 0) c := getD_idxOf ps _ hcl
    simp only [Tab.read, List.foldl_cons]
    have := ih _ hlt hx'
    rw [he, decE_suc hE (h.inr _ (getD_mem ps k hk)) c] at this
    exact this
theorem accE_fold {E : Ex} (hE : E.can) (x : List Nat) (r : List Ex) (h : StE E r) : accE (x.foldl stepE r) = true ↔ ∃ d ∈ r, d.lang x := by
  induction x generalizing r with
  | nil =>
    simp only [List.foldl_nil, accE, List.any_eq_true, empty_lang]
  | cons c x ih =>
    rw [List.foldl_cons, ih _ (h.step hE c)]
    obtain ⟨_, h2⟩ := stepE_ok (es := r) c (h.can hE)
    constructor
    · rintro ⟨d, hd, hx⟩
      obtain ⟨e, he, hd⟩ := (h2 d).1 hd
      exact ⟨e, he, (behind_lang e c x).2 ⟨d, hd, hx⟩⟩
    · rintro ⟨e, he, hx⟩
      obtain ⟨d, hd, hx⟩ := (behind_lang e c x).1 hx
      exact ⟨d, (h2 d).2 ⟨e, he, hd⟩, hx⟩
theorem tabE_accepts {E : Ex} (hE : E.can) {ps : List Nat} (h : PRel (goodE E) (sucE E) ps (8 * ps.length)) (x : List Nat) (hx : Notes x) : (tabE E ps).accepts x = true ↔ E.lang x := by
  have := tabE_read hE h 0 h.len x hx
  rw [h.hd] at this
  simp only [Tab.accepts]
  show accE (decE E (ps.getD ((tabE E ps).read 0 x) 0)) = true ↔ _
  rw [this.2, show decE E 0 = [E] from rfl, accE_fold hE x [E] (StE.first hE)]
  simp
def Pat.norm : Pat → Pat
  | .none => .none
  | .one S => .one (fun c => decide (c < 8) && S c)
  | .chain a b => .chain a.norm b.norm
  | .alt a b => .alt a.norm b.norm
  | .rep a lo co en => .rep a.norm lo co en
theorem notes_app {u v : List Nat} (h : Notes (u ++ v)) : Notes u ∧ Notes v := ⟨fun c hc => h c (by simp [hc]), fun c hc => h c (by simp [hc])⟩
theorem cat_notes {l l' m m' : List Nat → Prop} (h : ∀ x, Notes x → (l x ↔ l' x)) (h' : ∀ x, Notes x → (m x ↔ m' x)) (x : List Nat) (hx : Notes x) : Cat l m x ↔ Cat l' m' x := by
  constructor
  · rintro ⟨u, v, rfl, a, b⟩
    obtain ⟨h1, h2⟩ := notes_app hx
    exact ⟨u, v, rfl, (h u h1).1 a, (h' v h2).1 b⟩
  · rintro ⟨u, v, rfl, a, b⟩
    obtain ⟨h1, h2⟩ := notes_app hx
    exact ⟨u, v, rfl, (h u h1).2 a, (h' v h2).2 b⟩
theorem star_notes {l l' : List Nat → Prop} (h : ∀ x, Notes x → (l x → l' x)) (x : List Nat) (hx : Notes x) (hs : Star l x) : Star l' x := by
  induction hs with
  | nil => exact .nil
  | cons hu _ ih =>
    obtain ⟨h1, h2⟩ := notes_app hx
    exact .cons (h _ h1 hu) (ih h2)
theorem copies_notes {l l' : List Nat → Prop} (h : ∀ x, Notes x → (l x ↔ l' x)) (lo : Nat) (en : Bool) (k : Nat) (x : List Nat) (hx : Notes x) : Copies l lo en k x ↔ Copies l' lo en k x := by
  induction k generalizing x with
  | zero => exact Iff.rfl
  | succ k ih =>
    refine cat_notes ih (fun y hy => ?_) x hx
    unfold Copy
    split
    · exact h y hy
    · split
      · exact ⟨star_notes (fun z hz => (h z hz).1) y hy, star_notes (fun z hz => (h z hz).2) y hy⟩
      · rw [h y hy]
theorem norm_lang (p : Pat) (x : List Nat) (hx : Notes x) : p.norm.lang x ↔ p.lang x := by
  induction p generalizing x with
  | none => exact Iff.rfl
  | one S =>
    constructor
    · rintro ⟨c, rfl, h⟩; simp at h; exact ⟨c, rfl, h.2⟩
    · rintro ⟨c, rfl, h⟩; exact ⟨c, rfl, by have : c < 8 := hx c (by simp); simp [this, h]⟩
  | chain a b iha ihb => exact cat_notes iha ihb x hx
  | alt a b iha ihb =>
    show a.norm.lang x ∨ b.norm.lang x ↔ a.lang x ∨ b.lang x
    rw [iha x hx, ihb x hx]
  | rep a lo co en iha => exact copies_notes iha lo en co x hx
end Go.Proofs.YtpngikmcjkjdaaaGreatDoor
namespace Go.Proofs.YtpngikmcjkjdaaaGreatDoor
open Go.RowKit
set_option linter.unusedVariables false
theorem conv_note (pv : Nat) (h : pv < 8) (u : World) : Sem.run Tryz.prog (convert 110 9 (.slice (some ⟨u.heap.size, 0, none⟩) 1 1)) (u.alloc (.cells #[.int .u8 (97 + (pv : Int))] 5)) =
    .ok (.string ⟨#[noteB pv]⟩) (u.alloc (.cells #[.int .u8 (97 + (pv : Int))] 5)) := by
  have h1 := run_convert_bytes_back (P := Tryz.prog) (u.alloc (.cells #[.int .u8 (97 + (pv : Int))] 5)) 110 9 5 ⟨u.heap.size, 0, none⟩ 1 [noteB pv] Tryz.underlying110 Tryz.underlying5 Tryz.underlying9 (by
    intro j hj
    have : j = 0 := by simp at hj; omega
    subst this
    have := cell_one_new u (.int .u8 (97 + (pv : Int))) 5 0 _ rfl
    rw [this]
    simp only [List.getElem_cons_zero, toNat_note pv h]
    rfl)
  exact h1
end Go.Proofs.YtpngikmcjkjdaaaGreatDoor
namespace Go.Proofs.YtpngikmcjkjdaaaGreatDoor
open Go.RowKit
set_option linter.unusedVariables false
set_option linter.unusedSimpArgs false
def exC (kind : Nat) (S : Nat → Bool) (a b : Value) : Array Value := #[.int .i64 (kind : Int), .bool (S 0), .bool (S 1), .bool (S 2), .bool (S 3), .bool (S 4), .bool (S 5), .bool (S 6), .bool (S 7), a, b]
def ptr (g : Nat) : Value := .pointer (some ⟨g, 0, none⟩)
def noS : Nat → Bool := fun _ => false
def ExAt (w : World) : Nat → Ex → Prop
  | g, .nil => w.heap[g]? = some (.cells (exC 0 noS (.pointer none) (.pointer none)) 199 (0, 0))
  | g, .one S => w.heap[g]? = some (.cells (exC 1 S (.pointer none) (.pointer none)) 199 (0, 0))
  | g, .thn a b => ∃ ga gb, w.heap[g]? = some (.cells (exC 2 noS (ptr ga) (ptr gb)) 199 (0, 0)) ∧ ExAt w ga a ∧ ExAt w gb b
  | g, .alt a b => ∃ ga gb, w.heap[g]? = some (.cells (exC 3 noS (ptr ga) (ptr gb)) 199 (0, 0)) ∧ ExAt w ga a ∧ ExAt w gb b
  | g, .star a => ∃ ga, w.heap[g]? = some (.cells (exC 4 noS (ptr ga) (.pointer none)) 199 (0, 0)) ∧ ExAt w ga a
def Ex.kind : Ex → Nat
  | .nil => 0
  | .one _ => 1
  | .thn _ _ => 2
  | .alt _ _ => 3
  | .star _ => 4
theorem kind_nil (e : Ex) : (e.kind = 0 ↔ e.isNil = true) := by cases e <;> simp [Ex.kind, Ex.isNil]
theorem ExAt.lt {w : World} {g : Nat} {e : Ex} (h : ExAt w g e) : g < w.heap.size := by
  cases e with
  | nil => exact heap_lt h
  | one S => exact heap_lt h
  | thn a b => obtain ⟨_, _, h, _⟩ := h; exact heap_lt h
  | alt a b => obtain ⟨_, _, h, _⟩ := h; exact heap_lt h
  | star a => obtain ⟨_, h, _⟩ := h; exact heap_lt h
theorem ExAt.below {w w' : World} {g : Nat} {e : Ex} (h : ExAt w g e) (hb : Below w.heap.size w w') : ExAt w' g e := by
  induction e generalizing g with
  | nil => exact (hb.block _ h.lt).trans h
  | one S => exact (hb.block _ h.lt).trans h
  | thn a b iha ihb =>
    have hl := h.lt
    obtain ⟨ga, gb, h1, h2, h3⟩ := h
    exact ⟨ga, gb, (hb.block _ hl).trans h1, iha h2, ihb h3⟩
  | alt a b iha ihb =>
    have hl := h.lt
    obtain ⟨ga, gb, h1, h2, h3⟩ := h
    exact ⟨ga, gb, (hb.block _ hl).trans h1, iha h2, ihb h3⟩
  | star a iha =>
    have hl := h.lt
    obtain ⟨ga, h1, h2⟩ := h
    exact ⟨ga, (hb.block _ hl).trans h1, iha h2⟩
theorem exC_cell0 {w : World} {g t k : Nat} {S : Nat → Bool} {a b : Value} (h : w.heap[g]? = some (.cells (exC k S a b) t (0, 0))) : w.cell? ⟨g, 0, none⟩ = some (.int .i64 (k : Int)) := by
  rw [cell_of_row w g 0 _ t (0, 0) h]; rfl
theorem exC_cells {w : World} {g t k : Nat} {S : Nat → Bool} {a b : Value} (h : w.heap[g]? = some (.cells (exC k S a b) t (0, 0))) : w.cell? ⟨g, 9, none⟩ = some a ∧ w.cell? ⟨g, 10, none⟩ = some b := by
  constructor
  · rw [cell_of_row w g 9 _ t (0, 0) h]; rfl
  · rw [cell_of_row w g 10 _ t (0, 0) h]; rfl
theorem exC_set {w : World} {g t k : Nat} {S : Nat → Bool} {a b : Value} (h : w.heap[g]? = some (.cells (exC k S a b) t (0, 0))) {c : Nat} (hc : c < 8) : w.cell? ⟨g, 1 + c, none⟩ = some (.bool (S c)) ∧ w.frozen? ⟨g, 1 + c, none⟩ = false := by
  constructor
  · rw [cell_of_row w g (1 + c) _ t (0, 0) h]
    rcases (show c = 0 ∨ c = 1 ∨ c = 2 ∨ c = 3 ∨ c = 4 ∨ c = 5 ∨ c = 6 ∨ c = 7 by omega) with rfl | rfl | rfl | rfl | rfl | rfl | rfl | rfl <;> rfl
  · simp [World.frozen?, h]
theorem ExAt.kind {w : World} {g : Nat} {e : Ex} (h : ExAt w g e) : w.cell? ⟨g, 0, none⟩ = some (.int .i64 (e.kind : Int)) := by
  cases e with
  | nil => exact exC_cell0 h
  | one S => exact exC_cell0 h
  | thn a b => obtain ⟨_, _, h, _⟩ := h; exact exC_cell0 h
  | alt a b => obtain ⟨_, _, h, _⟩ := h; exact exC_cell0 h
  | star a => obtain ⟨_, h, _⟩ := h; exact exC_cell0 h
def ExPost (e' : Ex) (w : World) (e : Ending) (w' : World) : Prop := ∃ g, e = .returned (.pointer (some ⟨g, 0, none⟩)) ∧ ExAt w' g e' ∧ Below w.heap.size w w'
set_option maxRecDepth 20000 in
set_option maxHeartbeats 2000000 in
theorem rnothing_ok (w : World) : Calls Tryz.prog 153 #[] w (ExPost .nil w) := by
  obtain ⟨W, hW⟩ : ∃ W, W = w.alloc (.cells (exC 0 noS (.pointer none) (.pointer none)) 199) := ⟨_, rfl⟩
  have BW : Below w.heap.size w W := by rw [hW]; exact (Below.refl _ _).alloc (Nat.le_refl _) _
  have h0 : ExAt W w.heap.size .nil := by rw [hW]; exact heap_at_new rfl
  unfold exC noS at hW
  simp only [show ((0 : Nat) : Int) = 0 from rfl] at hW
  go_enter Tryz.func153, Tryz.ntmps153
  go_wp2_with fail
  rw [← hW]
  clear hW
  go_ret
  exact ⟨_, rfl, h0, BW⟩
set_option maxRecDepth 20000 in
set_option maxHeartbeats 2000000 in
theorem rthen_ok (ga gb : Nat) (a b : Ex) (w : World) (ha : ExAt w ga a) (hb : ExAt w gb b) : Calls Tryz.prog 156 #[.pointer (some ⟨ga, 0, none⟩), .pointer (some ⟨gb, 0, none⟩)] w (ExPost (a.thn' b) w) := by
  have ka := ha.kind
  have kb := hb.kind
  unfold Ex.thn'
  by_cases h1 : a.isNil = true
  · rw [if_pos h1]
    rw [(kind_nil a).2 h1] at ka
    clear kb h1
    go_enter Tryz.func156, Tryz.ntmps156
    go_wp2_with fail
    go_ret
    exact ⟨gb, rfl, hb, Below.refl _ _⟩
  · rw [if_neg h1]
    obtain ⟨k1, HK1⟩ : ∃ x, Hid (a.kind = x) := ⟨_, rfl⟩
    rw [HK1.out] at ka
    have n1 : ((k1 : Int) == 0) = false := by
      rw [← HK1.out]
      simp only [beq_eq_false_iff_ne, ne_eq]
      intro e
      exact h1 ((kind_nil a).1 (by omega))
    by_cases h2 : b.isNil = true
    · rw [if_pos h2]
      rw [(kind_nil b).2 h2] at kb
      clear h1 h2 HK1
      go_enter Tryz.func156, Tryz.ntmps156
      go_wp2_with fail
      go_ret
      exact ⟨ga, rfl, ha, Below.refl _ _⟩
    · rw [if_neg h2]
      obtain ⟨k2, HK2⟩ : ∃ x, Hid (b.kind = x) := ⟨_, rfl⟩
      rw [HK2.out] at kb
      have n2 : ((k2 : Int) == 0) = false := by
        rw [← HK2.out]
        simp only [beq_eq_false_iff_ne, ne_eq]
        intro e
        exact h2 ((kind_nil b).1 (by omega))
      obtain ⟨W, hW⟩ : ∃ W, W = w.alloc (.cells (exC 2 noS (ptr ga) (ptr gb)) 199) := ⟨_, rfl⟩
      have BW : Below w.heap.size w W := by rw [hW]; exact (Below.refl _ _).alloc (Nat.le_refl _) _
      have h0 : ExAt W w.heap.size (.thn a b) := ⟨ga, gb, by rw [hW]; exact heap_at_new rfl, ha.below BW, hb.below BW⟩
      unfold exC noS ptr at hW
      simp only [show ((2 : Nat) : Int) = 2 from rfl] at hW
      clear h1 h2 HK1 HK2
      go_enter Tryz.func156, Tryz.ntmps156
      go_wp2_with fail
      rw [← hW]
      clear hW
      go_ret
      exact ⟨_, rfl, h0, BW⟩
set_option maxRecDepth 20000 in
set_option maxHeartbeats 2000000 in
theorem reither_ok (ga gb : Nat) (a b : Ex) (w : World) (ha : ExAt w ga a) (hb : ExAt w gb b) : Calls Tryz.prog 119 #[.pointer (some ⟨ga, 0, none⟩), .pointer (some ⟨gb, 0, none⟩)] w (ExPost (a.alt' b) w) := by
  have ka := ha.kind
  have kb := hb.kind
  obtain ⟨W, hW⟩ : ∃ W, W = w.alloc (.cells (exC 3 noS (ptr ga) (ptr gb)) 199) := ⟨_, rfl⟩
  have BW : Below w.heap.size w W := by rw [hW]; exact (Below.refl _ _).alloc (Nat.le_refl _) _
  have h0 : ExAt W w.heap.size (.alt a b) := ⟨ga, gb, by rw [hW]; exact heap_at_new rfl, ha.below BW, hb.below BW⟩
  unfold exC noS ptr at hW
  simp only [show ((3 : Nat) : Int) = 3 from rfl] at hW
  unfold Ex.alt'
  by_cases h1 : a.isNil = true
  · rw [(kind_nil a).2 h1] at ka
    by_cases h2 : b.isNil = true
    · rw [(kind_nil b).2 h2] at kb
      rw [if_pos (by rw [h1, h2]; rfl)]
      clear h1 h2 hW
      go_enter Tryz.func119, Tryz.ntmps119
      go_wp2_with fail
      go_ret
      exact ⟨ga, rfl, ha, Below.refl _ _⟩
    · rw [if_neg (by rw [h1]; simpa using h2)]
      obtain ⟨k2, HK2⟩ : ∃ x, Hid (b.kind = x) := ⟨_, rfl⟩
      rw [HK2.out] at kb
      have n2 : ((k2 : Int) == 0) = false := by
        rw [← HK2.out]
        simp only [beq_eq_false_iff_ne, ne_eq]
        intro e
        exact h2 ((kind_nil b).1 (by omega))
      clear h1 h2 HK2
      go_enter Tryz.func119, Tryz.ntmps119
      go_wp2_with fail
      rw [← hW]
      clear hW
      go_ret
      exact ⟨_, rfl, h0, BW⟩
  · rw [if_neg (by simp [h1])]
    obtain ⟨k1, HK1⟩ : ∃ x, Hid (a.kind = x) := ⟨_, rfl⟩
    rw [HK1.out] at ka
    have n1 : ((k1 : Int) == 0) = false := by
      rw [← HK1.out]
      simp only [beq_eq_false_iff_ne, ne_eq]
      intro e
      exact h1 ((kind_nil a).1 (by omega))
    clear h1 HK1 kb
    go_enter Tryz.func119, Tryz.ntmps119
    go_wp2_with fail
    rw [← hW]
    clear hW
    go_ret
    exact ⟨_, rfl, h0, BW⟩
set_option maxRecDepth 20000 in
set_option maxHeartbeats 2000000 in
theorem rstar_ok (ga : Nat) (a : Ex) (w : World) (ha : ExAt w ga a) : Calls Tryz.prog 175 #[.pointer (some ⟨ga, 0, none⟩)] w (ExPost a.star' w) := by
  have ka := ha.kind
  unfold Ex.star'
  by_cases h1 : a.isNil = true
  · rw [if_pos h1]
    rw [(kind_nil a).2 h1] at ka
    clear h1
    go_enter Tryz.func175, Tryz.ntmps175
    go_wp2_with fail
    go_ret
    exact ⟨ga, rfl, ha, Below.refl _ _⟩
  · rw [if_neg h1]
    obtain ⟨k1, HK1⟩ : ∃ x, Hid (a.kind = x) := ⟨_, rfl⟩
    rw [HK1.out] at ka
    have n1 : ((k1 : Int) == 0) = false := by
      rw [← HK1.out]
      simp only [beq_eq_false_iff_ne, ne_eq]
      intro e
      exact h1 ((kind_nil a).1 (by omega))
    obtain ⟨W, hW⟩ : ∃ W, W = w.alloc (.cells (exC 4 noS (ptr ga) (.pointer none)) 199) := ⟨_, rfl⟩
    have BW : Below w.heap.size w W := by rw [hW]; exact (Below.refl _ _).alloc (Nat.le_refl _) _
    have h0 : ExAt W w.heap.size (.star a) := ⟨ga, by rw [hW]; exact heap_at_new rfl, ha.below BW⟩
    unfold exC noS ptr at hW
    simp only [show ((4 : Nat) : Int) = 4 from rfl] at hW
    clear h1 HK1
    go_enter Tryz.func175, Tryz.ntmps175
    go_wp2_with fail
    rw [← hW]
    clear hW
    go_ret
    exact ⟨_, rfl, h0, BW⟩
set_option maxRecDepth 20000 in
set_option maxHeartbeats 4000000 in
theorem rrepeated_ok (gx lo : Nat) (hi : Int) (x : Ex) (w : World) (hx : ExAt w gx x) (hlo : lo ≤ 9) (hhi : hi ≤ 9) (hok : hi < 0 ∨ (lo : Int) ≤ hi) :
    Calls Tryz.prog 155 #[.pointer (some ⟨gx, 0, none⟩), .int .i64 (lo : Int), .int .i64 hi] w (ExPost (x.repd lo hi) w) := by
  obtain ⟨e0, HE0⟩ : ∃ e, Hid ((if hi < 0 then x.star' else x.opts (hi - lo).toNat) = e) := ⟨_, rfl⟩
  have HRP : Hid (x.repd lo hi = x.must e0 lo) := by
    unfold Hid Ex.repd
    rw [← HE0.out]
    by_cases h : hi < 0
    · rw [if_pos h, if_pos h]
    · rw [if_neg h, if_neg h]
  rw [HRP.out]
  clear HRP
  have HX : Hid (∀ w', Below w.heap.size w w' → ExAt w' gx x) := fun w' hb => hx.below hb
  have HC := rnothing_ok w
  go_enter Tryz.func155, Tryz.ntmps155
  go_wp2_with fail
  refine HC.mono ?_
  clear HC
  rintro e w1 ⟨g1, rfl, hE1, hB1⟩
  have hsz1 := hB1.size
  have fin : ∀ (w2 : World) (g2 : Nat), True := fun _ _ => trivial
  clear fin
  by_cases hneg : hi < 0
  · have hx1 := HX.out w1 hB1
    have HC := rstar_ok gx x w1 hx1
    have HE : Hid (x.star' = e0) := by unfold Hid; rw [← HE0.out, if_pos hneg]
    rw [HE.out] at HC
    clear HE0 HE hE1 hx1
    have hll : ¬ (lo : Int) < hi := by omega
    go_wp2_with fail
    refine HC.mono ?_
    clear HC
    rintro e w2 ⟨g2, rfl, hE2, hB2⟩
    have hB12 : Below w.heap.size w w2 := hB1.trans (hB2.mono (by omega))
    clear hB1 hB2
    go_wp2_with fail
    go_loopw [7, 8] (fun v' i' wr => v' = .pointer (some ⟨g2, 0, none⟩) ∧ i' = .int .i64 (lo : Int) ∧ wr = w2) (fun _ _ _ => 0)
    case atStart => exact ⟨rfl, rfl, rfl⟩
    case round =>
      obtain ⟨rfl, rfl, rfl⟩ := hrel
      go_wp2_with fail
      go_loopw [7, 9] (fun v' i' wr => ∃ i g : Nat, i ≤ lo ∧ v' = .pointer (some ⟨g, 0, none⟩) ∧ i' = .int .i64 (i : Int) ∧ ExAt wr g (x.must e0 i) ∧ Below w.heap.size w wr) (fun _ i' _ => 20 - (intOf i').toNat)
      case atStart => exact ⟨0, g2, by omega, rfl, rfl, hE2, hB12⟩
      case round =>
        clear hE2 hB12
        obtain ⟨i, g3, hi1, rfl, rfl, hE3, hB3⟩ := hrel
        have hsz3 := hB3.size
        by_cases hlt : i < lo
        · have hlt2 : (i : Int) < (lo : Int) := by omega
          have HC := rthen_ok gx g3 x (x.must e0 i) wr (HX.out wr hB3) hE3
          rw [show x.thn' (x.must e0 i) = x.must e0 (i + 1) from rfl] at HC
          go_wp2_with fail
          refine HC.mono ?_
          clear HC
          rintro e w4 ⟨g4, rfl, hE4, hB4⟩
          have hB24 : Below w.heap.size w w4 := hB3.trans (hB4.mono (by omega))
          have HE4 : Hid (ExAt w4 g4 (x.must e0 (i + 1))) := hE4
          clear hE3 hE4 hB3 hB4
          go_wp2_with fail
          go_roundw
          case rel => exact ⟨i + 1, g4, by omega, rfl, by go_num, HE4.out, hB24⟩
          case measure => simp [intOf]; omega
        · have hlt2 : ¬ (i : Int) < (lo : Int) := by omega
          obtain rfl : i = lo := by omega
          have HE3 : Hid (ExAt wr g3 (x.must e0 i)) := hE3
          clear hE3
          go_wp2_with fail
          go_ret
          exact ⟨g3, rfl, HE3.out, hB3⟩
  · obtain ⟨hn, rfl⟩ : ∃ n : Nat, hi = (n : Int) := ⟨hi.toNat, by omega⟩
    have hln : lo ≤ hn := by omega
    have hng : ¬ (hn : Int) < 0 := by omega
    have HE : Hid (x.opts (hn - lo) = e0) := by
      unfold Hid; rw [← HE0.out, if_neg hneg]; congr 1; omega
    clear HE0 hneg hok
    go_wp2_with fail
    go_loopw [7, 8] (fun v' i' wr => ∃ i g : Nat, lo ≤ i ∧ i ≤ hn ∧ v' = .pointer (some ⟨g, 0, none⟩) ∧ i' = .int .i64 (i : Int) ∧ ExAt wr g (x.opts (i - lo)) ∧ Below w.heap.size w wr) (fun _ i' _ => 20 - (intOf i').toNat)
    case atStart => exact ⟨lo, g1, Nat.le_refl _, hln, rfl, rfl, by rw [Nat.sub_self]; exact hE1, hB1⟩
    case round =>
      clear hE1 hB1 hsz1
      obtain ⟨i, g2, hi1, hi2, rfl, rfl, hE2, hB2⟩ := hrel
      have hsz2 := hB2.size
      by_cases hlt : i < hn
      · have hlt2 : (i : Int) < (hn : Int) := by omega
        have HC := rnothing_ok wr
        have HEE : Hid (x.opts (i + 1 - lo) = Ex.alt' .nil (x.thn' (x.opts (i - lo)))) := by
          unfold Hid; rw [show i + 1 - lo = (i - lo) + 1 by omega]; rfl
        go_wp2_with fail
        refine HC.mono ?_
        clear HC
        rintro e w3 ⟨g3, rfl, hE3, hB3⟩
        have hB23 : Below w.heap.size w w3 := hB2.trans (hB3.mono (by omega))
        have HC := rthen_ok gx g2 x (x.opts (i - lo)) w3 (HX.out w3 hB23) (hE2.below hB3)
        have hsz3 := hB3.size
        go_wp2_with fail
        refine HC.mono ?_
        clear HC
        rintro e w4 ⟨g4, rfl, hE4, hB4⟩
        have hB24 : Below w.heap.size w w4 := hB23.trans (hB4.mono (by omega))
        have hsz4 := hB4.size
        have HC := reither_ok g3 g4 .nil (x.thn' (x.opts (i - lo))) w4 (hE3.below hB4) hE4
        rw [← HEE.out] at HC
        go_wp2_with fail
        refine HC.mono ?_
        clear HC
        rintro e w5 ⟨g5, rfl, hE5, hB5⟩
        have hB25 : Below w.heap.size w w5 := hB24.trans (hB5.mono (by omega))
        have HE5 : Hid (ExAt w5 g5 (x.opts (i + 1 - lo))) := hE5
        clear hE2 hE3 hE4 hE5 hB2 hB3 hB4 hB5 hB23 hB24
        go_wp2_with fail
        go_roundw
        case rel => exact ⟨i + 1, g5, by omega, by omega, rfl, by go_num, HE5.out, hB25⟩
        case measure => simp [intOf]; omega
      · have hlt2 : ¬ (i : Int) < (hn : Int) := by omega
        obtain rfl : i = hn := by omega
        have hE2 : ExAt wr g2 e0 := by rw [← HE.out]; exact hE2
        obtain ⟨w2, HW2⟩ : ∃ z, Hid (wr = z) := ⟨_, rfl⟩
        rw [HW2.out] at hE2 hB2 ⊢
        have hB12 := hB2
        clear hB2
        go_wp2_with fail
        go_loopw [7, 9] (fun v' i' wr => ∃ i g : Nat, i ≤ lo ∧ v' = .pointer (some ⟨g, 0, none⟩) ∧ i' = .int .i64 (i : Int) ∧ ExAt wr g (x.must e0 i) ∧ Below w.heap.size w wr) (fun _ i' _ => 20 - (intOf i').toNat)
        case atStart => exact ⟨0, g2, by omega, rfl, rfl, hE2, hB12⟩
        case round =>
          clear hE2 hB12
          obtain ⟨i, g3, hi1, rfl, rfl, hE3, hB3⟩ := hrel
          have hsz3 := hB3.size
          by_cases hlt : i < lo
          · have hlt2 : (i : Int) < (lo : Int) := by omega
            have HC := rthen_ok gx g3 x (x.must e0 i) wr (HX.out wr hB3) hE3
            rw [show x.thn' (x.must e0 i) = x.must e0 (i + 1) from rfl] at HC
            go_wp2_with fail
            refine HC.mono ?_
            clear HC
            rintro e w4 ⟨g4, rfl, hE4, hB4⟩
            have hB24 : Below w.heap.size w w4 := hB3.trans (hB4.mono (by omega))
            have HE4 : Hid (ExAt w4 g4 (x.must e0 (i + 1))) := hE4
            clear hE3 hE4 hB3 hB4
            go_wp2_with fail
            go_roundw
            case rel => exact ⟨i + 1, g4, by omega, rfl, by go_num, HE4.out, hB24⟩
            case measure => simp [intOf]; omega
          · have hlt2 : ¬ (i : Int) < (lo : Int) := by omega
            obtain rfl : i = lo := by omega
            have HE3 : Hid (ExAt wr g3 (x.must e0 i)) := hE3
            clear hE3
            go_wp2_with fail
            go_ret
            exact ⟨g3, rfl, HE3.out, hB3⟩
end Go.Proofs.YtpngikmcjkjdaaaGreatDoor
