import Derived.Test.YtpngikmcjkjdaaaPair
namespace Go.Proofs.Ytpngikmcjkjdaaa
open Go.RowKit
set_option linter.unusedVariables false

def scells (R C : Nat → Nat) (k : Nat) : List Value := (List.range k).map fun i => .slice (some ⟨R i, 0, none⟩) 8 (C i)
def icells (X : Nat → Nat) (k : Nat) : List Value := (List.range k).map fun c : Nat => .int .i64 ((X c : Nat) : Int)
theorem scells_succ (R C : Nat → Nat) (k : Nat) : scells R C (k + 1) = scells R C k ++ [.slice (some ⟨R k, 0, none⟩) 8 (C k)] := by simp [scells, List.range_succ]
theorem icells_succ (X : Nat → Nat) (k : Nat) : icells X (k + 1) = icells X k ++ [.int .i64 ((X k : Nat) : Int)] := by simp [icells, List.range_succ]

/-- A table that is being made, list by list. -/
structure BuildMem (W : World) (b : Nat) (w : World) (va vn : Value) (ka kn : Nat) (A : Nat → Bool) (R C : Nat → Nat) (X : Nat → Nat → Nat) : Prop where
  two : TwoRows W b 26 4 1 22 1 w va vn ka kn (acells A ka) (scells R C kn)
  rows : ∀ i, i < kn → w.ownsRow (b + 1) 3 1 (.slice (some ⟨R i, 0, none⟩) 8 (C i)) 8 (icells (X i) 8)

section
variable {W : World} {b : Nat} {w w1 w2 : World} {va vn vr : Value} {ka kn : Nat} {A : Nat → Bool} {R C : Nat → Nat} {X : Nat → Nat → Nat} {c : Nat} {x : List Value}

theorem BuildMem.start (hb : Below b W w) (hk : w.heap[b]? = some (.cells #[.slice none 0 0, .slice none 0 0] 26 (0, 0))) : BuildMem W b w (.slice none 0 0) (.slice none 0 0) 0 0 A R C X :=
  ⟨⟨hb, hk, World.ownsRow_nil _ _ _ _, World.ownsRow_nil _ _ _ _, by intro g h; simp [Value.ownBlock] at h⟩, fun i hi => absurd hi (by omega)⟩

theorem BuildMem.below (h : BuildMem W b w va vn ka kn A R C X) (hb : Below w.heap.size w w1) : BuildMem W b w1 va vn ka kn A R C X :=
  ⟨h.two.below hb, fun i hi => ownsRow_below (h.rows i hi) hb⟩

theorem BuildMem.acc (h : BuildMem W b w va vn ka kn A R C X) {g cap : Nat} (hown : w2.ownsRow (b + 1) 4 1 (.slice (some ⟨g, 0, none⟩) (ka + 1) cap) (ka + 1) (acells A ka ++ [.bool (A ka)])) (hg : w.grownBy w2 va.ownBlock) (hf : va.ownBlock = some g ∨ g = w.heap.size) :
    BuildMem W b (w2.setCell ⟨b, 0, none⟩ (.slice (some ⟨g, 0, none⟩) (ka + 1) cap)) (.slice (some ⟨g, 0, none⟩) (ka + 1) cap) vn (ka + 1) kn A R C X := by
  refine ⟨h.two.put0 hown hg hf, fun i hi => ownsRow_setCell_below ((h.rows i hi).kept hg (.inr (fun e => own_apart (h.rows i hi) h.two.own0 (by decide) _ rfl e.symm))) (by simp) _⟩

/-- The row that is being made has grown. -/
theorem BuildMem.grown (h : BuildMem W b w va vn ka kn A R C X) (hr : w.ownsRow (b + 1) 3 1 vr c x) (hd : ∀ i, i < kn → vr.ownBlock ≠ some (R i)) (hg : w.grownBy w2 vr.ownBlock) : BuildMem W b w2 va vn ka kn A R C X := by
  have hsz := heap_lt h.two.blk
  refine ⟨⟨h.two.blw.grown hg (by omega) (fun k e => by have := (hr.lt k e).1; omega), ?_, ?_, ?_, h.two.dis⟩, fun i hi => (h.rows i hi).kept hg (.inr (fun e => hd i hi e.symm))⟩
  · rw [hg.block b hsz (fun e => by have := (hr.lt b e.symm).1; omega)]; exact h.two.blk
  · refine h.two.own0.kept hg ?_
    cases hv : va.ownBlock with
    | none => exact .inl rfl
    | some k => exact .inr (fun e => own_apart h.two.own0 hr (by decide) k hv e.symm)
  · refine h.two.own1.kept hg ?_
    cases hv : vn.ownBlock with
    | none => exact .inl rfl
    | some k => exact .inr (fun e => own_apart h.two.own1 hr (by decide) k hv e.symm)

/-- The row is done: Next has one part more. -/
theorem BuildMem.nxt (h : BuildMem W b w va vn ka kn A R C X) {g cap gr cr : Nat} (hr : w.ownsRow (b + 1) 3 1 (.slice (some ⟨gr, 0, none⟩) 8 cr) 8 (icells (X kn) 8))
    (hown : w2.ownsRow (b + 1) 22 1 (.slice (some ⟨g, 0, none⟩) (kn + 1) cap) (kn + 1) (scells R C kn ++ [.slice (some ⟨gr, 0, none⟩) 8 cr])) (hg : w.grownBy w2 vn.ownBlock) (hf : vn.ownBlock = some g ∨ g = w.heap.size) :
    BuildMem W b (w2.setCell ⟨b, 1, none⟩ (.slice (some ⟨g, 0, none⟩) (kn + 1) cap)) va (.slice (some ⟨g, 0, none⟩) (kn + 1) cap) ka (kn + 1) A (fun i => if i = kn then gr else R i) (fun i => if i = kn then cr else C i) X := by
  have es : scells R C kn ++ [.slice (some ⟨gr, 0, none⟩) 8 cr] = scells (fun i => if i = kn then gr else R i) (fun i => if i = kn then cr else C i) (kn + 1) := by
    rw [scells_succ]
    congr 1
    · simp only [scells]; apply List.map_congr_left; intro i hi; have : i < kn := by simpa using hi
      rw [if_neg (by omega), if_neg (by omega)]
    · simp
  refine ⟨?_, fun i hi => ?_⟩
  · have := h.two.put1 hown hg hf
    rw [es] at this; exact this
  · by_cases e : i = kn
    · subst e
      simp only [if_true]
      exact ownsRow_setCell_below (hr.kept hg (.inr (fun e => own_apart hr h.two.own1 (by decide) _ rfl e.symm))) (by simp) _
    · simp only [if_neg e]
      have h1 := h.rows i (by omega)
      exact ownsRow_setCell_below (h1.kept hg (.inr (fun e => own_apart h1 h.two.own1 (by decide) _ rfl e.symm))) (by simp) _

/-- The table that has been made, as it lies. -/
theorem BuildMem.done (h : BuildMem W b w va vn kn kn A R C X) (hk : 0 < kn) {N : Tab} (hn : N.n = kn) (ha : ∀ i, i < kn → N.acc i = A i) (hx : ∀ i c, i < kn → c < 8 → N.nxt i c = X i c) :
    ∃ V : Lay, va = .slice (some ⟨V.ba, V.oa, none⟩) kn V.ca ∧ vn = .slice (some ⟨V.bn, V.on, none⟩) kn V.cn ∧ TabAt w V N ∧ V.From (b + 1) kn := by
  obtain ⟨aa, ca, rfl, haa⟩ := ownsRow_shape h.two.own0
  obtain ⟨an, cn, rfl, han⟩ := ownsRow_shape h.two.own1
  obtain ⟨ga, rfl, h1⟩ := haa hk
  obtain ⟨gn, rfl, h2⟩ := han hk
  refine ⟨⟨ga, 0, ca, gn, 0, cn, R, fun _ => 0, C⟩, rfl, rfl, ⟨fun i hi => ?_, fun i hi => ?_, fun i c hi hc => ?_⟩, ⟨(h.two.own0.lt ga rfl).1, (h.two.own1.lt gn rfl).1, fun i hi => ((h.rows i hi).lt (R i) rfl).1⟩⟩
  · have hi' : i < kn := by omega
    simp only [Nat.zero_add]
    rw [h1 i (by omega), acells_at _ _ _ hi', ha i hi']
  · have hi' : i < kn := by omega
    simp only [Nat.zero_add]
    rw [h2 i (by omega)]; simp [scells, hi']
  · have hi' : i < kn := by omega
    simp only [Nat.zero_add]
    rw [(h.rows i hi').cellAt c (by omega), hx i c hi' hc]; simp [icells, hc]
end
end Go.Proofs.Ytpngikmcjkjdaaa
