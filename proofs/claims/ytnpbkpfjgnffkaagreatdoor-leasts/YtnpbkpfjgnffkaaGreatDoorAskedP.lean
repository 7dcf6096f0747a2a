import Derived.Test.YtnpbkpfjgnffkaaGreatDoorHeldP
import Derived.Test.YtnpbkpfjgnffkaaGreatDoorRawRef
namespace Go.Proofs.YtnpbkpfjgnffkaaGreatDoor
open Go.RowKit
set_option linter.unusedVariables false

/-- A table of the caller's, as lists. -/
def TL.lay (t : TL) : RLay := ⟨some ⟨t.ba, 0, none⟩, some ⟨t.bn, 0, none⟩, t.na, t.ca, t.nn, t.cn, fun i => if t.rc i = 0 then none else some ⟨t.rb i, 0, none⟩, t.rl, fun i => if t.rc i = 0 then 0 else t.rc i⟩
theorem TLAt.raw {w : World} {t : TL} {A : Nat → Bool} {X : Nat → Nat → Int} (h : TLAt w t A X) : RawAt w t.lay A X where
  la := by have := h.na; have := h.ca; show t.na ≤ _; omega
  ln := by have := h.nn; have := h.cn; show t.nn ≤ _; omega
  lr i hi := by
    have h1 : i < t.nn := hi
    have := h.nn
    have := h.rl i (by omega); have := h.rc i (by omega); show t.rl i ≤ _; omega
  acc i hi := ⟨t.ba, 0, rfl, by rw [Nat.zero_add]; exact h.acc.cell (Nat.lt_of_lt_of_le hi h.na)⟩
  row i hi := by
    have h1 : i < t.nn := hi
    have h2 := h.nn
    refine ⟨t.bn, 0, rfl, ?_⟩
    rw [Nat.zero_add, h.nxt.cell (by omega)]
    unfold tlv TL.lay
    by_cases e : t.rc i = 0
    · have := h.rl i (by omega)
      simp only [if_pos e]
      rw [show t.rl i = 0 by omega]
    · simp only [if_neg e]
  cel i c hi hc := by
    have h1 : i < t.nn := hi
    have h2 := h.nn
    have h3 : c < t.rl i := hc
    have h4 := h.rl i (by omega)
    refine ⟨t.rb i, 0, ?_, by rw [Nat.zero_add]; exact (h.row i (by omega) (by omega)).cell (by omega)⟩
    show (if t.rc i = 0 then none else some (⟨t.rb i, 0, none⟩ : Addr)) = _
    rw [if_neg (by omega)]
theorem rawOk_congr {r r' : RLay} {X : Nat → Nat → Int} (h1 : r.na = r'.na) (h2 : r.nn = r'.nn) (h3 : r.rl = r'.rl) : rawOk r X = rawOk r' X := by
  have : ∀ k, rowsOk r X k = rowsOk r' X k := by
    intro k
    induction k with
    | zero => rfl
    | succ k ih => simp only [rowsOk, ih, h2, h3]
  simp only [rawOk, h1, h2, this]
theorem rawTab_congr {r r' : RLay} {A : Nat → Bool} {X : Nat → Nat → Int} (h : r.nn = r'.nn) : rawTab r A X = rawTab r' A X := by simp only [rawTab, h]

/-- The copy's lists. -/
theorem CopyAt.raw {N : Nat} {w : World} {ga gn : Nat} {rb rc : Nat → Nat} {na nn : Nat} {rl : Nat → Nat} {A : Nat → Bool} {X : Nat → Nat → Int} (h : CopyAt N w ga gn rb rc na nn rl A X) (ca cn : Nat) (b1 : na ≤ 9223372036854775807) (b2 : nn ≤ 9223372036854775807) (b3 : ∀ i, i < nn → rl i ≤ 9223372036854775807) :
    RawAt w ⟨if na = 0 then none else some ⟨ga, 0, none⟩, if nn = 0 then none else some ⟨gn, 0, none⟩, na, if na = 0 then 0 else ca, nn, if nn = 0 then 0 else cn, fun i => if rl i = 0 then none else some ⟨rb i, 0, none⟩, rl, fun i => if rl i = 0 then 0 else rc i⟩ A X :=
  raw_of _ _ (fun h0 => ⟨if_neg (by omega), (h.acc h0).2⟩) (fun h0 => ⟨if_neg (by omega), (h.nxt h0).2⟩) (fun j hj hl => (h.row j hj hl).2) b1 b2 b3

/-- A step, as it comes in. -/
def opv (kind a b c d : Int) (s : ByteArray) (lo : Option Addr) (ll lc : Nat) : Value := .agg #[.int .i64 kind, .int .i64 a, .int .i64 b, .int .i64 c, .int .i64 d, .string s, .slice lo ll lc]
theorem cell_seven {w : World} {b : Nat} {x0 x1 x2 x3 x4 x5 x6 : Value} {t : TypeId} (h : w.heap[b]? = some (.cells #[x0, x1, x2, x3, x4, x5, x6] t (0, 0))) : w.cell? ⟨b, 0, none⟩ = some x0 ∧ w.cell? ⟨b, 1, none⟩ = some x1 ∧ w.cell? ⟨b, 2, none⟩ = some x2 ∧ w.cell? ⟨b, 3, none⟩ = some x3 ∧ w.cell? ⟨b, 4, none⟩ = some x4 ∧ w.cell? ⟨b, 5, none⟩ = some x5 ∧ w.cell? ⟨b, 6, none⟩ = some x6 := by
  simp [World.cell?, h]
end Go.Proofs.YtnpbkpfjgnffkaaGreatDoor
