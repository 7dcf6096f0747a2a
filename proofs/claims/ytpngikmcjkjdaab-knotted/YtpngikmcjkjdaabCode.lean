import Derived.Test.YtpngikmcjkjdaabRuns
namespace Go.Proofs.Ytpngikmcjkjdaab
open Go.RowKit
set_option linter.unusedVariables false
set_option linter.unusedSimpArgs false

def pickN (c : Int) (n : Nat) : Nat := ((if c < 0 then -(c + 1) else c) % n).toNat
theorem pickN_lt (c : Int) (n : Nat) (h : 0 < n) : pickN c n < n := by
  unfold pickN
  have h1 := Int.emod_lt_of_pos (if c < 0 then -(c + 1) else c) (b := (n : Int)) (by omega)
  have h2 := Int.emod_nonneg (if c < 0 then -(c + 1) else c) (b := (n : Int)) (by omega)
  omega
theorem neg_tmod_emod (c n : Int) (h : c < 0) : -((c + 1).tmod n) = (-(c + 1)) % n := by
  rw [← Int.neg_tmod, Int.tmod_eq_emod_of_nonneg (by omega)]

set_option maxRecDepth 20000 in
set_option maxHeartbeats 400000 in
theorem pick_any (c : Int) (n : Int) (w : World) (h1 : 1 ≤ n) (h2 : n ≤ 1099511627776) (hc1 : -9223372036854775808 ≤ c) (hc2 : c ≤ 9223372036854775807) :
    Calls Try.prog 17 #[.int .i64 c, .int .i64 n] w fun e w' => e = .returned (.int .i64 (pickN c n.toNat)) ∧ w' = w := by
  have hn : ((n.toNat : Nat) : Int) = n := by omega
  by_cases h : c < 0
  · have he : ((pickN c n.toNat : Nat) : Int) = (-(c + 1)) % n := by
      unfold pickN; rw [if_pos h, hn]; have := Int.emod_nonneg (-(c+1)) (b := n) (by omega); omega
    rw [he]
    clear he hn
    go_enter Try.func17, Try.ntmps17
    go_wp2
    go_ret
    exact ⟨ret_int (neg_tmod_emod c n h), rfl⟩
  · have he : ((pickN c n.toNat : Nat) : Int) = c % n := by
      unfold pickN; rw [if_neg h, hn]; have := Int.emod_nonneg c (b := n) (by omega); omega
    rw [he]
    clear he hn
    go_enter Try.func17, Try.ntmps17
    go_wp2
    go_ret
    exact ⟨rfl, rfl⟩

/-- Raw numbers that came in. -/
structure CodeAt (w : World) (ao : Option Addr) (len : Nat) (z : Nat → Int) : Prop where
  ln : len ≤ 9223372036854775807
  cell : ∀ t, t < len → ∃ b o, ao = some ⟨b, o, none⟩ ∧ w.cell? ⟨b, o + t, none⟩ = some (.int .i64 (z t))
  rng : ∀ t, t < len → -9223372036854775808 ≤ z t ∧ z t ≤ 9223372036854775807
theorem CodeAt.below {w w' : World} {ao : Option Addr} {len : Nat} {z : Nat → Int} (h : CodeAt w ao len z) (hb : Below w.heap.size w w') : CodeAt w' ao len z :=
  ⟨h.ln, fun t ht => by obtain ⟨b, o, e, hc⟩ := h.cell t ht; exact ⟨b, o, e, by rw [(bcell hb).1 _ _ (lt_of_cell hc)]; exact hc⟩, h.rng⟩
end Go.Proofs.Ytpngikmcjkjdaab
