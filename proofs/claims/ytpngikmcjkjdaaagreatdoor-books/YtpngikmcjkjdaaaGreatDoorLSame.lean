import Derived.Test.YtpngikmcjkjdaaaGreatDoorRaw
import Derived.Deep.QuietTactic
import Derived.BigQuiet
namespace Go.Proofs.YtpngikmcjkjdaaaGreatDoor
open Go.RowKit
set_option linter.unusedVariables false

theorem raw_acc {w : World} {aa an : Option Addr} {na ca nn cn : Nat} {ra : Nat → Option Addr} {rl rc : Nat → Nat} {A : Nat → Bool} {X : Nat → Nat → Int} (h : RawAt w ⟨aa, an, na, ca, nn, cn, ra, rl, rc⟩ A X) (i : Nat) (hi : i < na) :
    ∃ b o, aa = some ⟨b, o, none⟩ ∧ w.cell? ⟨b, o + i, none⟩ = some (.bool (A i)) := h.acc i hi
theorem raw_row {w : World} {aa an : Option Addr} {na ca nn cn : Nat} {ra : Nat → Option Addr} {rl rc : Nat → Nat} {A : Nat → Bool} {X : Nat → Nat → Int} (h : RawAt w ⟨aa, an, na, ca, nn, cn, ra, rl, rc⟩ A X) (i : Nat) (hi : i < nn) :
    ∃ b o, an = some ⟨b, o, none⟩ ∧ w.cell? ⟨b, o + i, none⟩ = some (.slice (ra i) (rl i) (rc i)) := h.row i hi
theorem raw_cel {w : World} {aa an : Option Addr} {na ca nn cn : Nat} {ra : Nat → Option Addr} {rl rc : Nat → Nat} {A : Nat → Bool} {X : Nat → Nat → Int} (h : RawAt w ⟨aa, an, na, ca, nn, cn, ra, rl, rc⟩ A X) (i c : Nat) (hi : i < nn) (hc : c < rl i) :
    ∃ b o, ra i = some ⟨b, o, none⟩ ∧ w.cell? ⟨b, o + c, none⟩ = some (.int .i64 (X i c)) := h.cel i c hi hc

set_option maxRecDepth 20000 in
set_option maxHeartbeats 2000000 in
theorem lsame_ok (aa an bb bn : Option Addr) (na ca cb nn cn dn : Nat) (ra rb : Nat → Option Addr) (rl rc rd : Nat → Nat) (A : Nat → Bool) (X : Nat → Nat → Int) (w : World)
    (h1 : RawAt w ⟨aa, an, na, ca, nn, cn, ra, rl, rc⟩ A X) (h2 : RawAt w ⟨bb, bn, na, cb, nn, dn, rb, rl, rd⟩ A X) :
    Calls Tryz.prog 58 #[.agg #[.slice aa na ca, .slice an nn cn], .agg #[.slice bb na cb, .slice bn nn dn]] w fun e w' => e = .returned (.bool true) ∧ Below w.heap.size w w' := by
  have hla : na ≤ 9223372036854775807 := h1.la
  have hln : nn ≤ 9223372036854775807 := h1.ln
  obtain ⟨W, hW⟩ : ∃ W, W = (w.alloc (.cells #[.slice aa na ca, .slice an nn cn] 41)).alloc (.cells #[.slice bb na cb, .slice bn nn dn] 41) := ⟨_, rfl⟩
  have BW : Below w.heap.size w W := by
    rw [hW]; exact ((Below.refl _ _).alloc (Nat.le_refl _) _).alloc (by simp) _
  have b0 : W.heap[w.heap.size]? = some (.cells #[.slice aa na ca, .slice an nn cn] 41 (0, 0)) := by rw [hW]; exact heap_at_old (heap_at_new (by simp))
  have b1 : W.heap[w.heap.size + 1]? = some (.cells #[.slice bb na cb, .slice bn nn dn] 41 (0, 0)) := by rw [hW]; exact heap_at_new (by simp)
  have k1 := h1.below BW
  have k2 := h2.below BW
  have HLR : Hid (∀ i, i < nn → rl i ≤ 9223372036854775807) := h1.lr
  clear h1 h2
  obtain ⟨x0, x1, _, _⟩ := cell_two b0
  obtain ⟨x2, x3, _, _⟩ := cell_two b1
  have en : ((na : Int) != (na : Int)) = false := by simp
  have em : ((nn : Int) != (nn : Int)) = false := by simp
  go_enter Tryz.func58, Tryz.ntmps58
  go_upto_region 1 with fail
  rw [← hW]
  clear hW
  go_wp2_with fail
  clear en em
  go_loopw [5] (fun i' wr => ∃ i q : Nat, i ≤ na ∧ i' = .int .i64 i ∧ wr = W.drewN q) (fun i' _ => na - (intOf i').toNat)
  case atStart => exact ⟨0, 0, by omega, rfl, rfl⟩
  case round =>
    obtain ⟨i, q, hi, rfl, rfl⟩ := hrel
    by_cases hlt : i < na
    · obtain ⟨ba, oa, rfl, c0⟩ := raw_acc k1 i hlt
      obtain ⟨bc, oc, rfl, c1⟩ := raw_acc k2 i hlt
      have ee : (A i != A i) = false := by simp
      clear k1 k2
      go_wp2_with fail
      go_quiet (fail)
      go_wp2_with fail
      go_roundw
      case rel => exact ⟨i + 1, _, by omega, by go_num, rfl⟩
      case measure => simp [intOf]; omega
    · have he : i = na := by omega
      subst he
      go_wp2_with fail
      go_loopw [6] (fun j' wr => ∃ j q : Nat, j ≤ nn ∧ j' = .int .i64 j ∧ wr = W.drewN q) (fun j' _ => nn - (intOf j').toNat)
      case atStart => exact ⟨0, _, by omega, rfl, rfl⟩
      case round =>
        obtain ⟨j, q2, hj, rfl, rfl⟩ := hrel
        by_cases hltj : j < nn
        · obtain ⟨ba, oa, rfl, c0⟩ := raw_row k1 j hltj
          obtain ⟨bc, oc, rfl, c1⟩ := raw_row k2 j hltj
          have hlr := HLR.out j hltj
          have K1 : Hid _ := fun c => raw_cel k1 j c hltj
          have K2 : Hid _ := fun c => raw_cel k2 j c hltj
          obtain ⟨l, HL⟩ : ∃ l, Hid (rl j = l) := ⟨_, rfl⟩
          rw [HL.out] at c0 c1 hlr
          have em : ((l : Int) != (l : Int)) = false := by simp
          clear k1 k2
          go_wp2_with fail
          go_quiet (fail)
          go_wp2_with fail
          go_loopw [7] (fun c' wr => ∃ c q : Nat, c ≤ l ∧ c' = .int .i64 c ∧ wr = W.drewN q) (fun c' _ => l - (intOf c').toNat)
          case atStart => exact ⟨0, _, by omega, rfl, World.drewN_drewN _ _ _⟩
          case round =>
            obtain ⟨c, q3, hc, rfl, rfl⟩ := hrel
            by_cases hltc : c < l
            · obtain ⟨p, o, e1, d0⟩ := K1.out c (by rw [HL.out]; exact hltc)
              obtain ⟨p', o', e2, d1⟩ := K2.out c (by rw [HL.out]; exact hltc)
              rw [e1] at c0
              rw [e2] at c1
              have ee : (X j c != X j c) = false := by simp
              clear K1 K2
              go_wp2_with fail
              go_quiet (fail)
              go_wp2_with fail
              go_roundw
              case rel => exact ⟨c + 1, _, by omega, by go_num, rfl⟩
              case measure => simp [intOf]; omega
            · have he : c = l := by omega
              subst he
              go_wp2_with fail
              go_roundw
              case rel => exact ⟨j + 1, _, by omega, by go_num, rfl⟩
              case measure => simp [intOf]; omega
        · have he : j = nn := by omega
          subst he
          go_wp2_with fail
          go_ret
          exact ⟨rfl, below_drewN BW _⟩
end Go.Proofs.YtpngikmcjkjdaaaGreatDoor
