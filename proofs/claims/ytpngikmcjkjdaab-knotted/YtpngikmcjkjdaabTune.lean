import Derived.Test.YtpngikmcjkjdaabRuns
namespace Go.Proofs.Ytpngikmcjkjdaab
open Go.RowKit
set_option linter.unusedVariables false
set_option linter.unusedSimpArgs false

set_option maxRecDepth 20000 in
set_option maxHeartbeats 800000 in
theorem isTune_ok (s : ByteArray) (w : World) (hs : s.size ≤ maxLen) :
    Calls Try.prog 59 #[.string s] w fun e w' => e = .returned (.bool (decide (s.size ≤ 12) && textTo s s.size)) ∧ w' = w := by
  unfold maxLen at hs
  by_cases hl : s.size ≤ 12
  · have e : (decide (s.size ≤ 12) && textTo s s.size) = textTo s s.size := by simp [hl]
    rw [e]
    clear e
    go_enter Try.func59, Try.ntmps59
    go_wp2_with fail
    go_loop [3] (fun i' => ∃ i : Nat, i ≤ s.size ∧ i' = .int .i64 i ∧ textTo s i = true) (fun i' => s.size - (intOf i').toNat)
    case atStart => exact ⟨0, by omega, rfl, rfl⟩
    case round =>
      obtain ⟨i, hi, rfl, ht⟩ := hrel
      by_cases hlt : i < s.size
      · have hg := getD_byte s i hlt
        have hts : textTo s (i + 1) = (decide (97 ≤ s[i].toNat) && decide (s[i].toNat ≤ 104)) := by simp only [textTo, ht, Bool.true_and, hg]
        by_cases h97 : 97 ≤ s[i].toNat ∧ s[i].toNat ≤ 104
        · have HT : Hid (textTo s (i + 1) = true) := by unfold Hid; rw [hts]; simp [h97.1, h97.2]
          have HC := isNote_yes (s[i].toNat : Int) w (by omega) (by omega)
          clear hts hg ht
          go_wp2_with fail
          refine HC.mono ?_
          rintro e w' ⟨rfl, rfl⟩
          clear HC
          go_wp2_with fail
          go_round
          case rel => exact ⟨i + 1, by omega, by go_num, HT.out⟩
          case measure => simp [intOf]; omega
        · have HT : Hid (textTo s s.size = false) := textTo_mono s (i + 1) _ (by omega) (by rw [hts]; simp; omega)
          have HC := isNote_no (s[i].toNat : Int) w (by omega)
          clear hts hg ht
          go_wp2_with fail
          refine HC.mono ?_
          rintro e w' ⟨rfl, rfl⟩
          clear HC
          go_wp2_with fail
          go_ret
          exact ⟨ret_bool HT.out.symm, rfl⟩
      · have e : i = s.size := by omega
        subst e
        have HT : Hid (textTo s s.size = true) := ht
        clear ht
        go_wp2_with fail
        go_ret
        exact ⟨ret_bool HT.out.symm, rfl⟩
  · have e : (decide (s.size ≤ 12) && textTo s s.size) = false := by simp [hl]
    rw [e]
    clear e
    go_enter Try.func59, Try.ntmps59
    go_wp2_with fail
    go_ret
    exact ⟨rfl, rfl⟩
end Go.Proofs.Ytpngikmcjkjdaab
