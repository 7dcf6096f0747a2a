import Derived.Test.YtpngikmcjkjdaaaGreatDoorJoin
namespace Go.Proofs.YtpngikmcjkjdaaaGreatDoor
open Go.RowKit
set_option linter.unusedVariables false

theorem isBudget_ok (n : Int) (w : World) :
    Calls Tryz.prog 62 #[.int .i64 n] w fun e w' => e = .returned (.bool (decide (1 ≤ n) && decide (n ≤ 40))) ∧ w' = w := by
  by_cases h1 : 1 ≤ n
  · by_cases h2 : n ≤ 40
    · have e : (decide (1 ≤ n) && decide (n ≤ 40)) = true := by simp [h1, h2]
      rw [e]
      go_enter Tryz.func62, Tryz.ntmps62
      go_wp2_with fail
      go_ret
      exact ⟨ret_bool (by simp), rfl⟩
    · have e : (decide (1 ≤ n) && decide (n ≤ 40)) = false := by simp [h2]
      rw [e]
      go_enter Tryz.func62, Tryz.ntmps62
      go_wp2_with fail
      go_ret
      exact ⟨ret_bool (by simp), rfl⟩
  · have e : (decide (1 ≤ n) && decide (n ≤ 40)) = false := by simp [h1]
    rw [e]
    go_enter Tryz.func62, Tryz.ntmps62
    go_wp2_with fail
    go_ret
    exact ⟨ret_bool (by simp), rfl⟩

theorem joined_ok (how : Int) (a b : Bool) (w : World) (h0 : 0 ≤ how) (h3 : how ≤ 3) :
    Calls Tryz.prog 125 #[.int .i64 how, .bool a, .bool b] w fun e w' => e = .returned (.bool (joinB how a b)) ∧ w' = w := by
  have hc : how = 0 ∨ how = 1 ∨ how = 2 ∨ how = 3 := by omega
  rcases hc with rfl | rfl | rfl | rfl <;> cases a <;> cases b <;>
    (go_enter Tryz.func125, Tryz.ntmps125
     go_wp2_with fail
     go_ret
     exact ⟨by simp [joinB], rfl⟩)
end Go.Proofs.YtpngikmcjkjdaaaGreatDoor
