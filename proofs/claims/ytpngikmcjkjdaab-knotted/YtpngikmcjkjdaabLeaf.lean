import Derived.Test.YtpngikmcjkjdaabBase
namespace Go.Proofs.Ytpngikmcjkjdaab
open Go.RowKit
set_option linter.unusedVariables false

set_option maxRecDepth 20000 in
set_option maxHeartbeats 400000 in
theorem isNote_yes (b : Int) (w : World) (h1 : 97 ≤ b) (h2 : b ≤ 104) :
    Calls Try.prog 79 #[.int .u8 b] w fun e w' => e = .returned (.bool true) ∧ w' = w := by
  go_enter Try.func79, Try.ntmps79
  go_wp2
  go_ret
  exact ⟨ret_bool (by simp; omega), rfl⟩

set_option maxRecDepth 20000 in
set_option maxHeartbeats 400000 in
theorem isNote_no (b : Int) (w : World) (h1 : b < 97 ∨ 104 < b) :
    Calls Try.prog 79 #[.int .u8 b] w fun e w' => e = .returned (.bool false) ∧ w' = w := by
  rcases h1 with h | h
  · have h' : ¬ 97 ≤ b := by omega
    go_enter Try.func79, Try.ntmps79
    go_wp2
    go_ret
    exact ⟨ret_bool (by simp), rfl⟩
  · have h' : 97 ≤ b := by omega
    go_enter Try.func79, Try.ntmps79
    go_wp2
    go_ret
    exact ⟨ret_bool (by simp; omega), rfl⟩

set_option maxRecDepth 20000 in
set_option maxHeartbeats 400000 in
theorem number_yes (b : Int) (w : World) (h1 : 97 ≤ b) (h2 : b ≤ 104) :
    Calls Try.prog 58 #[.int .u8 b] w fun e w' => e = .returned (.tuple #[.int .i64 (b - 97), .bool true]) ∧ w' = w := by
  go_enter Try.func58, Try.ntmps58
  go_wp2_with fail
  refine (isNote_yes b w h1 h2).mono ?_
  rintro e w' ⟨rfl, rfl⟩
  go_wp2
  go_ret2
  exact ⟨rfl, rfl⟩

set_option maxRecDepth 20000 in
set_option maxHeartbeats 400000 in
theorem number_no (b : Int) (w : World) (h1 : b < 97 ∨ 104 < b) :
    Calls Try.prog 58 #[.int .u8 b] w fun e w' => e = .returned (.tuple #[.int .i64 0, .bool false]) ∧ w' = w := by
  go_enter Try.func58, Try.ntmps58
  go_wp2_with fail
  refine (isNote_no b w h1).mono ?_
  rintro e w' ⟨rfl, rfl⟩
  go_wp2
  go_ret2
  exact ⟨rfl, rfl⟩

set_option maxRecDepth 20000 in
set_option maxHeartbeats 400000 in
theorem validRow_no (ao : Option Addr) (l c : Nat) (n : Int) (w : World) (hl : l ≠ 8) (hl2 : l ≤ 9223372036854775807) :
    Calls Try.prog 76 #[.slice ao l c, .int .i64 n] w fun e w' => e = .returned (.bool false) ∧ w' = w := by
  have hb : (((l : Nat) : Int) != 8) = true := by rw [bne_iff_ne]; omega
  go_enter Try.func76, Try.ntmps76
  go_wp2
  go_ret
  exact ⟨rfl, rfl⟩

def rowOk (f : Nat → Int) (n : Int) : Nat → Bool
  | 0 => true
  | k + 1 => rowOk f n k && (decide (0 ≤ f k) && decide (f k < n))

theorem rowOk_iff (f : Nat → Int) (n : Int) (k : Nat) : rowOk f n k = true ↔ ∀ c, c < k → 0 ≤ f c ∧ f c < n := by
  induction k with
  | zero => simp [rowOk]
  | succ k ih =>
    simp only [rowOk, Bool.and_eq_true, ih, decide_eq_true_eq]
    constructor
    · rintro ⟨h, h1, h2⟩ c hc
      by_cases e : c = k
      · subst e; exact ⟨h1, h2⟩
      · exact h c (by omega)
    · intro h
      exact ⟨fun c hc => h c (by omega), h k (by omega)⟩

theorem rowOk_mono (f : Nat → Int) (n : Int) (k m : Nat) (hk : k ≤ m) (h : rowOk f n k = false) : rowOk f n m = false := by
  rw [Bool.eq_false_iff] at h ⊢
  intro hm; apply h; rw [rowOk_iff] at hm ⊢; exact fun c hc => hm c (by omega)

set_option maxRecDepth 20000 in
set_option maxHeartbeats 800000 in
theorem validRow_8 (b o c : Nat) (f : Nat → Int) (n : Int) (w : World) (hc : ∀ k, k < 8 → w.cell? ⟨b, o + k, none⟩ = some (.int .i64 (f k))) :
    Calls Try.prog 76 #[.slice (some ⟨b, o, none⟩) 8 c, .int .i64 n] w fun e w' => e = .returned (.bool (rowOk f n 8)) ∧ w' = w := by
  go_enter Try.func76, Try.ntmps76
  go_wp2
  go_loop [6, 12] (fun _ i => ∃ k : Nat, k ≤ 8 ∧ i = .int .i64 k ∧ rowOk f n k = true) (fun _ i => 8 - (intOf i).toNat)
  case atStart => exact ⟨0, by omega, rfl, rfl⟩
  case round =>
    obtain ⟨k, hk, rfl, hr⟩ := hrel
    by_cases hlt : k < 8
    · have hck := hc k hlt
      by_cases h0 : f k < 0
      · have HF : Hid (rowOk f n 8 = false) := by
          apply rowOk_mono f n (k+1) 8 (by omega)
          simp only [rowOk, hr, Bool.true_and, Bool.and_eq_false_iff, decide_eq_false_iff_not]; left; omega
        clear hr hc
        go_wp2
        go_ret
        exact ⟨ret_bool HF.out.symm, rfl⟩
      · by_cases h1 : f k < n
        · have HR : Hid (rowOk f n (k+1) = true) := by
            simp only [Hid, rowOk, hr, Bool.true_and, Bool.and_eq_true, decide_eq_true_eq]; omega
          clear hr hc
          go_wp2
          go_round
          case rel => exact ⟨k + 1, by omega, by go_num, HR.out⟩
          case measure => simp [intOf]; omega
        · have HF : Hid (rowOk f n 8 = false) := by
            apply rowOk_mono f n (k+1) 8 (by omega)
            simp only [rowOk, hr, Bool.true_and, Bool.and_eq_false_iff, decide_eq_false_iff_not]; right; omega
          clear hr hc
          go_wp2
          go_ret
          exact ⟨ret_bool HF.out.symm, rfl⟩
    · have e : k = 8 := by omega
      subst e
      have HR : Hid (rowOk f n 8 = true) := hr
      clear hr hc
      go_wp2
      go_ret
      exact ⟨ret_bool HR.out.symm, rfl⟩
end Go.Proofs.Ytpngikmcjkjdaab
