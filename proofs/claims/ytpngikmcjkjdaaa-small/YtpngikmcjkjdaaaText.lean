import Derived.Test.YtpngikmcjkjdaaaTable
import Derived.Test.YtpngikmcjkjdaaaConv
namespace Go.Proofs.Ytpngikmcjkjdaaa
open Go.RowKit
set_option linter.unusedVariables false

set_option maxRecDepth 20000 in
set_option maxHeartbeats 1000000 in
theorem kjoined_ok (a b : Bool) (how : Int) (w : World) (h0 : 0 ≤ how) (h1 : how ≤ 3) :
    Calls Try.prog 18 #[.int .i64 how, .bool a, .bool b] w fun e w' => e = .returned (.bool (joinB how a b)) ∧ w' = w := by
  rcases (show how = 0 ∨ how = 1 ∨ how = 2 ∨ how = 3 by omega) with rfl | rfl | rfl | rfl <;> cases a <;> cases b
  all_goals
    go_enter Try.func18, Try.ntmps18
    go_wp2
    go_ret
    exact ⟨rfl, rfl⟩

set_option maxRecDepth 20000 in
set_option maxHeartbeats 1000000 in
theorem text_ok (ao : Option Addr) (len cap : Nat) (z : Nat → Int) (w : World) (h : CodeAt w ao len z) :
    Calls Try.prog 8 #[.slice ao len cap, .int .i64 1000] w fun e w' => ∃ s : ByteArray, e = .returned (.string s) ∧ IsText s ∧ s.size ≤ 1000 ∧ Below w.heap.size w w' := by
  have hln := h.ln
  go_enter Try.func8, Try.ntmps8
  go_wp2_with fail
  go_loopw [5, 6] (fun sv i' wr => ∃ (i : Nat) (s : ByteArray), i ≤ 1000 ∧ i' = .int .i64 i ∧ sv = .string s ∧ IsText s ∧ s.size = i ∧ Below w.heap.size w wr)
    (fun _ i' _ => 1000 - (intOf i').toNat)
  case atStart => exact ⟨0, _, by omega, rfl, rfl, by intro c hc; simp at hc, rfl, Below.refl _ _⟩
  case round =>
    obtain ⟨i, s, hi, rfl, rfl, hs, hsz, hb⟩ := hrel
    have HS : Hid (IsText s) := hs
    have HSZ : Hid (s.size = i) := hsz
    have hsle : s.size ≤ 1000 := by omega
    clear hs hsz
    by_cases hlt : i < len
    · by_cases hl : i < 1000
      · obtain ⟨b, o, rfl, hc⟩ := (h.below hb).cell i hlt
        have hr := h.rng i hlt
        obtain ⟨pv, HPV⟩ : ∃ x, Hid (pickN (z i) 8 = x) := ⟨_, rfl⟩
        have hpv : pv < 8 := by rw [← HPV.out]; exact pickN_lt _ _ (by omega)
        have HB : Hid (Below w.heap.size w wr) := hb
        have hbs := hb.size
        clear h hb
        go_wp2_with fail
        refine (pick_any (z i) 8 _ (by omega) (by omega) hr.1 hr.2).mono ?_
        rw [show (8 : Int).toNat = 8 from rfl, HPV.out]
        rintro e w' ⟨rfl, hw'⟩
        obtain rfl : wr = w' := hw'.symm
        have hcv := conv_note pv hpv
        go_wp2_with fail
        go_roundw
        case rel =>
          have hz := HSZ.out
          refine ⟨i + 1, s ++ ⟨#[noteB pv]⟩, by omega, by go_num, ?_, isText_push _ _ HS.out (isText_note pv hpv), ?_, ?_⟩
          · rfl
          · rw [ByteArray.size_append, hz]; rfl
          · exact HB.out.alloc (by omega) _
        case measure => simp [intOf]; omega
      · have hbn : ((i : Int) < 1000) = False := by simp; omega
        clear h
        go_wp2_with fail
        go_ret
        exact ⟨s, rfl, HS.out, hsle, hb⟩
    · clear h
      go_wp2_with fail
      go_ret
      exact ⟨s, rfl, HS.out, hsle, hb⟩
end Go.Proofs.Ytpngikmcjkjdaaa
