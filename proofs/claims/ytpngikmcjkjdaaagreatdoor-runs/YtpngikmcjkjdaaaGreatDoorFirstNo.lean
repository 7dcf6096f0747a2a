import Derived.Test.YtpngikmcjkjdaaaGreatDoorFirst
import Derived.Test.YtpngikmcjkjdaaaGreatDoorRaw
namespace Go.Proofs.YtpngikmcjkjdaaaGreatDoor
open Go.RowKit
set_option linter.unusedVariables false

-- First on lists that are no table.
set_option maxRecDepth 20000 in
set_option maxHeartbeats 800000 in
theorem tfirst_no (r : RLay) (A : Nat → Bool) (X : Nat → Nat → Int) (w : World) (h : RawAt w r A X) (hok : rawOk r X = false) :
    Calls Tryz.prog 77 #[.agg #[.slice r.aa r.na r.ca, .slice r.an r.nn r.cn]] w
      fun e w' => e = .returned (.tuple #[.string ⟨#[]⟩, .bool false, .int .i64 6]) ∧ Below w.heap.size w w' := by
  have B1 : Below w.heap.size w (w.alloc (.cells #[.slice r.aa r.na r.ca, .slice r.an r.nn r.cn] 41)) := (Below.refl _ _).alloc (Nat.le_refl _) _
  have HV := valid_any r A X _ (h.below B1)
  rw [hok] at HV
  clear h hok
  go_enter Tryz.func77, Tryz.ntmps77
  go_wp2_with fail
  refine HV.mono ?_
  rintro e w1 ⟨rfl, hb1⟩
  have B2 : Below w.heap.size w w1 := B1.trans (hb1.mono (by simp))
  clear HV hb1
  go_wp2_with fail
  go_ret3
  exact ⟨rfl, B2⟩
set_option maxRecDepth 20000 in
set_option maxHeartbeats 800000 in
theorem first_no (r : RLay) (A : Nat → Bool) (X : Nat → Nat → Int) (w : World) (h : RawAt w r A X) (hok : rawOk r X = false) :
    Calls Tryz.prog 34 #[.agg #[.slice r.aa r.na r.ca, .slice r.an r.nn r.cn]] w
      fun e w' => e = .returned (.tuple #[.string ⟨#[]⟩, .bool false, .int .i64 6]) ∧ Below w.heap.size w w' := by
  have B1 : Below w.heap.size w (w.alloc (.cells #[.slice r.aa r.na r.ca, .slice r.an r.nn r.cn] 41)) := (Below.refl _ _).alloc (Nat.le_refl _) _
  have HV := tfirst_no r A X _ (h.below B1) hok
  clear h hok
  go_enter Tryz.func34, Tryz.ntmps34
  go_wp2_with fail
  refine HV.mono ?_
  rintro e w1 ⟨rfl, hb1⟩
  go_wp2
  go_ret3
  exact ⟨rfl, B1.trans (hb1.mono (by simp))⟩
end Go.Proofs.YtpngikmcjkjdaaaGreatDoor
