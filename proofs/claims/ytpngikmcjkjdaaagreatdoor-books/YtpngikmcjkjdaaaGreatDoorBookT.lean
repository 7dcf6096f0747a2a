import Derived.Test.YtpngikmcjkjdaaaGreatDoorBookX
import Derived.Test.YtpngikmcjkjdaaaGreatDoorBookRK
import Derived.Test.YtpngikmcjkjdaaaGreatDoorMarkW
namespace Go.Proofs.YtpngikmcjkjdaaaGreatDoor
open Go.RowKit
set_option linter.unusedVariables false
set_option linter.unusedSimpArgs false

set_option maxRecDepth 20000 in
theorem rnew_ok (w : World) (t : Nat → ByteArray) :
    Calls Tryz.prog 20 #[] w fun e w' => Below w.heap.size w w' ∧ ∃ b, e = .returned (.pointer (some ⟨b, 0, none⟩)) ∧ w.heap.size ≤ b ∧ ByAt w' b (.slice none 0 0) t 0 cur0 := by
  go_enter Tryz.func20, Tryz.ntmps20
  go_wp2_with fail
  go_ret
  refine ⟨(Below.refl _ _).alloc (Nat.le_refl _) _, _, rfl, Nat.le_refl _, ⟨_, heap_at_new rfl, rfl, ?_⟩, World.ownsRow_nil _ _ _ _⟩
  exact fun i hi => match i, hi with
    | 0, _ => rfl
    | 1, _ => rfl
    | 2, _ => rfl
    | 3, _ => rfl
    | 4, _ => rfl
    | 5, _ => rfl
    | 6, _ => rfl
    | 7, _ => rfl
    | 8, _ => rfl
    | 9, _ => rfl
    | 10, _ => rfl
    | 11, _ => rfl
    | 12, _ => rfl
    | 13, _ => rfl
    | 14, _ => rfl
    | 15, _ => rfl
    | 16, _ => rfl
    | 17, _ => rfl
    | 18, _ => rfl
    | 19, _ => rfl
    | 20, _ => rfl
    | i + 21, h => by omega
end Go.Proofs.YtpngikmcjkjdaaaGreatDoor
