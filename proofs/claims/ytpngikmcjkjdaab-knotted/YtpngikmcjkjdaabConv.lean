import Derived.Test.YtpngikmcjkjdaabRuns
namespace Go.Proofs.Ytpngikmcjkjdaab
open Go.RowKit
set_option linter.unusedVariables false

theorem conv_note (pv : Nat) (h : pv < 8) (u : World) : Sem.run Try.prog (convert 70 9 (.slice (some ⟨u.heap.size, 0, none⟩) 1 1)) (u.alloc (.cells #[.int .u8 (97 + (pv : Int))] 5)) =
    .ok (.string ⟨#[noteB pv]⟩) (u.alloc (.cells #[.int .u8 (97 + (pv : Int))] 5)) := by
  have h1 := run_convert_bytes_back (P := Try.prog) (u.alloc (.cells #[.int .u8 (97 + (pv : Int))] 5)) 70 9 5 ⟨u.heap.size, 0, none⟩ 1 [noteB pv] Try.underlying70 Try.underlying5 Try.underlying9 (by
    intro j hj
    have : j = 0 := by simp at hj; omega
    subst this
    have := cell_one_new u (.int .u8 (97 + (pv : Int))) 5 0 _ rfl
    rw [this]
    simp only [List.getElem_cons_zero, toNat_note pv h]
    rfl)
  exact h1
end Go.Proofs.Ytpngikmcjkjdaab
