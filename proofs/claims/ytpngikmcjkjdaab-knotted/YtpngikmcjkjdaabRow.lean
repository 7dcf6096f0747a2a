import Derived.Test.YtpngikmcjkjdaabCode
import Derived.OpenShut
namespace Go.Proofs.Ytpngikmcjkjdaab
open Go.RowKit
set_option linter.unusedVariables false

/-- A slice of integers that came in. -/
def IsRow (k : IntKind) (w : World) (a : Option Addr) (len cap : Nat) (zs : List Int) : Prop :=
  (a = none ∧ len = 0 ∧ cap = 0 ∧ zs = []) ∨
  ∃ x, a = some x ∧ len ≤ cap ∧ cap ≤ maxLen ∧ zs.length = cap ∧ (∀ i, i < zs.length → w.cell? (x.add i) = some (.int k (zs.getD i 0))) ∧ ∀ n ∈ zs, (Lit.int k n).wf = true

theorem wf_i64 {n : Int} (h : (Lit.int .i64 n).wf = true) : -9223372036854775808 ≤ n ∧ n ≤ 9223372036854775807 := bounds_i64 h

theorem codeAt_of_row {w : World} {a : Option Addr} {len cap : Nat} {zs : List Int} (h : IsRow .i64 w a len cap zs) : CodeAt w a len (fun t => zs.getD t 0) := by
  rcases h with ⟨rfl, rfl, rfl, rfl⟩ | ⟨x, rfl, hl, hm, hz, hc, hw⟩
  · exact ⟨by omega, fun t ht => absurd ht (by omega), fun t ht => absurd ht (by omega)⟩
  · unfold maxLen at hm
    refine ⟨by omega, fun t ht => ?_, fun t ht => ?_⟩
    · obtain ⟨b, off, rfl, hcc⟩ := Go.ints_at hc (by omega)
      exact ⟨b, off, rfl, hcc t (by omega)⟩
    · have : zs.getD t 0 ∈ zs := by
        rw [List.getD_eq_getElem?_getD, List.getElem?_eq_getElem (show t < zs.length by omega)]; exact List.getElem_mem _
      exact wf_i64 (hw _ this)
end Go.Proofs.Ytpngikmcjkjdaab
