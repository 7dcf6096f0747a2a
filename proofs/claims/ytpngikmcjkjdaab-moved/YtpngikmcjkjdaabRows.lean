/-
  No cell of these rows narrows 'for every input' (looked for: loops, veiled, ifaces, maps, wideKeys, modest, calm, conditions, laid).
  DERIVED. THE GIVEN ROWS OF THIS SEAT. 7 by the template 'for every input the law returns true; each argument reads behind the call as it read before'; 0 by the template 'total and deterministic' (their statements: YtpngikmcjkjdaabTotals.lean).
  GIVEN WITH THE SEED: the statements are not yours to turn. If you find one false, say at which input.
  Laid BY PROGRAM, IN A SANDBOX (cutbox-rows.mjs): the forced cells as the released guide's own fill.sh prints them over the translation bdc3b69f7211510b… (all of the seat's roots in one cut). By AI agents, Wed Nov 11 2026. No macro, syntax, notation, axiom, sorry.
-/
import Derived.Test.YtpngikmcjkjdaabChecked
import GoSem.Claim
import GoSem.ClaimJoined
import GoSem.ClaimMapViews
import Derived.JoinedTies
import Derived.KernelRfl
namespace Go.Proofs.Ytpngikmcjkjdaab
/- THE CELL 'sum', in the pinned program and in every row, IS THE sha256 OF THE DUMP (.gsa) THAT YtpngikmcjkjdaabProg.lean LOADS. Nothing in Lean hashes anything: it is a label: what it is worth is what the hold of that sum in a sandbox is worth. -/
noncomputable def Try.pinned : Pinned := { name := "ytpngikmcjkjdaab", sum := "bdc3b69f7211510b38e55d6f5e6aebb8a4f9afed78838a1e9a3cccd8b2f0950f", checked := Try.checked }
namespace Rows
def none {H : Type} : Left H := { results := [], args := [] }

/-- 'tuneskeep.Marked': WHATEVER THE INPUT: true; the input reads as it did. -/
def markedSpec : ChangeSpec := { name := "marked", fn := fun _ => fun
  | [d] => { results := [.lit (.bool true)], args := [d] }
  | _ => none }
def markedRow : OpenClaim := { program := "ytpngikmcjkjdaab", sum := "bdc3b69f7211510b38e55d6f5e6aebb8a4f9afed78838a1e9a3cccd8b2f0950f", func := "tunes/tuneskeep.Marked", spec := "marked", recurses := true, apart := false }
def MarkedSaid : Prop := markedRow.holds Try.pinned (OpenSpec.ofChange markedSpec)

/-- ITS FALSE NEIGHBOUR: 'it returns false'. Refute it at one input. -/
def markedWrong : ChangeSpec := { name := "marked", fn := fun _ => fun
  | [d] => { results := [.lit (.bool false)], args := [d] }
  | _ => none }
def MarkedWrongFalsely : Prop := markedRow.holds Try.pinned (OpenSpec.ofChange markedWrong)

/-- 'tuneskeep.Joint': WHATEVER THE INPUT: true; the input reads as it did. -/
def jointSpec : ChangeSpec := { name := "joint", fn := fun _ => fun
  | [d1, d2] => { results := [.lit (.bool true)], args := [d1, d2] }
  | _ => none }
def jointRow : OpenClaim := { program := "ytpngikmcjkjdaab", sum := "bdc3b69f7211510b38e55d6f5e6aebb8a4f9afed78838a1e9a3cccd8b2f0950f", func := "tunes/tuneskeep.Joint", spec := "joint", recurses := true, apart := false }
def JointSaid : Prop := jointRow.holds Try.pinned (OpenSpec.ofChange jointSpec)

/-- ITS FALSE NEIGHBOUR: 'it returns false'. Refute it at one input. -/
def jointWrong : ChangeSpec := { name := "joint", fn := fun _ => fun
  | [d1, d2] => { results := [.lit (.bool false)], args := [d1, d2] }
  | _ => none }
def JointWrongFalsely : Prop := jointRow.holds Try.pinned (OpenSpec.ofChange jointWrong)

/-- 'tuneskeep.Listed': WHATEVER THE INPUT: true; the input reads as it did. -/
def listedSpec : ChangeSpec := { name := "listed", fn := fun _ => fun
  | [d1, d2, d3] => { results := [.lit (.bool true)], args := [d1, d2, d3] }
  | _ => none }
def listedRow : OpenClaim := { program := "ytpngikmcjkjdaab", sum := "bdc3b69f7211510b38e55d6f5e6aebb8a4f9afed78838a1e9a3cccd8b2f0950f", func := "tunes/tuneskeep.Listed", spec := "listed", recurses := true, apart := false }
def ListedSaid : Prop := listedRow.holds Try.pinned (OpenSpec.ofChange listedSpec)

/-- ITS FALSE NEIGHBOUR: 'it returns false'. Refute it at one input. -/
def listedWrong : ChangeSpec := { name := "listed", fn := fun _ => fun
  | [d1, d2, d3] => { results := [.lit (.bool false)], args := [d1, d2, d3] }
  | _ => none }
def ListedWrongFalsely : Prop := listedRow.holds Try.pinned (OpenSpec.ofChange listedWrong)

/-- 'tuneskeep.Heard': WHATEVER THE INPUT: true; the input reads as it did. -/
def heardSpec : ChangeSpec := { name := "heard", fn := fun _ => fun
  | [d1, d2, d3, d4] => { results := [.lit (.bool true)], args := [d1, d2, d3, d4] }
  | _ => none }
def heardRow : OpenClaim := { program := "ytpngikmcjkjdaab", sum := "bdc3b69f7211510b38e55d6f5e6aebb8a4f9afed78838a1e9a3cccd8b2f0950f", func := "tunes/tuneskeep.Heard", spec := "heard", recurses := true, apart := false }
def HeardSaid : Prop := heardRow.holds Try.pinned (OpenSpec.ofChange heardSpec)

/-- ITS FALSE NEIGHBOUR: 'it returns false'. Refute it at one input. -/
def heardWrong : ChangeSpec := { name := "heard", fn := fun _ => fun
  | [d1, d2, d3, d4] => { results := [.lit (.bool false)], args := [d1, d2, d3, d4] }
  | _ => none }
def HeardWrongFalsely : Prop := heardRow.holds Try.pinned (OpenSpec.ofChange heardWrong)

/-- 'tuneskeep.Knotted': WHATEVER THE INPUT: true; the input reads as it did. -/
def knottedSpec : ChangeSpec := { name := "knotted", fn := fun _ => fun
  | [d1, d2] => { results := [.lit (.bool true)], args := [d1, d2] }
  | _ => none }
def knottedRow : OpenClaim := { program := "ytpngikmcjkjdaab", sum := "bdc3b69f7211510b38e55d6f5e6aebb8a4f9afed78838a1e9a3cccd8b2f0950f", func := "tunes/tuneskeep.Knotted", spec := "knotted", apart := false }
def KnottedSaid : Prop := knottedRow.holds Try.pinned (OpenSpec.ofChange knottedSpec)

/-- ITS FALSE NEIGHBOUR: 'it returns false'. Refute it at one input. -/
def knottedWrong : ChangeSpec := { name := "knotted", fn := fun _ => fun
  | [d1, d2] => { results := [.lit (.bool false)], args := [d1, d2] }
  | _ => none }
def KnottedWrongFalsely : Prop := knottedRow.holds Try.pinned (OpenSpec.ofChange knottedWrong)

/-- 'tuneskeep.Chosen': WHATEVER THE INPUT: true; the input reads as it did. -/
def chosenSpec : ChangeSpec := { name := "chosen", fn := fun _ => fun
  | [d1, d2, d3] => { results := [.lit (.bool true)], args := [d1, d2, d3] }
  | _ => none }
def chosenRow : OpenClaim := { program := "ytpngikmcjkjdaab", sum := "bdc3b69f7211510b38e55d6f5e6aebb8a4f9afed78838a1e9a3cccd8b2f0950f", func := "tunes/tuneskeep.Chosen", spec := "chosen", recurses := true, apart := false }
def ChosenSaid : Prop := chosenRow.holds Try.pinned (OpenSpec.ofChange chosenSpec)

/-- ITS FALSE NEIGHBOUR: 'it returns false'. Refute it at one input. -/
def chosenWrong : ChangeSpec := { name := "chosen", fn := fun _ => fun
  | [d1, d2, d3] => { results := [.lit (.bool false)], args := [d1, d2, d3] }
  | _ => none }
def ChosenWrongFalsely : Prop := chosenRow.holds Try.pinned (OpenSpec.ofChange chosenWrong)

/-- 'tuneskeep.Moved': WHATEVER THE INPUT: true; the input reads as it did. -/
def movedSpec : ChangeSpec := { name := "moved", fn := fun _ => fun
  | [d1, d2, d3, d4] => { results := [.lit (.bool true)], args := [d1, d2, d3, d4] }
  | _ => none }
def movedRow : OpenClaim := { program := "ytpngikmcjkjdaab", sum := "bdc3b69f7211510b38e55d6f5e6aebb8a4f9afed78838a1e9a3cccd8b2f0950f", func := "tunes/tuneskeep.Moved", spec := "moved", recurses := true, apart := false }
def MovedSaid : Prop := movedRow.holds Try.pinned (OpenSpec.ofChange movedSpec)

/-- ITS FALSE NEIGHBOUR: 'it returns false'. Refute it at one input. -/
def movedWrong : ChangeSpec := { name := "moved", fn := fun _ => fun
  | [d1, d2, d3, d4] => { results := [.lit (.bool false)], args := [d1, d2, d3, d4] }
  | _ => none }
def MovedWrongFalsely : Prop := movedRow.holds Try.pinned (OpenSpec.ofChange movedWrong)

/- THE SECOND FORM. 'bulk': how many values and letters a reading holds, each counted each time it is reached (what is shared counts as often as it is met; a slice's spare places count too). A statement '..UptoSaid' is the law's where the arguments, and the package variables that the reading takes, are together of bulk at most 1048576: NARROWER than '..Said'. Prove '..Said' where nothing that the law and all that it calls make is longer than what came in: it says more and counts as full. Else prove '..UptoSaid'. A law counts once. -/
mutual
def uptoBulk {H : Type} : DataW H → Nat
  | .lit (.string bytes) => bytes.length + 1
  | .lit _ => 1
  | .nil => 1
  | .ptr d => uptoBulk d + 1
  | .slice elems spare => uptoBulkAll elems + uptoBulkAll spare + 1
  | .agg parts => uptoBulkAll parts + 1
  | .iface _ d => uptoBulk d + 1
  | .map entries => uptoBulkEntries entries + 1
  | .held _ => 1
def uptoBulkAll {H : Type} : List (DataW H) → Nat
  | [] => 0
  | d :: r => uptoBulk d + uptoBulkAll r
def uptoBulkEntries {H : Type} : List (Lit × DataW H) → Nat
  | [] => 0
  | x :: r => uptoBulkEntry x + uptoBulkEntries r
def uptoBulkEntry {H : Type} : Lit × DataW H → Nat
  | (.string bytes, d) => bytes.length + uptoBulk d + 1
  | (_, d) => uptoBulk d + 1
 end
def uptoSmall : (H : Type) → List (DataW H) → Bool := fun _ ds => decide (uptoBulkAll ds ≤ 1048576)
def OpenSpec.upto (s : _root_.Go.ChangeSpec) : _root_.Go.OpenSpec := { _root_.Go.OpenSpec.ofChange s with cond := some uptoSmall }

/-- 'tuneskeep.Marked', WHERE WHAT IT READS IS OF BULK AT MOST 1048576: true; the input reads as it did. -/
def markedUptoRow : OpenClaim := { program := "ytpngikmcjkjdaab", sum := "bdc3b69f7211510b38e55d6f5e6aebb8a4f9afed78838a1e9a3cccd8b2f0950f", func := "tunes/tuneskeep.Marked", spec := "marked", recurses := true, apart := false, narrowed := true }
def MarkedUptoSaid : Prop := markedUptoRow.holds Try.pinned (OpenSpec.upto markedSpec)

/-- 'tuneskeep.Joint', WHERE WHAT IT READS IS OF BULK AT MOST 1048576: true; the input reads as it did. -/
def jointUptoRow : OpenClaim := { program := "ytpngikmcjkjdaab", sum := "bdc3b69f7211510b38e55d6f5e6aebb8a4f9afed78838a1e9a3cccd8b2f0950f", func := "tunes/tuneskeep.Joint", spec := "joint", recurses := true, apart := false, narrowed := true }
def JointUptoSaid : Prop := jointUptoRow.holds Try.pinned (OpenSpec.upto jointSpec)

/-- 'tuneskeep.Listed', WHERE WHAT IT READS IS OF BULK AT MOST 1048576: true; the input reads as it did. -/
def listedUptoRow : OpenClaim := { program := "ytpngikmcjkjdaab", sum := "bdc3b69f7211510b38e55d6f5e6aebb8a4f9afed78838a1e9a3cccd8b2f0950f", func := "tunes/tuneskeep.Listed", spec := "listed", recurses := true, apart := false, narrowed := true }
def ListedUptoSaid : Prop := listedUptoRow.holds Try.pinned (OpenSpec.upto listedSpec)

/-- 'tuneskeep.Heard', WHERE WHAT IT READS IS OF BULK AT MOST 1048576: true; the input reads as it did. -/
def heardUptoRow : OpenClaim := { program := "ytpngikmcjkjdaab", sum := "bdc3b69f7211510b38e55d6f5e6aebb8a4f9afed78838a1e9a3cccd8b2f0950f", func := "tunes/tuneskeep.Heard", spec := "heard", recurses := true, apart := false, narrowed := true }
def HeardUptoSaid : Prop := heardUptoRow.holds Try.pinned (OpenSpec.upto heardSpec)

/-- 'tuneskeep.Knotted', WHERE WHAT IT READS IS OF BULK AT MOST 1048576: true; the input reads as it did. -/
def knottedUptoRow : OpenClaim := { program := "ytpngikmcjkjdaab", sum := "bdc3b69f7211510b38e55d6f5e6aebb8a4f9afed78838a1e9a3cccd8b2f0950f", func := "tunes/tuneskeep.Knotted", spec := "knotted", apart := false, narrowed := true }
def KnottedUptoSaid : Prop := knottedUptoRow.holds Try.pinned (OpenSpec.upto knottedSpec)

/-- 'tuneskeep.Chosen', WHERE WHAT IT READS IS OF BULK AT MOST 1048576: true; the input reads as it did. -/
def chosenUptoRow : OpenClaim := { program := "ytpngikmcjkjdaab", sum := "bdc3b69f7211510b38e55d6f5e6aebb8a4f9afed78838a1e9a3cccd8b2f0950f", func := "tunes/tuneskeep.Chosen", spec := "chosen", recurses := true, apart := false, narrowed := true }
def ChosenUptoSaid : Prop := chosenUptoRow.holds Try.pinned (OpenSpec.upto chosenSpec)

/-- 'tuneskeep.Moved', WHERE WHAT IT READS IS OF BULK AT MOST 1048576: true; the input reads as it did. -/
def movedUptoRow : OpenClaim := { program := "ytpngikmcjkjdaab", sum := "bdc3b69f7211510b38e55d6f5e6aebb8a4f9afed78838a1e9a3cccd8b2f0950f", func := "tunes/tuneskeep.Moved", spec := "moved", recurses := true, apart := false, narrowed := true }
def MovedUptoSaid : Prop := movedUptoRow.holds Try.pinned (OpenSpec.upto movedSpec)

end Rows
end Go.Proofs.Ytpngikmcjkjdaab
