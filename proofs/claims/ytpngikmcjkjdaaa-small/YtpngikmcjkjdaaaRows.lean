/-
  No cell of these rows narrows 'for every input' (looked for: loops, veiled, ifaces, maps, wideKeys, modest, calm, conditions, laid).
  DERIVED. THE GIVEN ROWS OF THIS SEAT. 4 by the template 'for every input the law returns true; each argument reads behind the call as it read before'; 0 by the template 'total and deterministic' (their statements: YtpngikmcjkjdaaaTotals.lean).
  GIVEN WITH THE SEED: the statements are not yours to turn. If you find one false, say at which input.
  Laid BY PROGRAM, IN A SANDBOX (cutbox-rows.mjs): the forced cells as the released guide's own fill.sh prints them over the translation 903f3ed655250180… (all of the seat's roots in one cut). By AI agents, Wed Nov 11 2026. No macro, syntax, notation, axiom, sorry.
-/
import Derived.Test.YtpngikmcjkjdaaaChecked
import GoSem.Claim
import GoSem.ClaimJoined
import GoSem.ClaimMapViews
import Derived.JoinedTies
import Derived.KernelRfl
namespace Go.Proofs.Ytpngikmcjkjdaaa
/- THE CELL 'sum', in the pinned program and in every row, IS THE sha256 OF THE DUMP (.gsa) THAT YtpngikmcjkjdaaaProg.lean LOADS. Nothing in Lean hashes anything: it is a label: what it is worth is what the hold of that sum in a sandbox is worth. -/
noncomputable def Try.pinned : Pinned := { name := "ytpngikmcjkjdaaa", sum := "903f3ed65525018076b1ac45edaa58504d3d816f63d4e470beb452af20d111d0", checked := Try.checked }
namespace Rows
def none {H : Type} : Left H := { results := [], args := [] }

/-- 'tuneskeep.Small': WHATEVER THE INPUT: true; the input reads as it did. -/
def smallSpec : ChangeSpec := { name := "small", fn := fun _ => fun
  | [d1, d2] => { results := [.lit (.bool true)], args := [d1, d2] }
  | _ => none }
def smallRow : OpenClaim := { program := "ytpngikmcjkjdaaa", sum := "903f3ed65525018076b1ac45edaa58504d3d816f63d4e470beb452af20d111d0", func := "tunes/tuneskeep.Small", spec := "small", apart := false }
def SmallSaid : Prop := smallRow.holds Try.pinned (OpenSpec.ofChange smallSpec)

/-- ITS FALSE NEIGHBOUR: 'it returns false'. Refute it at one input. -/
def smallWrong : ChangeSpec := { name := "small", fn := fun _ => fun
  | [d1, d2] => { results := [.lit (.bool false)], args := [d1, d2] }
  | _ => none }
def SmallWrongFalsely : Prop := smallRow.holds Try.pinned (OpenSpec.ofChange smallWrong)

/-- 'tuneskeep.Doubled': WHATEVER THE INPUT: true; the input reads as it did. -/
def doubledSpec : ChangeSpec := { name := "doubled", fn := fun _ => fun
  | [d1, d2] => { results := [.lit (.bool true)], args := [d1, d2] }
  | _ => none }
def doubledRow : OpenClaim := { program := "ytpngikmcjkjdaaa", sum := "903f3ed65525018076b1ac45edaa58504d3d816f63d4e470beb452af20d111d0", func := "tunes/tuneskeep.Doubled", spec := "doubled", apart := false }
def DoubledSaid : Prop := doubledRow.holds Try.pinned (OpenSpec.ofChange doubledSpec)

/-- ITS FALSE NEIGHBOUR: 'it returns false'. Refute it at one input. -/
def doubledWrong : ChangeSpec := { name := "doubled", fn := fun _ => fun
  | [d1, d2] => { results := [.lit (.bool false)], args := [d1, d2] }
  | _ => none }
def DoubledWrongFalsely : Prop := doubledRow.holds Try.pinned (OpenSpec.ofChange doubledWrong)

/-- 'tuneskeep.Sided': WHATEVER THE INPUT: true; the input reads as it did. -/
def sidedSpec : ChangeSpec := { name := "sided", fn := fun _ => fun
  | [d1, d2, d3, d4] => { results := [.lit (.bool true)], args := [d1, d2, d3, d4] }
  | _ => none }
def sidedRow : OpenClaim := { program := "ytpngikmcjkjdaaa", sum := "903f3ed65525018076b1ac45edaa58504d3d816f63d4e470beb452af20d111d0", func := "tunes/tuneskeep.Sided", spec := "sided", apart := false }
def SidedSaid : Prop := sidedRow.holds Try.pinned (OpenSpec.ofChange sidedSpec)

/-- ITS FALSE NEIGHBOUR: 'it returns false'. Refute it at one input. -/
def sidedWrong : ChangeSpec := { name := "sided", fn := fun _ => fun
  | [d1, d2, d3, d4] => { results := [.lit (.bool false)], args := [d1, d2, d3, d4] }
  | _ => none }
def SidedWrongFalsely : Prop := sidedRow.holds Try.pinned (OpenSpec.ofChange sidedWrong)

/-- 'tuneskeep.Told': WHATEVER THE INPUT: true; the input reads as it did. -/
def toldSpec : ChangeSpec := { name := "told", fn := fun _ => fun
  | [d1, d2, d3] => { results := [.lit (.bool true)], args := [d1, d2, d3] }
  | _ => none }
def toldRow : OpenClaim := { program := "ytpngikmcjkjdaaa", sum := "903f3ed65525018076b1ac45edaa58504d3d816f63d4e470beb452af20d111d0", func := "tunes/tuneskeep.Told", spec := "told", apart := false }
def ToldSaid : Prop := toldRow.holds Try.pinned (OpenSpec.ofChange toldSpec)

/-- ITS FALSE NEIGHBOUR: 'it returns false'. Refute it at one input. -/
def toldWrong : ChangeSpec := { name := "told", fn := fun _ => fun
  | [d1, d2, d3] => { results := [.lit (.bool false)], args := [d1, d2, d3] }
  | _ => none }
def ToldWrongFalsely : Prop := toldRow.holds Try.pinned (OpenSpec.ofChange toldWrong)

/- THE SECOND FORM. 'bulk': how many values and letters a reading holds, each counted each time it is reached (what is shared counts as often as it is met; a slice's spare places count too). A statement '..UptoSaid' is the law's where the arguments, and the package variables that the reading takes, are together of bulk at most 1048576: NARROWER than '..Said'. Prove '..Said' where nothing that the law and all that it calls make is longer than what came in: it says more and counts as full. Else prove '..UptoSaid'. A law counts once. -/
mutual
def uptoBulk {H : Type} : DataW H → Nat
  | .lit (.string bytes) => bytes.length + 1
  | .lit _ => 1
  | .nil => 1
  | .ptr d => uptoBulk d + 1
  | .slice elems spare => uptoBulkAll elems + uptoBulkAll spare + 1
  | .agg parts => uptoBulkAll parts + 1
  | .iface _ d => uptoBulk d + 1
  | .map entries => uptoBulkEntries entries + 1
  | .held _ => 1
def uptoBulkAll {H : Type} : List (DataW H) → Nat
  | [] => 0
  | d :: r => uptoBulk d + uptoBulkAll r
def uptoBulkEntries {H : Type} : List (Lit × DataW H) → Nat
  | [] => 0
  | x :: r => uptoBulkEntry x + uptoBulkEntries r
def uptoBulkEntry {H : Type} : Lit × DataW H → Nat
  | (.string bytes, d) => bytes.length + uptoBulk d + 1
  | (_, d) => uptoBulk d + 1
 end
def uptoSmall : (H : Type) → List (DataW H) → Bool := fun _ ds => decide (uptoBulkAll ds ≤ 1048576)
def OpenSpec.upto (s : _root_.Go.ChangeSpec) : _root_.Go.OpenSpec := { _root_.Go.OpenSpec.ofChange s with cond := some uptoSmall }

/-- 'tuneskeep.Small', WHERE WHAT IT READS IS OF BULK AT MOST 1048576: true; the input reads as it did. -/
def smallUptoRow : OpenClaim := { program := "ytpngikmcjkjdaaa", sum := "903f3ed65525018076b1ac45edaa58504d3d816f63d4e470beb452af20d111d0", func := "tunes/tuneskeep.Small", spec := "small", apart := false, narrowed := true }
def SmallUptoSaid : Prop := smallUptoRow.holds Try.pinned (OpenSpec.upto smallSpec)

/-- 'tuneskeep.Doubled', WHERE WHAT IT READS IS OF BULK AT MOST 1048576: true; the input reads as it did. -/
def doubledUptoRow : OpenClaim := { program := "ytpngikmcjkjdaaa", sum := "903f3ed65525018076b1ac45edaa58504d3d816f63d4e470beb452af20d111d0", func := "tunes/tuneskeep.Doubled", spec := "doubled", apart := false, narrowed := true }
def DoubledUptoSaid : Prop := doubledUptoRow.holds Try.pinned (OpenSpec.upto doubledSpec)

/-- 'tuneskeep.Sided', WHERE WHAT IT READS IS OF BULK AT MOST 1048576: true; the input reads as it did. -/
def sidedUptoRow : OpenClaim := { program := "ytpngikmcjkjdaaa", sum := "903f3ed65525018076b1ac45edaa58504d3d816f63d4e470beb452af20d111d0", func := "tunes/tuneskeep.Sided", spec := "sided", apart := false, narrowed := true }
def SidedUptoSaid : Prop := sidedUptoRow.holds Try.pinned (OpenSpec.upto sidedSpec)

/-- 'tuneskeep.Told', WHERE WHAT IT READS IS OF BULK AT MOST 1048576: true; the input reads as it did. -/
def toldUptoRow : OpenClaim := { program := "ytpngikmcjkjdaaa", sum := "903f3ed65525018076b1ac45edaa58504d3d816f63d4e470beb452af20d111d0", func := "tunes/tuneskeep.Told", spec := "told", apart := false, narrowed := true }
def ToldUptoSaid : Prop := toldUptoRow.holds Try.pinned (OpenSpec.upto toldSpec)

end Rows
end Go.Proofs.Ytpngikmcjkjdaaa
