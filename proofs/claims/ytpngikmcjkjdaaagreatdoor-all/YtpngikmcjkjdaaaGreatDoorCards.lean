/-
  DERIVED. GIVEN WITH THE SEED: THE CARDS: each row of YtpngikmcjkjdaaaGreatDoorRows.lean that lists a variable, with what it lists TIED to the program's text (the seventh form; the later family's looks); each row that meets fmt, with fmt's text TOLD by the authors' own Lean function (tested against real Go, not proved from fmt's source: count such statements apart). THE CARD IS WHAT COUNTS. Prove the row's statement (the work); the ties are given (YtpngikmcjkjdaaaGreatDoorTie.lean); close each card by the builder's one call (the guide's Derived/Test/ToyasCard.lean, 'card_holds'). Laid BY PROGRAM, IN A SANDBOX (cutbox-door.mjs). By AI agents, Wed Nov 11 2026. No macro, syntax, notation, axiom, sorry.
-/
import Derived.Test.YtpngikmcjkjdaaaGreatDoorRows
import GoSem.ClaimSeven
namespace Go.Proofs.YtpngikmcjkjdaaaGreatDoor
namespace Rows

/-- THE TIED CARD OF 'tuneslaw.Runs'. -/
def runsCard : Claim7 := { stood := { row := runsRow, standIns := [], harness := (true, "bf068b16105ec1fc0e11fb94d4a6e8fb4558062e8d43b0216a9c79df904a7918"), looks := false }, kinds := [], alts := [], laidByText := true, laidKinds := [.data, .data, .data], laidTests := true, laidLooks := .later }
def RunsCardSaid : Prop := Claim7.holds Tryz.pinned (.plain (OpenSpec.ofChange runsSpec)) runsCard

/-- THE TIED CARD OF 'tuneslaw.Leasts'. -/
def leastsCard : Claim7 := { stood := { row := leastsRow, standIns := [], harness := (true, "bf068b16105ec1fc0e11fb94d4a6e8fb4558062e8d43b0216a9c79df904a7918"), looks := false }, kinds := [], alts := [], laidByText := true, laidKinds := [.data, .data, .data], laidTests := true, laidLooks := .later }
def LeastsCardSaid : Prop := Claim7.holds Tryz.pinned (.plain (OpenSpec.ofChange leastsSpec)) leastsCard

/-- THE TIED CARD OF 'tuneslaw.Joins'. -/
def joinsCard : Claim7 := { stood := { row := joinsRow, standIns := [], harness := (true, "bf068b16105ec1fc0e11fb94d4a6e8fb4558062e8d43b0216a9c79df904a7918"), looks := false }, kinds := [], alts := [], laidByText := true, laidKinds := [.data, .data, .data], laidTests := true, laidLooks := .later }
def JoinsCardSaid : Prop := Claim7.holds Tryz.pinned (.plain (OpenSpec.ofChange joinsSpec)) joinsCard

/-- THE TIED CARD OF 'tuneslaw.Compiles'. -/
def compilesCard : Claim7 := { stood := { row := compilesRow, standIns := [], harness := (true, "bf068b16105ec1fc0e11fb94d4a6e8fb4558062e8d43b0216a9c79df904a7918"), looks := false }, kinds := [], alts := [], laidByText := true, laidKinds := [.data, .data, .data], laidTests := true, laidLooks := .later }
def CompilesCardSaid : Prop := Claim7.holds Tryz.pinned (.plain (OpenSpec.ofChange compilesSpec)) compilesCard

/-- THE TIED CARD OF 'tuneslaw.Nears'. -/
def nearsCard : Claim7 := { stood := { row := nearsRow, standIns := [], harness := (true, "bf068b16105ec1fc0e11fb94d4a6e8fb4558062e8d43b0216a9c79df904a7918"), looks := false }, kinds := [], alts := [], laidByText := true, laidKinds := [.data, .data, .data], laidTests := true, laidLooks := .later }
def NearsCardSaid : Prop := Claim7.holds Tryz.pinned (.plain (OpenSpec.ofChange nearsSpec)) nearsCard

/-- THE TIED CARD OF 'tuneslaw.Books'. -/
def booksCard : Claim7 := { stood := { row := booksRow, standIns := [], harness := (true, "bf068b16105ec1fc0e11fb94d4a6e8fb4558062e8d43b0216a9c79df904a7918"), looks := false }, kinds := [], alts := [], laidByText := true, laidKinds := [.data, .data, .data], laidTests := true, laidLooks := .later }
def BooksCardSaid : Prop := Claim7.holds Tryz.pinned (.plain (OpenSpec.ofChange booksSpec)) booksCard

/-- THE TIED CARD OF 'tuneslaw.Cursors'. -/
def cursorsCard : Claim7 := { stood := { row := cursorsRow, standIns := [], harness := (true, "bf068b16105ec1fc0e11fb94d4a6e8fb4558062e8d43b0216a9c79df904a7918"), looks := false }, kinds := [], alts := [], laidByText := true, laidKinds := [.data, .data, .data], laidTests := true, laidLooks := .later }
def CursorsCardSaid : Prop := Claim7.holds Tryz.pinned (.plain (OpenSpec.ofChange cursorsSpec)) cursorsCard

/-- THE TIED CARD OF 'tuneslaw.All'. -/
def allCard : Claim7 := { stood := { row := allRow, standIns := [], harness := (true, "bf068b16105ec1fc0e11fb94d4a6e8fb4558062e8d43b0216a9c79df904a7918"), looks := false }, kinds := [], alts := [], laidByText := true, laidKinds := [.data, .data, .data], laidTests := true, laidLooks := .later }
def AllCardSaid : Prop := Claim7.holds Tryz.pinned (.plain (OpenSpec.ofChange allSpec)) allCard

/-- THE SECOND FORM's CARD OF 'tuneslaw.Runs'. -/
def runsUptoCard : Claim7 := { stood := { row := runsUptoRow, standIns := [], harness := (true, "bf068b16105ec1fc0e11fb94d4a6e8fb4558062e8d43b0216a9c79df904a7918"), looks := false }, kinds := [], alts := [], laidByText := true, laidKinds := [.data, .data, .data], laidTests := true, laidLooks := .later }
def RunsUptoCardSaid : Prop := Claim7.holds Tryz.pinned (.plain (OpenSpec.upto runsSpec)) runsUptoCard

/-- THE SECOND FORM's CARD OF 'tuneslaw.Leasts'. -/
def leastsUptoCard : Claim7 := { stood := { row := leastsUptoRow, standIns := [], harness := (true, "bf068b16105ec1fc0e11fb94d4a6e8fb4558062e8d43b0216a9c79df904a7918"), looks := false }, kinds := [], alts := [], laidByText := true, laidKinds := [.data, .data, .data], laidTests := true, laidLooks := .later }
def LeastsUptoCardSaid : Prop := Claim7.holds Tryz.pinned (.plain (OpenSpec.upto leastsSpec)) leastsUptoCard

/-- THE SECOND FORM's CARD OF 'tuneslaw.Joins'. -/
def joinsUptoCard : Claim7 := { stood := { row := joinsUptoRow, standIns := [], harness := (true, "bf068b16105ec1fc0e11fb94d4a6e8fb4558062e8d43b0216a9c79df904a7918"), looks := false }, kinds := [], alts := [], laidByText := true, laidKinds := [.data, .data, .data], laidTests := true, laidLooks := .later }
def JoinsUptoCardSaid : Prop := Claim7.holds Tryz.pinned (.plain (OpenSpec.upto joinsSpec)) joinsUptoCard

/-- THE SECOND FORM's CARD OF 'tuneslaw.Compiles'. -/
def compilesUptoCard : Claim7 := { stood := { row := compilesUptoRow, standIns := [], harness := (true, "bf068b16105ec1fc0e11fb94d4a6e8fb4558062e8d43b0216a9c79df904a7918"), looks := false }, kinds := [], alts := [], laidByText := true, laidKinds := [.data, .data, .data], laidTests := true, laidLooks := .later }
def CompilesUptoCardSaid : Prop := Claim7.holds Tryz.pinned (.plain (OpenSpec.upto compilesSpec)) compilesUptoCard

/-- THE SECOND FORM's CARD OF 'tuneslaw.Nears'. -/
def nearsUptoCard : Claim7 := { stood := { row := nearsUptoRow, standIns := [], harness := (true, "bf068b16105ec1fc0e11fb94d4a6e8fb4558062e8d43b0216a9c79df904a7918"), looks := false }, kinds := [], alts := [], laidByText := true, laidKinds := [.data, .data, .data], laidTests := true, laidLooks := .later }
def NearsUptoCardSaid : Prop := Claim7.holds Tryz.pinned (.plain (OpenSpec.upto nearsSpec)) nearsUptoCard

/-- THE SECOND FORM's CARD OF 'tuneslaw.Books'. -/
def booksUptoCard : Claim7 := { stood := { row := booksUptoRow, standIns := [], harness := (true, "bf068b16105ec1fc0e11fb94d4a6e8fb4558062e8d43b0216a9c79df904a7918"), looks := false }, kinds := [], alts := [], laidByText := true, laidKinds := [.data, .data, .data], laidTests := true, laidLooks := .later }
def BooksUptoCardSaid : Prop := Claim7.holds Tryz.pinned (.plain (OpenSpec.upto booksSpec)) booksUptoCard

/-- THE SECOND FORM's CARD OF 'tuneslaw.Cursors'. -/
def cursorsUptoCard : Claim7 := { stood := { row := cursorsUptoRow, standIns := [], harness := (true, "bf068b16105ec1fc0e11fb94d4a6e8fb4558062e8d43b0216a9c79df904a7918"), looks := false }, kinds := [], alts := [], laidByText := true, laidKinds := [.data, .data, .data], laidTests := true, laidLooks := .later }
def CursorsUptoCardSaid : Prop := Claim7.holds Tryz.pinned (.plain (OpenSpec.upto cursorsSpec)) cursorsUptoCard

/-- THE SECOND FORM's CARD OF 'tuneslaw.All'. -/
def allUptoCard : Claim7 := { stood := { row := allUptoRow, standIns := [], harness := (true, "bf068b16105ec1fc0e11fb94d4a6e8fb4558062e8d43b0216a9c79df904a7918"), looks := false }, kinds := [], alts := [], laidByText := true, laidKinds := [.data, .data, .data], laidTests := true, laidLooks := .later }
def AllUptoCardSaid : Prop := Claim7.holds Tryz.pinned (.plain (OpenSpec.upto allSpec)) allUptoCard
end Rows
end Go.Proofs.YtpngikmcjkjdaaaGreatDoor
