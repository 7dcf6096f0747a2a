/-
  DERIVED. GIVEN WITH THE SEED: THE CARDS: each row of YtncmdgdhejejpaaGreatDoorRows.lean that lists a variable, with what it lists TIED to the program's text (the seventh form; the later family's looks); each row that meets fmt, with fmt's text TOLD by the authors' own Lean function (tested against real Go, not proved from fmt's source: count such statements apart). THE CARD IS WHAT COUNTS. Prove the row's statement (the work); the ties are given (YtncmdgdhejejpaaGreatDoorTie.lean); close each card by the builder's one call (the guide's Derived/Test/ToyasCard.lean, 'card_holds'). Laid BY PROGRAM, IN A SANDBOX (cutbox-door.mjs). By AI agents, Wed Nov 11 2026. No macro, syntax, notation, axiom, sorry.
-/
import Derived.Test.YtncmdgdhejejpaaGreatDoorRows
import GoSem.ClaimSeven
namespace Go.Proofs.YtncmdgdhejejpaaGreatDoor
namespace Rows

/-- THE TIED CARD OF 'tuneslaw.Runs'. -/
def runsCard : Claim7 := { stood := { row := runsRow, standIns := [], harness := (true, "0f981b5aa0358781554a2b2789cedae1f6d2d00333b62b616c569dcaa5939956"), looks := false }, kinds := [], alts := [], laidByText := true, laidKinds := [.data, .data, .data], laidTests := true, laidLooks := .later }
def RunsCardSaid : Prop := Claim7.holds Tryz.pinned (.plain (OpenSpec.ofChange runsSpec)) runsCard

/-- THE TIED CARD OF 'tuneslaw.Leasts'. -/
def leastsCard : Claim7 := { stood := { row := leastsRow, standIns := [], harness := (true, "0f981b5aa0358781554a2b2789cedae1f6d2d00333b62b616c569dcaa5939956"), looks := false }, kinds := [], alts := [], laidByText := true, laidKinds := [.data, .data, .data], laidTests := true, laidLooks := .later }
def LeastsCardSaid : Prop := Claim7.holds Tryz.pinned (.plain (OpenSpec.ofChange leastsSpec)) leastsCard

/-- THE TIED CARD OF 'tuneslaw.Joins'. -/
def joinsCard : Claim7 := { stood := { row := joinsRow, standIns := [], harness := (true, "0f981b5aa0358781554a2b2789cedae1f6d2d00333b62b616c569dcaa5939956"), looks := false }, kinds := [], alts := [], laidByText := true, laidKinds := [.data, .data, .data], laidTests := true, laidLooks := .later }
def JoinsCardSaid : Prop := Claim7.holds Tryz.pinned (.plain (OpenSpec.ofChange joinsSpec)) joinsCard

/-- THE TIED CARD OF 'tuneslaw.Compiles'. -/
def compilesCard : Claim7 := { stood := { row := compilesRow, standIns := [], harness := (true, "0f981b5aa0358781554a2b2789cedae1f6d2d00333b62b616c569dcaa5939956"), looks := false }, kinds := [], alts := [], laidByText := true, laidKinds := [.data, .data, .data], laidTests := true, laidLooks := .later }
def CompilesCardSaid : Prop := Claim7.holds Tryz.pinned (.plain (OpenSpec.ofChange compilesSpec)) compilesCard

/-- THE TIED CARD OF 'tuneslaw.Nears'. -/
def nearsCard : Claim7 := { stood := { row := nearsRow, standIns := [], harness := (true, "0f981b5aa0358781554a2b2789cedae1f6d2d00333b62b616c569dcaa5939956"), looks := false }, kinds := [], alts := [], laidByText := true, laidKinds := [.data, .data, .data], laidTests := true, laidLooks := .later }
def NearsCardSaid : Prop := Claim7.holds Tryz.pinned (.plain (OpenSpec.ofChange nearsSpec)) nearsCard

/-- THE SECOND FORM's CARD OF 'tuneslaw.Runs'. -/
def runsUptoCard : Claim7 := { stood := { row := runsUptoRow, standIns := [], harness := (true, "0f981b5aa0358781554a2b2789cedae1f6d2d00333b62b616c569dcaa5939956"), looks := false }, kinds := [], alts := [], laidByText := true, laidKinds := [.data, .data, .data], laidTests := true, laidLooks := .later }
def RunsUptoCardSaid : Prop := Claim7.holds Tryz.pinned (.plain (OpenSpec.upto runsSpec)) runsUptoCard

/-- THE SECOND FORM's CARD OF 'tuneslaw.Leasts'. -/
def leastsUptoCard : Claim7 := { stood := { row := leastsUptoRow, standIns := [], harness := (true, "0f981b5aa0358781554a2b2789cedae1f6d2d00333b62b616c569dcaa5939956"), looks := false }, kinds := [], alts := [], laidByText := true, laidKinds := [.data, .data, .data], laidTests := true, laidLooks := .later }
def LeastsUptoCardSaid : Prop := Claim7.holds Tryz.pinned (.plain (OpenSpec.upto leastsSpec)) leastsUptoCard

/-- THE SECOND FORM's CARD OF 'tuneslaw.Joins'. -/
def joinsUptoCard : Claim7 := { stood := { row := joinsUptoRow, standIns := [], harness := (true, "0f981b5aa0358781554a2b2789cedae1f6d2d00333b62b616c569dcaa5939956"), looks := false }, kinds := [], alts := [], laidByText := true, laidKinds := [.data, .data, .data], laidTests := true, laidLooks := .later }
def JoinsUptoCardSaid : Prop := Claim7.holds Tryz.pinned (.plain (OpenSpec.upto joinsSpec)) joinsUptoCard

/-- THE SECOND FORM's CARD OF 'tuneslaw.Compiles'. -/
def compilesUptoCard : Claim7 := { stood := { row := compilesUptoRow, standIns := [], harness := (true, "0f981b5aa0358781554a2b2789cedae1f6d2d00333b62b616c569dcaa5939956"), looks := false }, kinds := [], alts := [], laidByText := true, laidKinds := [.data, .data, .data], laidTests := true, laidLooks := .later }
def CompilesUptoCardSaid : Prop := Claim7.holds Tryz.pinned (.plain (OpenSpec.upto compilesSpec)) compilesUptoCard

/-- THE SECOND FORM's CARD OF 'tuneslaw.Nears'. -/
def nearsUptoCard : Claim7 := { stood := { row := nearsUptoRow, standIns := [], harness := (true, "0f981b5aa0358781554a2b2789cedae1f6d2d00333b62b616c569dcaa5939956"), looks := false }, kinds := [], alts := [], laidByText := true, laidKinds := [.data, .data, .data], laidTests := true, laidLooks := .later }
def NearsUptoCardSaid : Prop := Claim7.holds Tryz.pinned (.plain (OpenSpec.upto nearsSpec)) nearsUptoCard
end Rows
end Go.Proofs.YtncmdgdhejejpaaGreatDoor
