/-
  DERIVED. GIVEN WITH THE SEED: THE CARDS: each row of YtcmfoclalcmamabGreatDoorRows.lean that lists a variable, with what it lists TIED to the program's text (the seventh form; the later family's looks); each row that meets fmt, with fmt's text TOLD by the authors' own Lean function (tested against real Go, not proved from fmt's source: count such statements apart). THE CARD IS WHAT COUNTS. Prove the row's statement (the work); the ties are given (YtcmfoclalcmamabGreatDoorTie.lean); close each card by the builder's one call (the guide's Derived/Test/ToyasCard.lean, 'card_holds'). Laid BY PROGRAM, IN A SANDBOX (cutbox-door.mjs). By AI agents, Wed Nov 11 2026. No macro, syntax, notation, axiom, sorry.
-/
import Derived.Test.YtcmfoclalcmamabGreatDoorRows
import GoSem.ClaimSeven
namespace Go.Proofs.YtcmfoclalcmamabGreatDoor
namespace Rows

/-- THE TIED CARD OF 'laws.FnSchemas'. -/
def fnSchemasCard : Claim7 := { stood := { row := fnSchemasRow, standIns := [], harness := (true, "fd7b1e40c52453e2132ec2ed5fe87830575527322ffdf6a6a9ac3b1967e3897f"), looks := true }, kinds := [], alts := [], laidByText := true, laidKinds := [.data, .data, .data, .data, .sentinel, .sentinel, .pinned], laidTests := true, laidLooks := .later }
def FnSchemasCardSaid : Prop := Claim7.holds Tryz.pinned (.plain (OpenSpec.ofChange fnSchemasSpec)) fnSchemasCard

/-- THE TIED CARD OF 'laws.FnGeos'. -/
def fnGeosCard : Claim7 := { stood := { row := fnGeosRow, standIns := [], harness := (true, "fd7b1e40c52453e2132ec2ed5fe87830575527322ffdf6a6a9ac3b1967e3897f"), looks := true }, kinds := [], alts := [], laidByText := true, laidKinds := [.data, .data, .data, .data, .sentinel, .sentinel, .pinned], laidTests := true, laidLooks := .later }
def FnGeosCardSaid : Prop := Claim7.holds Tryz.pinned (.plain (OpenSpec.ofChange fnGeosSpec)) fnGeosCard

/-- THE TIED CARD OF 'laws.FnData'. -/
def fnDataCard : Claim7 := { stood := { row := fnDataRow, standIns := [], harness := (true, "fd7b1e40c52453e2132ec2ed5fe87830575527322ffdf6a6a9ac3b1967e3897f"), looks := true }, kinds := [], alts := [], laidByText := true, laidKinds := [.data, .data, .data, .data, .sentinel, .sentinel, .pinned], laidTests := true, laidLooks := .later }
def FnDataCardSaid : Prop := Claim7.holds Tryz.pinned (.plain (OpenSpec.ofChange fnDataSpec)) fnDataCard

/-- THE SECOND FORM's CARD OF 'laws.FnSchemas'. -/
def fnSchemasUptoCard : Claim7 := { stood := { row := fnSchemasUptoRow, standIns := [], harness := (true, "fd7b1e40c52453e2132ec2ed5fe87830575527322ffdf6a6a9ac3b1967e3897f"), looks := true }, kinds := [], alts := [], laidByText := true, laidKinds := [.data, .data, .data, .data, .sentinel, .sentinel, .pinned], laidTests := true, laidLooks := .later }
def FnSchemasUptoCardSaid : Prop := Claim7.holds Tryz.pinned (.plain (OpenSpec.upto fnSchemasSpec)) fnSchemasUptoCard

/-- THE SECOND FORM's CARD OF 'laws.FnGeos'. -/
def fnGeosUptoCard : Claim7 := { stood := { row := fnGeosUptoRow, standIns := [], harness := (true, "fd7b1e40c52453e2132ec2ed5fe87830575527322ffdf6a6a9ac3b1967e3897f"), looks := true }, kinds := [], alts := [], laidByText := true, laidKinds := [.data, .data, .data, .data, .sentinel, .sentinel, .pinned], laidTests := true, laidLooks := .later }
def FnGeosUptoCardSaid : Prop := Claim7.holds Tryz.pinned (.plain (OpenSpec.upto fnGeosSpec)) fnGeosUptoCard

/-- THE SECOND FORM's CARD OF 'laws.FnData'. -/
def fnDataUptoCard : Claim7 := { stood := { row := fnDataUptoRow, standIns := [], harness := (true, "fd7b1e40c52453e2132ec2ed5fe87830575527322ffdf6a6a9ac3b1967e3897f"), looks := true }, kinds := [], alts := [], laidByText := true, laidKinds := [.data, .data, .data, .data, .sentinel, .sentinel, .pinned], laidTests := true, laidLooks := .later }
def FnDataUptoCardSaid : Prop := Claim7.holds Tryz.pinned (.plain (OpenSpec.upto fnDataSpec)) fnDataUptoCard
end Rows
end Go.Proofs.YtcmfoclalcmamabGreatDoor
