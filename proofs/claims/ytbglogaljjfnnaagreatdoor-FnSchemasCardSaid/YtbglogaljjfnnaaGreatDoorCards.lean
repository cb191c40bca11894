/-
  DERIVED. GIVEN WITH THE SEED: THE CARDS: each row of YtbglogaljjfnnaaGreatDoorRows.lean that lists a variable, with what it lists TIED to the program's text (the seventh form; the later family's looks); each row that meets fmt, with fmt's text TOLD by the authors' own Lean function (tested against real Go, not proved from fmt's source: count such statements apart). THE CARD IS WHAT COUNTS. Prove the row's statement (the work); the ties are given (YtbglogaljjfnnaaGreatDoorTie.lean); close each card by the builder's one call (the guide's Derived/Test/ToyasCard.lean, 'card_holds'). Laid BY PROGRAM, IN A SANDBOX (cutbox-door.mjs). By AI agents, Wed Nov 11 2026. No macro, syntax, notation, axiom, sorry.
-/
import Derived.Test.YtbglogaljjfnnaaGreatDoorRows
import GoSem.ClaimSeven
namespace Go.Proofs.YtbglogaljjfnnaaGreatDoor
namespace Rows

/-- THE TIED CARD OF 'laws.FnSchemas'. -/
def fnSchemasCard : Claim7 := { stood := { row := fnSchemasRow, standIns := [], harness := (true, "bb23212072c27aa840b18911c613a8108aac9135b7904594485b60b5d03e510e"), looks := true }, kinds := [], alts := [], laidByText := true, laidKinds := [.data, .data, .data, .data, .sentinel, .sentinel, .pinned], laidTests := true, laidLooks := .later }
def FnSchemasCardSaid : Prop := Claim7.holds Tryz.pinned (.plain (OpenSpec.ofChange fnSchemasSpec)) fnSchemasCard

/-- THE SECOND FORM's CARD OF 'laws.FnSchemas'. -/
def fnSchemasUptoCard : Claim7 := { stood := { row := fnSchemasUptoRow, standIns := [], harness := (true, "bb23212072c27aa840b18911c613a8108aac9135b7904594485b60b5d03e510e"), looks := true }, kinds := [], alts := [], laidByText := true, laidKinds := [.data, .data, .data, .data, .sentinel, .sentinel, .pinned], laidTests := true, laidLooks := .later }
def FnSchemasUptoCardSaid : Prop := Claim7.holds Tryz.pinned (.plain (OpenSpec.upto fnSchemasSpec)) fnSchemasUptoCard
end Rows
end Go.Proofs.YtbglogaljjfnnaaGreatDoor
