/-
  DERIVED. GIVEN WITH THE SEED: THE CARDS: each row of YtbglogaljjfnnaaDoorRows.lean that lists a variable, with what it lists TIED to the program's text (the seventh form; the later family's looks); each row that meets fmt, with fmt's text TOLD by the authors' own Lean function (tested against real Go, not proved from fmt's source: count such statements apart). THE CARD IS WHAT COUNTS. Prove the row's statement (the work); the ties are given (YtbglogaljjfnnaaDoorTie.lean); close each card by the builder's one call (the guide's Derived/Test/ToyasCard.lean, 'card_holds'). Laid BY PROGRAM, IN A SANDBOX (cutbox-door.mjs). By AI agents, Wed Nov 11 2026. No macro, syntax, notation, axiom, sorry.
-/
import Derived.Test.YtbglogaljjfnnaaDoorRows
import GoSem.ClaimSeven
namespace Go.Proofs.YtbglogaljjfnnaaDoor
namespace Rows

/-- THE TIED CARD OF 'laws.FnExactSchemaText'. -/
def fnExactSchemaTextCard : Claim7 := { stood := { row := fnExactSchemaTextRow, standIns := [], harness := (true, "14955ddf0c186722f8968b1f27b2cfa3ffe6b09be6cad152793a15f6f5d0b1e1"), looks := true }, kinds := [], alts := [], laidByText := true, laidKinds := [.data, .data, .data], laidTests := true, laidLooks := .later }
def FnExactSchemaTextCardSaid : Prop := Claim7.holds Tryd.pinned (.plain (OpenSpec.ofChange fnExactSchemaTextSpec)) fnExactSchemaTextCard

/-- THE TIED CARD OF 'laws.FnExactParseSchema'. -/
def fnExactParseSchemaCard : Claim7 := { stood := { row := fnExactParseSchemaRow, standIns := [], harness := (true, "14955ddf0c186722f8968b1f27b2cfa3ffe6b09be6cad152793a15f6f5d0b1e1"), looks := true }, kinds := [], alts := [], laidByText := true, laidKinds := [.data, .data, .data, .data, .sentinel, .sentinel, .pinned], laidTests := true, laidLooks := .later }
def FnExactParseSchemaCardSaid : Prop := Claim7.holds Tryd.pinned (.plain (OpenSpec.ofChange fnExactParseSchemaSpec)) fnExactParseSchemaCard

/-- THE SECOND FORM's CARD OF 'laws.FnExactSchemaText'. -/
def fnExactSchemaTextUptoCard : Claim7 := { stood := { row := fnExactSchemaTextUptoRow, standIns := [], harness := (true, "14955ddf0c186722f8968b1f27b2cfa3ffe6b09be6cad152793a15f6f5d0b1e1"), looks := true }, kinds := [], alts := [], laidByText := true, laidKinds := [.data, .data, .data], laidTests := true, laidLooks := .later }
def FnExactSchemaTextUptoCardSaid : Prop := Claim7.holds Tryd.pinned (.plain (OpenSpec.upto fnExactSchemaTextSpec)) fnExactSchemaTextUptoCard

/-- THE SECOND FORM's CARD OF 'laws.FnExactParseSchema'. -/
def fnExactParseSchemaUptoCard : Claim7 := { stood := { row := fnExactParseSchemaUptoRow, standIns := [], harness := (true, "14955ddf0c186722f8968b1f27b2cfa3ffe6b09be6cad152793a15f6f5d0b1e1"), looks := true }, kinds := [], alts := [], laidByText := true, laidKinds := [.data, .data, .data, .data, .sentinel, .sentinel, .pinned], laidTests := true, laidLooks := .later }
def FnExactParseSchemaUptoCardSaid : Prop := Claim7.holds Tryd.pinned (.plain (OpenSpec.upto fnExactParseSchemaSpec)) fnExactParseSchemaUptoCard
end Rows
end Go.Proofs.YtbglogaljjfnnaaDoor
