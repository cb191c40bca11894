/-
  DERIVED. GIVEN WITH THE SEED: THE CARDS: each row of YtbglogaljjfnnabDoorRows.lean that lists a variable, with what it lists TIED to the program's text (the seventh form; the later family's looks); each row that meets fmt, with fmt's text TOLD by the authors' own Lean function (tested against real Go, not proved from fmt's source: count such statements apart). THE CARD IS WHAT COUNTS. Prove the row's statement (the work); the ties are given (YtbglogaljjfnnabDoorTie.lean); close each card by the builder's one call (the guide's Derived/Test/ToyasCard.lean, 'card_holds'). Laid BY PROGRAM, IN A SANDBOX (cutbox-door.mjs). By AI agents, Wed Nov 11 2026. No macro, syntax, notation, axiom, sorry.
-/
import Derived.Test.YtbglogaljjfnnabDoorRows
import GoSem.ClaimSeven
namespace Go.Proofs.YtbglogaljjfnnabDoor
namespace Rows

/-- THE TIED CARD OF 'laws.FnFractions'. -/
def fnFractionsCard : Claim7 := { stood := { row := fnFractionsRow, standIns := [], harness := (true, "cb8e3fff63b834e5abc902e32c158d31c41bab3bbb6c584427415fadb44128b3"), looks := true }, kinds := [], alts := [], laidByText := true, laidKinds := [.data], laidTests := true, laidLooks := .later }
def FnFractionsCardSaid : Prop := Claim7.holds Tryd.pinned (.plain (OpenSpec.ofChange fnFractionsSpec)) fnFractionsCard

/-- THE TIED CARD OF 'laws.FnRounding'. -/
def fnRoundingCard : Claim7 := { stood := { row := fnRoundingRow, standIns := [], harness := (true, "cb8e3fff63b834e5abc902e32c158d31c41bab3bbb6c584427415fadb44128b3"), looks := true }, kinds := [], alts := [], laidByText := true, laidKinds := [.data, .data, .data, .sentinel, .sentinel, .data], laidTests := true, laidLooks := .later }
def FnRoundingCardSaid : Prop := Claim7.holds Tryd.pinned (.plain (OpenSpec.ofChange fnRoundingSpec)) fnRoundingCard

/-- THE TIED CARD OF 'laws.FnExactParseFrac'. -/
def fnExactParseFracCard : Claim7 := { stood := { row := fnExactParseFracRow, standIns := [], harness := (true, "cb8e3fff63b834e5abc902e32c158d31c41bab3bbb6c584427415fadb44128b3"), looks := true }, kinds := [], alts := [], laidByText := true, laidKinds := [.data, .data, .data, .sentinel, .sentinel], laidTests := true, laidLooks := .later }
def FnExactParseFracCardSaid : Prop := Claim7.holds Tryd.pinned (.plain (OpenSpec.ofChange fnExactParseFracSpec)) fnExactParseFracCard

/-- THE SECOND FORM's CARD OF 'laws.FnFractions'. -/
def fnFractionsUptoCard : Claim7 := { stood := { row := fnFractionsUptoRow, standIns := [], harness := (true, "cb8e3fff63b834e5abc902e32c158d31c41bab3bbb6c584427415fadb44128b3"), looks := true }, kinds := [], alts := [], laidByText := true, laidKinds := [.data], laidTests := true, laidLooks := .later }
def FnFractionsUptoCardSaid : Prop := Claim7.holds Tryd.pinned (.plain (OpenSpec.upto fnFractionsSpec)) fnFractionsUptoCard

/-- THE SECOND FORM's CARD OF 'laws.FnRounding'. -/
def fnRoundingUptoCard : Claim7 := { stood := { row := fnRoundingUptoRow, standIns := [], harness := (true, "cb8e3fff63b834e5abc902e32c158d31c41bab3bbb6c584427415fadb44128b3"), looks := true }, kinds := [], alts := [], laidByText := true, laidKinds := [.data, .data, .data, .sentinel, .sentinel, .data], laidTests := true, laidLooks := .later }
def FnRoundingUptoCardSaid : Prop := Claim7.holds Tryd.pinned (.plain (OpenSpec.upto fnRoundingSpec)) fnRoundingUptoCard

/-- THE SECOND FORM's CARD OF 'laws.FnExactParseFrac'. -/
def fnExactParseFracUptoCard : Claim7 := { stood := { row := fnExactParseFracUptoRow, standIns := [], harness := (true, "cb8e3fff63b834e5abc902e32c158d31c41bab3bbb6c584427415fadb44128b3"), looks := true }, kinds := [], alts := [], laidByText := true, laidKinds := [.data, .data, .data, .sentinel, .sentinel], laidTests := true, laidLooks := .later }
def FnExactParseFracUptoCardSaid : Prop := Claim7.holds Tryd.pinned (.plain (OpenSpec.upto fnExactParseFracSpec)) fnExactParseFracUptoCard
end Rows
end Go.Proofs.YtbglogaljjfnnabDoor
