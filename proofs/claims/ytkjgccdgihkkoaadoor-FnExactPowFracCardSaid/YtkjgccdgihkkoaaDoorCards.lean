/-
  DERIVED. GIVEN WITH THE SEED: THE CARDS: each row of YtkjgccdgihkkoaaDoorRows.lean that lists a variable, with what it lists TIED to the program's text (the seventh form; the later family's looks); each row that meets fmt, with fmt's text TOLD by the authors' own Lean function (tested against real Go, not proved from fmt's source: count such statements apart). THE CARD IS WHAT COUNTS. Prove the row's statement (the work); the ties are given (YtkjgccdgihkkoaaDoorTie.lean); close each card by the builder's one call (the guide's Derived/Test/ToyasCard.lean, 'card_holds'). Laid BY PROGRAM, IN A SANDBOX (cutbox-door.mjs). By AI agents, Wed Nov 11 2026. No macro, syntax, notation, axiom, sorry.
-/
import Derived.Test.YtkjgccdgihkkoaaDoorRows
import GoSem.ClaimSeven
namespace Go.Proofs.YtkjgccdgihkkoaaDoor
namespace Rows

/-- THE TIED CARD OF 'laws.FnFractions'. -/
def fnFractionsCard : Claim7 := { stood := { row := fnFractionsRow, standIns := [], harness := (true, "44870fa7748eb80cf2f6b97a94a6a96f67cd9e89f4c4e2f46191fce458eef862"), looks := true }, kinds := [], alts := [], laidByText := true, laidKinds := [.data], laidTests := true, laidLooks := .later }
def FnFractionsCardSaid : Prop := Claim7.holds Tryd.pinned (.plain (OpenSpec.ofChange fnFractionsSpec)) fnFractionsCard

/-- THE TIED CARD OF 'laws.FnRounding'. -/
def fnRoundingCard : Claim7 := { stood := { row := fnRoundingRow, standIns := [], harness := (true, "44870fa7748eb80cf2f6b97a94a6a96f67cd9e89f4c4e2f46191fce458eef862"), looks := true }, kinds := [], alts := [], laidByText := true, laidKinds := [.data, .data, .data, .sentinel, .sentinel, .data], laidTests := true, laidLooks := .later }
def FnRoundingCardSaid : Prop := Claim7.holds Tryd.pinned (.plain (OpenSpec.ofChange fnRoundingSpec)) fnRoundingCard

/-- THE TIED CARD OF 'laws.FnExactMakeFrac'. -/
def fnExactMakeFracCard : Claim7 := { stood := { row := fnExactMakeFracRow, standIns := [], harness := (true, "44870fa7748eb80cf2f6b97a94a6a96f67cd9e89f4c4e2f46191fce458eef862"), looks := true }, kinds := [], alts := [], laidByText := true, laidKinds := [.data], laidTests := true, laidLooks := .later }
def FnExactMakeFracCardSaid : Prop := Claim7.holds Tryd.pinned (.plain (OpenSpec.ofChange fnExactMakeFracSpec)) fnExactMakeFracCard

/-- THE TIED CARD OF 'laws.FnExactAddFrac'. -/
def fnExactAddFracCard : Claim7 := { stood := { row := fnExactAddFracRow, standIns := [], harness := (true, "44870fa7748eb80cf2f6b97a94a6a96f67cd9e89f4c4e2f46191fce458eef862"), looks := true }, kinds := [], alts := [], laidByText := true, laidKinds := [.data], laidTests := true, laidLooks := .later }
def FnExactAddFracCardSaid : Prop := Claim7.holds Tryd.pinned (.plain (OpenSpec.ofChange fnExactAddFracSpec)) fnExactAddFracCard

/-- THE TIED CARD OF 'laws.FnExactSubFrac'. -/
def fnExactSubFracCard : Claim7 := { stood := { row := fnExactSubFracRow, standIns := [], harness := (true, "44870fa7748eb80cf2f6b97a94a6a96f67cd9e89f4c4e2f46191fce458eef862"), looks := true }, kinds := [], alts := [], laidByText := true, laidKinds := [.data], laidTests := true, laidLooks := .later }
def FnExactSubFracCardSaid : Prop := Claim7.holds Tryd.pinned (.plain (OpenSpec.ofChange fnExactSubFracSpec)) fnExactSubFracCard

/-- THE TIED CARD OF 'laws.FnExactMulFrac'. -/
def fnExactMulFracCard : Claim7 := { stood := { row := fnExactMulFracRow, standIns := [], harness := (true, "44870fa7748eb80cf2f6b97a94a6a96f67cd9e89f4c4e2f46191fce458eef862"), looks := true }, kinds := [], alts := [], laidByText := true, laidKinds := [.data], laidTests := true, laidLooks := .later }
def FnExactMulFracCardSaid : Prop := Claim7.holds Tryd.pinned (.plain (OpenSpec.ofChange fnExactMulFracSpec)) fnExactMulFracCard

/-- THE TIED CARD OF 'laws.FnExactDivFrac'. -/
def fnExactDivFracCard : Claim7 := { stood := { row := fnExactDivFracRow, standIns := [], harness := (true, "44870fa7748eb80cf2f6b97a94a6a96f67cd9e89f4c4e2f46191fce458eef862"), looks := true }, kinds := [], alts := [], laidByText := true, laidKinds := [.data], laidTests := true, laidLooks := .later }
def FnExactDivFracCardSaid : Prop := Claim7.holds Tryd.pinned (.plain (OpenSpec.ofChange fnExactDivFracSpec)) fnExactDivFracCard

/-- THE TIED CARD OF 'laws.FnExactPowFrac'. -/
def fnExactPowFracCard : Claim7 := { stood := { row := fnExactPowFracRow, standIns := [], harness := (true, "44870fa7748eb80cf2f6b97a94a6a96f67cd9e89f4c4e2f46191fce458eef862"), looks := true }, kinds := [], alts := [], laidByText := true, laidKinds := [.data], laidTests := true, laidLooks := .later }
def FnExactPowFracCardSaid : Prop := Claim7.holds Tryd.pinned (.plain (OpenSpec.ofChange fnExactPowFracSpec)) fnExactPowFracCard

/-- THE SECOND FORM's CARD OF 'laws.FnFractions'. -/
def fnFractionsUptoCard : Claim7 := { stood := { row := fnFractionsUptoRow, standIns := [], harness := (true, "44870fa7748eb80cf2f6b97a94a6a96f67cd9e89f4c4e2f46191fce458eef862"), looks := true }, kinds := [], alts := [], laidByText := true, laidKinds := [.data], laidTests := true, laidLooks := .later }
def FnFractionsUptoCardSaid : Prop := Claim7.holds Tryd.pinned (.plain (OpenSpec.upto fnFractionsSpec)) fnFractionsUptoCard

/-- THE SECOND FORM's CARD OF 'laws.FnRounding'. -/
def fnRoundingUptoCard : Claim7 := { stood := { row := fnRoundingUptoRow, standIns := [], harness := (true, "44870fa7748eb80cf2f6b97a94a6a96f67cd9e89f4c4e2f46191fce458eef862"), looks := true }, kinds := [], alts := [], laidByText := true, laidKinds := [.data, .data, .data, .sentinel, .sentinel, .data], laidTests := true, laidLooks := .later }
def FnRoundingUptoCardSaid : Prop := Claim7.holds Tryd.pinned (.plain (OpenSpec.upto fnRoundingSpec)) fnRoundingUptoCard

/-- THE SECOND FORM's CARD OF 'laws.FnExactMakeFrac'. -/
def fnExactMakeFracUptoCard : Claim7 := { stood := { row := fnExactMakeFracUptoRow, standIns := [], harness := (true, "44870fa7748eb80cf2f6b97a94a6a96f67cd9e89f4c4e2f46191fce458eef862"), looks := true }, kinds := [], alts := [], laidByText := true, laidKinds := [.data], laidTests := true, laidLooks := .later }
def FnExactMakeFracUptoCardSaid : Prop := Claim7.holds Tryd.pinned (.plain (OpenSpec.upto fnExactMakeFracSpec)) fnExactMakeFracUptoCard

/-- THE SECOND FORM's CARD OF 'laws.FnExactAddFrac'. -/
def fnExactAddFracUptoCard : Claim7 := { stood := { row := fnExactAddFracUptoRow, standIns := [], harness := (true, "44870fa7748eb80cf2f6b97a94a6a96f67cd9e89f4c4e2f46191fce458eef862"), looks := true }, kinds := [], alts := [], laidByText := true, laidKinds := [.data], laidTests := true, laidLooks := .later }
def FnExactAddFracUptoCardSaid : Prop := Claim7.holds Tryd.pinned (.plain (OpenSpec.upto fnExactAddFracSpec)) fnExactAddFracUptoCard

/-- THE SECOND FORM's CARD OF 'laws.FnExactSubFrac'. -/
def fnExactSubFracUptoCard : Claim7 := { stood := { row := fnExactSubFracUptoRow, standIns := [], harness := (true, "44870fa7748eb80cf2f6b97a94a6a96f67cd9e89f4c4e2f46191fce458eef862"), looks := true }, kinds := [], alts := [], laidByText := true, laidKinds := [.data], laidTests := true, laidLooks := .later }
def FnExactSubFracUptoCardSaid : Prop := Claim7.holds Tryd.pinned (.plain (OpenSpec.upto fnExactSubFracSpec)) fnExactSubFracUptoCard

/-- THE SECOND FORM's CARD OF 'laws.FnExactMulFrac'. -/
def fnExactMulFracUptoCard : Claim7 := { stood := { row := fnExactMulFracUptoRow, standIns := [], harness := (true, "44870fa7748eb80cf2f6b97a94a6a96f67cd9e89f4c4e2f46191fce458eef862"), looks := true }, kinds := [], alts := [], laidByText := true, laidKinds := [.data], laidTests := true, laidLooks := .later }
def FnExactMulFracUptoCardSaid : Prop := Claim7.holds Tryd.pinned (.plain (OpenSpec.upto fnExactMulFracSpec)) fnExactMulFracUptoCard

/-- THE SECOND FORM's CARD OF 'laws.FnExactDivFrac'. -/
def fnExactDivFracUptoCard : Claim7 := { stood := { row := fnExactDivFracUptoRow, standIns := [], harness := (true, "44870fa7748eb80cf2f6b97a94a6a96f67cd9e89f4c4e2f46191fce458eef862"), looks := true }, kinds := [], alts := [], laidByText := true, laidKinds := [.data], laidTests := true, laidLooks := .later }
def FnExactDivFracUptoCardSaid : Prop := Claim7.holds Tryd.pinned (.plain (OpenSpec.upto fnExactDivFracSpec)) fnExactDivFracUptoCard

/-- THE SECOND FORM's CARD OF 'laws.FnExactPowFrac'. -/
def fnExactPowFracUptoCard : Claim7 := { stood := { row := fnExactPowFracUptoRow, standIns := [], harness := (true, "44870fa7748eb80cf2f6b97a94a6a96f67cd9e89f4c4e2f46191fce458eef862"), looks := true }, kinds := [], alts := [], laidByText := true, laidKinds := [.data], laidTests := true, laidLooks := .later }
def FnExactPowFracUptoCardSaid : Prop := Claim7.holds Tryd.pinned (.plain (OpenSpec.upto fnExactPowFracSpec)) fnExactPowFracUptoCard
end Rows
end Go.Proofs.YtkjgccdgihkkoaaDoor
