/-
  DERIVED. GIVEN WITH THE SEED: THE CARDS: each row of YtmbchahjgefbpaaDoorRows.lean that lists a variable, with what it lists TIED to the program's text (the seventh form; the later family's looks); each row that meets fmt, with fmt's text TOLD by the authors' own Lean function (tested against real Go, not proved from fmt's source: count such statements apart). THE CARD IS WHAT COUNTS. Prove the row's statement (the work); the ties are given (YtmbchahjgefbpaaDoorTie.lean); close each card by the builder's one call (the guide's Derived/Test/ToyasCard.lean, 'card_holds'). Laid BY PROGRAM, IN A SANDBOX (cutbox-door.mjs). By AI agents, Wed Nov 11 2026. No macro, syntax, notation, axiom, sorry.
-/
import Derived.Test.YtmbchahjgefbpaaDoorRows
import GoSem.ClaimSeven
namespace Go.Proofs.YtmbchahjgefbpaaDoor
namespace Rows

/-- THE TIED CARD OF 'laws.FnExactEditText'. -/
def fnExactEditTextCard : Claim7 := { stood := { row := fnExactEditTextRow, standIns := [], harness := (true, "762d7f5866d60479d5545ac020decde446dd5fada6bc9a4e3c2c9d2e1692f84d"), looks := true }, kinds := [], alts := [], laidByText := true, laidKinds := [.data, .data, .data], laidTests := true, laidLooks := .later }
def FnExactEditTextCardSaid : Prop := Claim7.holds Tryd.pinned (.plain (OpenSpec.ofChange fnExactEditTextSpec)) fnExactEditTextCard

/-- THE TIED CARD OF 'laws.FnExactParseEdit'. -/
def fnExactParseEditCard : Claim7 := { stood := { row := fnExactParseEditRow, standIns := [], harness := (true, "762d7f5866d60479d5545ac020decde446dd5fada6bc9a4e3c2c9d2e1692f84d"), looks := true }, kinds := [], alts := [], laidByText := true, laidKinds := [.data, .data, .data, .data, .sentinel, .sentinel, .pinned], laidTests := true, laidLooks := .later }
def FnExactParseEditCardSaid : Prop := Claim7.holds Tryd.pinned (.plain (OpenSpec.ofChange fnExactParseEditSpec)) fnExactParseEditCard

/-- THE SECOND FORM's CARD OF 'laws.FnExactEditText'. -/
def fnExactEditTextUptoCard : Claim7 := { stood := { row := fnExactEditTextUptoRow, standIns := [], harness := (true, "762d7f5866d60479d5545ac020decde446dd5fada6bc9a4e3c2c9d2e1692f84d"), looks := true }, kinds := [], alts := [], laidByText := true, laidKinds := [.data, .data, .data], laidTests := true, laidLooks := .later }
def FnExactEditTextUptoCardSaid : Prop := Claim7.holds Tryd.pinned (.plain (OpenSpec.upto fnExactEditTextSpec)) fnExactEditTextUptoCard

/-- THE SECOND FORM's CARD OF 'laws.FnExactParseEdit'. -/
def fnExactParseEditUptoCard : Claim7 := { stood := { row := fnExactParseEditUptoRow, standIns := [], harness := (true, "762d7f5866d60479d5545ac020decde446dd5fada6bc9a4e3c2c9d2e1692f84d"), looks := true }, kinds := [], alts := [], laidByText := true, laidKinds := [.data, .data, .data, .data, .sentinel, .sentinel, .pinned], laidTests := true, laidLooks := .later }
def FnExactParseEditUptoCardSaid : Prop := Claim7.holds Tryd.pinned (.plain (OpenSpec.upto fnExactParseEditSpec)) fnExactParseEditUptoCard
end Rows
end Go.Proofs.YtmbchahjgefbpaaDoor
