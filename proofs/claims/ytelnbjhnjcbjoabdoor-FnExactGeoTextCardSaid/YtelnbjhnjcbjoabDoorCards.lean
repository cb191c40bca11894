/-
  DERIVED. GIVEN WITH THE SEED: THE CARDS: each row of YtelnbjhnjcbjoabDoorRows.lean that lists a variable, with what it lists TIED to the program's text (the seventh form; the later family's looks); each row that meets fmt, with fmt's text TOLD by the authors' own Lean function (tested against real Go, not proved from fmt's source: count such statements apart). THE CARD IS WHAT COUNTS. Prove the row's statement (the work); the ties are given (YtelnbjhnjcbjoabDoorTie.lean); close each card by the builder's one call (the guide's Derived/Test/ToyasCard.lean, 'card_holds'). Laid BY PROGRAM, IN A SANDBOX (cutbox-door.mjs). By AI agents, Wed Nov 11 2026. No macro, syntax, notation, axiom, sorry.
-/
import Derived.Test.YtelnbjhnjcbjoabDoorRows
import GoSem.ClaimSeven
namespace Go.Proofs.YtelnbjhnjcbjoabDoor
namespace Rows

/-- THE TIED CARD OF 'laws.FnExactGeoText'. -/
def fnExactGeoTextCard : Claim7 := { stood := { row := fnExactGeoTextRow, standIns := [], harness := (true, "4a3493fab353c9ac6cd5af061c2f86fda9563a879d57511fb351e6d206d9c8df"), looks := true }, kinds := [], alts := [], laidByText := true, laidKinds := [.data, .data, .data], laidTests := true, laidLooks := .later }
def FnExactGeoTextCardSaid : Prop := Claim7.holds Tryd.pinned (.plain (OpenSpec.ofChange fnExactGeoTextSpec)) fnExactGeoTextCard

/-- THE TIED CARD OF 'laws.FnExactParseGeo'. -/
def fnExactParseGeoCard : Claim7 := { stood := { row := fnExactParseGeoRow, standIns := [], harness := (true, "4a3493fab353c9ac6cd5af061c2f86fda9563a879d57511fb351e6d206d9c8df"), looks := true }, kinds := [], alts := [], laidByText := true, laidKinds := [.data, .data, .data, .data, .sentinel, .sentinel, .pinned], laidTests := true, laidLooks := .later }
def FnExactParseGeoCardSaid : Prop := Claim7.holds Tryd.pinned (.plain (OpenSpec.ofChange fnExactParseGeoSpec)) fnExactParseGeoCard

/-- THE SECOND FORM's CARD OF 'laws.FnExactGeoText'. -/
def fnExactGeoTextUptoCard : Claim7 := { stood := { row := fnExactGeoTextUptoRow, standIns := [], harness := (true, "4a3493fab353c9ac6cd5af061c2f86fda9563a879d57511fb351e6d206d9c8df"), looks := true }, kinds := [], alts := [], laidByText := true, laidKinds := [.data, .data, .data], laidTests := true, laidLooks := .later }
def FnExactGeoTextUptoCardSaid : Prop := Claim7.holds Tryd.pinned (.plain (OpenSpec.upto fnExactGeoTextSpec)) fnExactGeoTextUptoCard

/-- THE SECOND FORM's CARD OF 'laws.FnExactParseGeo'. -/
def fnExactParseGeoUptoCard : Claim7 := { stood := { row := fnExactParseGeoUptoRow, standIns := [], harness := (true, "4a3493fab353c9ac6cd5af061c2f86fda9563a879d57511fb351e6d206d9c8df"), looks := true }, kinds := [], alts := [], laidByText := true, laidKinds := [.data, .data, .data, .data, .sentinel, .sentinel, .pinned], laidTests := true, laidLooks := .later }
def FnExactParseGeoUptoCardSaid : Prop := Claim7.holds Tryd.pinned (.plain (OpenSpec.upto fnExactParseGeoSpec)) fnExactParseGeoUptoCard
end Rows
end Go.Proofs.YtelnbjhnjcbjoabDoor
