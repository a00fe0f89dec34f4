/-
  DERIVED. GIVEN WITH THE SEED: THE CARDS: each row of YtbmnngliapmgfaaGreatDoorRows.lean that lists a variable, with what it lists TIED to the program's text (the seventh form; the later family's looks); each row that meets fmt, with fmt's text TOLD by the authors' own Lean function (tested against real Go, not proved from fmt's source: count such statements apart). THE CARD IS WHAT COUNTS. Prove the row's statement (the work); the ties are given (YtbmnngliapmgfaaGreatDoorTie.lean); close each card by the builder's one call (the guide's Derived/Test/ToyasCard.lean, 'card_holds'). Laid BY PROGRAM, IN A SANDBOX (cutbox-door.mjs). By AI agents, Wed Nov 11 2026. No macro, syntax, notation, axiom, sorry.
-/
import Derived.Test.YtbmnngliapmgfaaGreatDoorRows
import GoSem.ClaimSeven
namespace Go.Proofs.YtbmnngliapmgfaaGreatDoor
namespace Rows

/-- THE TIED CARD OF 'almonerlaw13.ArithTells'. -/
def arithTellsCard : Claim7 := { stood := { row := arithTellsRow, standIns := [], harness := (true, "2ff8b650d8b3d210f0126916742daaa355ed5ecc350771e4b31b518bc38afba9"), looks := true }, kinds := [], alts := [], laidByText := true, laidKinds := [.data, .data, .data, .data, .pinned], laidTests := true, laidLooks := .later }
def ArithTellsCardSaid : Prop := Claim7.holds Tryz.pinned (.plain (OpenSpec.ofChange arithTellsSpec)) arithTellsCard

/-- THE SECOND FORM's CARD OF 'almonerlaw13.ArithTells'. -/
def arithTellsUptoCard : Claim7 := { stood := { row := arithTellsUptoRow, standIns := [], harness := (true, "2ff8b650d8b3d210f0126916742daaa355ed5ecc350771e4b31b518bc38afba9"), looks := true }, kinds := [], alts := [], laidByText := true, laidKinds := [.data, .data, .data, .data, .pinned], laidTests := true, laidLooks := .later }
def ArithTellsUptoCardSaid : Prop := Claim7.holds Tryz.pinned (.plain (OpenSpec.upto arithTellsSpec)) arithTellsUptoCard
end Rows
end Go.Proofs.YtbmnngliapmgfaaGreatDoor
