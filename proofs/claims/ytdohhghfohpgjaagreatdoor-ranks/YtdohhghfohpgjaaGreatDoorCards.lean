/-
  DERIVED. GIVEN WITH THE SEED: THE CARDS: each row of YtdohhghfohpgjaaGreatDoorRows.lean that lists a variable, with what it lists TIED to the program's text (the seventh form; the later family's looks); each row that meets fmt, with fmt's text TOLD by the authors' own Lean function (tested against real Go, not proved from fmt's source: count such statements apart). THE CARD IS WHAT COUNTS. Prove the row's statement (the work); the ties are given (YtdohhghfohpgjaaGreatDoorTie.lean); close each card by the builder's one call (the guide's Derived/Test/ToyasCard.lean, 'card_holds'). Laid BY PROGRAM, IN A SANDBOX (cutbox-door.mjs). By AI agents, Wed Nov 11 2026. No macro, syntax, notation, axiom, sorry.
-/
import Derived.Test.YtdohhghfohpgjaaGreatDoorRows
import GoSem.ClaimSeven
namespace Go.Proofs.YtdohhghfohpgjaaGreatDoor
namespace Rows

/-- THE TIED CARD OF 'statutelaw.Loads'. -/
def loadsCard : Claim7 := { stood := { row := loadsRow, standIns := [], harness := (true, "b7489133cf99c51e1c6664f608291f632818bcf45035a69519e1de46616dc5d6"), looks := false }, kinds := [], alts := [], laidByText := true, laidKinds := [.data], laidTests := true, laidLooks := .later }
def LoadsCardSaid : Prop := Claim7.holds Tryz.pinned (.plain (OpenSpec.ofChange loadsSpec)) loadsCard

/-- THE TIED CARD OF 'statutelaw.Ranks'. -/
def ranksCard : Claim7 := { stood := { row := ranksRow, standIns := [], harness := (true, "b7489133cf99c51e1c6664f608291f632818bcf45035a69519e1de46616dc5d6"), looks := false }, kinds := [], alts := [], laidByText := true, laidKinds := [.data], laidTests := true, laidLooks := .later }
def RanksCardSaid : Prop := Claim7.holds Tryz.pinned (.plain (OpenSpec.ofChange ranksSpec)) ranksCard

/-- THE TIED CARD OF 'statutekeep.Spaced'. -/
def spacedCard : Claim7 := { stood := { row := spacedRow, standIns := [], harness := (true, "b7489133cf99c51e1c6664f608291f632818bcf45035a69519e1de46616dc5d6"), looks := false }, kinds := [], alts := [], laidByText := true, laidKinds := [.data, .data, .data], laidTests := true, laidLooks := .later }
def SpacedCardSaid : Prop := Claim7.holds Tryz.pinned (.plain (OpenSpec.ofChange spacedSpec)) spacedCard

/-- THE SECOND FORM's CARD OF 'statutelaw.Loads'. -/
def loadsUptoCard : Claim7 := { stood := { row := loadsUptoRow, standIns := [], harness := (true, "b7489133cf99c51e1c6664f608291f632818bcf45035a69519e1de46616dc5d6"), looks := false }, kinds := [], alts := [], laidByText := true, laidKinds := [.data], laidTests := true, laidLooks := .later }
def LoadsUptoCardSaid : Prop := Claim7.holds Tryz.pinned (.plain (OpenSpec.upto loadsSpec)) loadsUptoCard

/-- THE SECOND FORM's CARD OF 'statutelaw.Ranks'. -/
def ranksUptoCard : Claim7 := { stood := { row := ranksUptoRow, standIns := [], harness := (true, "b7489133cf99c51e1c6664f608291f632818bcf45035a69519e1de46616dc5d6"), looks := false }, kinds := [], alts := [], laidByText := true, laidKinds := [.data], laidTests := true, laidLooks := .later }
def RanksUptoCardSaid : Prop := Claim7.holds Tryz.pinned (.plain (OpenSpec.upto ranksSpec)) ranksUptoCard

/-- THE SECOND FORM's CARD OF 'statutekeep.Spaced'. -/
def spacedUptoCard : Claim7 := { stood := { row := spacedUptoRow, standIns := [], harness := (true, "b7489133cf99c51e1c6664f608291f632818bcf45035a69519e1de46616dc5d6"), looks := false }, kinds := [], alts := [], laidByText := true, laidKinds := [.data, .data, .data], laidTests := true, laidLooks := .later }
def SpacedUptoCardSaid : Prop := Claim7.holds Tryz.pinned (.plain (OpenSpec.upto spacedSpec)) spacedUptoCard
end Rows
end Go.Proofs.YtdohhghfohpgjaaGreatDoor
