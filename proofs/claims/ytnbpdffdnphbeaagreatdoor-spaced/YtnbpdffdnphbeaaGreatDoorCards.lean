/-
  DERIVED. GIVEN WITH THE SEED: THE CARDS: each row of YtnbpdffdnphbeaaGreatDoorRows.lean that lists a variable, with what it lists TIED to the program's text (the seventh form; the later family's looks); each row that meets fmt, with fmt's text TOLD by the authors' own Lean function (tested against real Go, not proved from fmt's source: count such statements apart). THE CARD IS WHAT COUNTS. Prove the row's statement (the work); the ties are given (YtnbpdffdnphbeaaGreatDoorTie.lean); close each card by the builder's one call (the guide's Derived/Test/ToyasCard.lean, 'card_holds'). Laid BY PROGRAM, IN A SANDBOX (cutbox-door.mjs). By AI agents, Wed Nov 11 2026. No macro, syntax, notation, axiom, sorry.
-/
import Derived.Test.YtnbpdffdnphbeaaGreatDoorRows
import GoSem.ClaimSeven
namespace Go.Proofs.YtnbpdffdnphbeaaGreatDoor
namespace Rows

/-- THE TIED CARD OF 'statutelaw.Loads'. -/
def loadsCard : Claim7 := { stood := { row := loadsRow, standIns := [], harness := (true, "aa8143df96b85928e179bfba888d8f7065f73e06b0de15664ffec1b17479f64b"), looks := false }, kinds := [], alts := [], laidByText := true, laidKinds := [.data], laidTests := true, laidLooks := .later }
def LoadsCardSaid : Prop := Claim7.holds Tryz.pinned (.plain (OpenSpec.ofChange loadsSpec)) loadsCard

/-- THE TIED CARD OF 'statutelaw.Ranks'. -/
def ranksCard : Claim7 := { stood := { row := ranksRow, standIns := [], harness := (true, "aa8143df96b85928e179bfba888d8f7065f73e06b0de15664ffec1b17479f64b"), looks := false }, kinds := [], alts := [], laidByText := true, laidKinds := [.data], laidTests := true, laidLooks := .later }
def RanksCardSaid : Prop := Claim7.holds Tryz.pinned (.plain (OpenSpec.ofChange ranksSpec)) ranksCard

/-- THE TIED CARD OF 'statutelaw.Weighs'. -/
def weighsCard : Claim7 := { stood := { row := weighsRow, standIns := [], harness := (true, "aa8143df96b85928e179bfba888d8f7065f73e06b0de15664ffec1b17479f64b"), looks := false }, kinds := [], alts := [], laidByText := true, laidKinds := [.data], laidTests := true, laidLooks := .later }
def WeighsCardSaid : Prop := Claim7.holds Tryz.pinned (.plain (OpenSpec.ofChange weighsSpec)) weighsCard

/-- THE TIED CARD OF 'statutelaw.Evals'. -/
def evalsCard : Claim7 := { stood := { row := evalsRow, standIns := [], harness := (true, "aa8143df96b85928e179bfba888d8f7065f73e06b0de15664ffec1b17479f64b"), looks := false }, kinds := [], alts := [], laidByText := true, laidKinds := [.data], laidTests := true, laidLooks := .later }
def EvalsCardSaid : Prop := Claim7.holds Tryz.pinned (.plain (OpenSpec.ofChange evalsSpec)) evalsCard

/-- THE TIED CARD OF 'statutelaw.Clashes'. -/
def clashesCard : Claim7 := { stood := { row := clashesRow, standIns := [], harness := (true, "aa8143df96b85928e179bfba888d8f7065f73e06b0de15664ffec1b17479f64b"), looks := false }, kinds := [], alts := [], laidByText := true, laidKinds := [.data], laidTests := true, laidLooks := .later }
def ClashesCardSaid : Prop := Claim7.holds Tryz.pinned (.plain (OpenSpec.ofChange clashesSpec)) clashesCard

/-- THE TIED CARD OF 'statutelaw.All'. -/
def allCard : Claim7 := { stood := { row := allRow, standIns := [], harness := (true, "aa8143df96b85928e179bfba888d8f7065f73e06b0de15664ffec1b17479f64b"), looks := false }, kinds := [], alts := [], laidByText := true, laidKinds := [.data, .data, .data, .data], laidTests := true, laidLooks := .later }
def AllCardSaid : Prop := Claim7.holds Tryz.pinned (.plain (OpenSpec.ofChange allSpec)) allCard

/-- THE TIED CARD OF 'statutekeep.Spaced'. -/
def spacedCard : Claim7 := { stood := { row := spacedRow, standIns := [], harness := (true, "aa8143df96b85928e179bfba888d8f7065f73e06b0de15664ffec1b17479f64b"), looks := false }, kinds := [], alts := [], laidByText := true, laidKinds := [.data, .data, .data], laidTests := true, laidLooks := .later }
def SpacedCardSaid : Prop := Claim7.holds Tryz.pinned (.plain (OpenSpec.ofChange spacedSpec)) spacedCard

/-- THE SECOND FORM's CARD OF 'statutelaw.Loads'. -/
def loadsUptoCard : Claim7 := { stood := { row := loadsUptoRow, standIns := [], harness := (true, "aa8143df96b85928e179bfba888d8f7065f73e06b0de15664ffec1b17479f64b"), looks := false }, kinds := [], alts := [], laidByText := true, laidKinds := [.data], laidTests := true, laidLooks := .later }
def LoadsUptoCardSaid : Prop := Claim7.holds Tryz.pinned (.plain (OpenSpec.upto loadsSpec)) loadsUptoCard

/-- THE SECOND FORM's CARD OF 'statutelaw.Ranks'. -/
def ranksUptoCard : Claim7 := { stood := { row := ranksUptoRow, standIns := [], harness := (true, "aa8143df96b85928e179bfba888d8f7065f73e06b0de15664ffec1b17479f64b"), looks := false }, kinds := [], alts := [], laidByText := true, laidKinds := [.data], laidTests := true, laidLooks := .later }
def RanksUptoCardSaid : Prop := Claim7.holds Tryz.pinned (.plain (OpenSpec.upto ranksSpec)) ranksUptoCard

/-- THE SECOND FORM's CARD OF 'statutelaw.Weighs'. -/
def weighsUptoCard : Claim7 := { stood := { row := weighsUptoRow, standIns := [], harness := (true, "aa8143df96b85928e179bfba888d8f7065f73e06b0de15664ffec1b17479f64b"), looks := false }, kinds := [], alts := [], laidByText := true, laidKinds := [.data], laidTests := true, laidLooks := .later }
def WeighsUptoCardSaid : Prop := Claim7.holds Tryz.pinned (.plain (OpenSpec.upto weighsSpec)) weighsUptoCard

/-- THE SECOND FORM's CARD OF 'statutelaw.Evals'. -/
def evalsUptoCard : Claim7 := { stood := { row := evalsUptoRow, standIns := [], harness := (true, "aa8143df96b85928e179bfba888d8f7065f73e06b0de15664ffec1b17479f64b"), looks := false }, kinds := [], alts := [], laidByText := true, laidKinds := [.data], laidTests := true, laidLooks := .later }
def EvalsUptoCardSaid : Prop := Claim7.holds Tryz.pinned (.plain (OpenSpec.upto evalsSpec)) evalsUptoCard

/-- THE SECOND FORM's CARD OF 'statutelaw.Clashes'. -/
def clashesUptoCard : Claim7 := { stood := { row := clashesUptoRow, standIns := [], harness := (true, "aa8143df96b85928e179bfba888d8f7065f73e06b0de15664ffec1b17479f64b"), looks := false }, kinds := [], alts := [], laidByText := true, laidKinds := [.data], laidTests := true, laidLooks := .later }
def ClashesUptoCardSaid : Prop := Claim7.holds Tryz.pinned (.plain (OpenSpec.upto clashesSpec)) clashesUptoCard

/-- THE SECOND FORM's CARD OF 'statutelaw.All'. -/
def allUptoCard : Claim7 := { stood := { row := allUptoRow, standIns := [], harness := (true, "aa8143df96b85928e179bfba888d8f7065f73e06b0de15664ffec1b17479f64b"), looks := false }, kinds := [], alts := [], laidByText := true, laidKinds := [.data, .data, .data, .data], laidTests := true, laidLooks := .later }
def AllUptoCardSaid : Prop := Claim7.holds Tryz.pinned (.plain (OpenSpec.upto allSpec)) allUptoCard

/-- THE SECOND FORM's CARD OF 'statutekeep.Spaced'. -/
def spacedUptoCard : Claim7 := { stood := { row := spacedUptoRow, standIns := [], harness := (true, "aa8143df96b85928e179bfba888d8f7065f73e06b0de15664ffec1b17479f64b"), looks := false }, kinds := [], alts := [], laidByText := true, laidKinds := [.data, .data, .data], laidTests := true, laidLooks := .later }
def SpacedUptoCardSaid : Prop := Claim7.holds Tryz.pinned (.plain (OpenSpec.upto spacedSpec)) spacedUptoCard
end Rows
end Go.Proofs.YtnbpdffdnphbeaaGreatDoor
