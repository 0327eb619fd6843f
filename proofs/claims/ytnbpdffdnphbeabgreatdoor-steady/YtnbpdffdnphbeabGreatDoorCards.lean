/-
  DERIVED. GIVEN WITH THE SEED: THE CARDS: each row of YtnbpdffdnphbeabGreatDoorRows.lean that lists a variable, with what it lists TIED to the program's text (the seventh form; the later family's looks); each row that meets fmt, with fmt's text TOLD by the authors' own Lean function (tested against real Go, not proved from fmt's source: count such statements apart). THE CARD IS WHAT COUNTS. Prove the row's statement (the work); the ties are given (YtnbpdffdnphbeabGreatDoorTie.lean); close each card by the builder's one call (the guide's Derived/Test/ToyasCard.lean, 'card_holds'). Laid BY PROGRAM, IN A SANDBOX (cutbox-door.mjs). By AI agents, Wed Nov 11 2026. No macro, syntax, notation, axiom, sorry.
-/
import Derived.Test.YtnbpdffdnphbeabGreatDoorRows
import GoSem.ClaimSeven
namespace Go.Proofs.YtnbpdffdnphbeabGreatDoor
namespace Rows

/-- THE TIED CARD OF 'statutekeep.Fixed'. -/
def fixedCard : Claim7 := { stood := { row := fixedRow, standIns := [], harness := (true, "9cde6700d86702e6ed88f740ad61ea2d795912d3d784ff04db5fa5a51e28fedd"), looks := false }, kinds := [], alts := [], laidByText := true, laidKinds := [.data, .data, .data], laidTests := true, laidLooks := .later }
def FixedCardSaid : Prop := Claim7.holds Tryz.pinned (.plain (OpenSpec.ofChange fixedSpec)) fixedCard

/-- THE TIED CARD OF 'statutekeep.Turned'. -/
def turnedCard : Claim7 := { stood := { row := turnedRow, standIns := [], harness := (true, "9cde6700d86702e6ed88f740ad61ea2d795912d3d784ff04db5fa5a51e28fedd"), looks := false }, kinds := [], alts := [], laidByText := true, laidKinds := [.data, .data, .data], laidTests := true, laidLooks := .later }
def TurnedCardSaid : Prop := Claim7.holds Tryz.pinned (.plain (OpenSpec.ofChange turnedSpec)) turnedCard

/-- THE TIED CARD OF 'statutekeep.Sound'. -/
def soundCard : Claim7 := { stood := { row := soundRow, standIns := [], harness := (true, "9cde6700d86702e6ed88f740ad61ea2d795912d3d784ff04db5fa5a51e28fedd"), looks := false }, kinds := [], alts := [], laidByText := true, laidKinds := [.data, .data, .data], laidTests := true, laidLooks := .later }
def SoundCardSaid : Prop := Claim7.holds Tryz.pinned (.plain (OpenSpec.ofChange soundSpec)) soundCard

/-- THE TIED CARD OF 'statutekeep.Calm'. -/
def calmCard : Claim7 := { stood := { row := calmRow, standIns := [], harness := (true, "9cde6700d86702e6ed88f740ad61ea2d795912d3d784ff04db5fa5a51e28fedd"), looks := false }, kinds := [], alts := [], laidByText := true, laidKinds := [.data, .data, .data], laidTests := true, laidLooks := .later }
def CalmCardSaid : Prop := Claim7.holds Tryz.pinned (.plain (OpenSpec.ofChange calmSpec)) calmCard

/-- THE TIED CARD OF 'statutekeep.Cured'. -/
def curedCard : Claim7 := { stood := { row := curedRow, standIns := [], harness := (true, "9cde6700d86702e6ed88f740ad61ea2d795912d3d784ff04db5fa5a51e28fedd"), looks := false }, kinds := [], alts := [], laidByText := true, laidKinds := [.data, .data, .data], laidTests := true, laidLooks := .later }
def CuredCardSaid : Prop := Claim7.holds Tryz.pinned (.plain (OpenSpec.ofChange curedSpec)) curedCard

/-- THE TIED CARD OF 'statutekeep.Split'. -/
def splitCard : Claim7 := { stood := { row := splitRow, standIns := [], harness := (true, "9cde6700d86702e6ed88f740ad61ea2d795912d3d784ff04db5fa5a51e28fedd"), looks := false }, kinds := [], alts := [], laidByText := true, laidKinds := [.data, .data, .data], laidTests := true, laidLooks := .later }
def SplitCardSaid : Prop := Claim7.holds Tryz.pinned (.plain (OpenSpec.ofChange splitSpec)) splitCard

/-- THE TIED CARD OF 'statutekeep.Steady'. -/
def steadyCard : Claim7 := { stood := { row := steadyRow, standIns := [], harness := (true, "9cde6700d86702e6ed88f740ad61ea2d795912d3d784ff04db5fa5a51e28fedd"), looks := false }, kinds := [], alts := [], laidByText := true, laidKinds := [.data, .data, .data], laidTests := true, laidLooks := .later }
def SteadyCardSaid : Prop := Claim7.holds Tryz.pinned (.plain (OpenSpec.ofChange steadySpec)) steadyCard

/-- THE SECOND FORM's CARD OF 'statutekeep.Fixed'. -/
def fixedUptoCard : Claim7 := { stood := { row := fixedUptoRow, standIns := [], harness := (true, "9cde6700d86702e6ed88f740ad61ea2d795912d3d784ff04db5fa5a51e28fedd"), looks := false }, kinds := [], alts := [], laidByText := true, laidKinds := [.data, .data, .data], laidTests := true, laidLooks := .later }
def FixedUptoCardSaid : Prop := Claim7.holds Tryz.pinned (.plain (OpenSpec.upto fixedSpec)) fixedUptoCard

/-- THE SECOND FORM's CARD OF 'statutekeep.Turned'. -/
def turnedUptoCard : Claim7 := { stood := { row := turnedUptoRow, standIns := [], harness := (true, "9cde6700d86702e6ed88f740ad61ea2d795912d3d784ff04db5fa5a51e28fedd"), looks := false }, kinds := [], alts := [], laidByText := true, laidKinds := [.data, .data, .data], laidTests := true, laidLooks := .later }
def TurnedUptoCardSaid : Prop := Claim7.holds Tryz.pinned (.plain (OpenSpec.upto turnedSpec)) turnedUptoCard

/-- THE SECOND FORM's CARD OF 'statutekeep.Sound'. -/
def soundUptoCard : Claim7 := { stood := { row := soundUptoRow, standIns := [], harness := (true, "9cde6700d86702e6ed88f740ad61ea2d795912d3d784ff04db5fa5a51e28fedd"), looks := false }, kinds := [], alts := [], laidByText := true, laidKinds := [.data, .data, .data], laidTests := true, laidLooks := .later }
def SoundUptoCardSaid : Prop := Claim7.holds Tryz.pinned (.plain (OpenSpec.upto soundSpec)) soundUptoCard

/-- THE SECOND FORM's CARD OF 'statutekeep.Calm'. -/
def calmUptoCard : Claim7 := { stood := { row := calmUptoRow, standIns := [], harness := (true, "9cde6700d86702e6ed88f740ad61ea2d795912d3d784ff04db5fa5a51e28fedd"), looks := false }, kinds := [], alts := [], laidByText := true, laidKinds := [.data, .data, .data], laidTests := true, laidLooks := .later }
def CalmUptoCardSaid : Prop := Claim7.holds Tryz.pinned (.plain (OpenSpec.upto calmSpec)) calmUptoCard

/-- THE SECOND FORM's CARD OF 'statutekeep.Cured'. -/
def curedUptoCard : Claim7 := { stood := { row := curedUptoRow, standIns := [], harness := (true, "9cde6700d86702e6ed88f740ad61ea2d795912d3d784ff04db5fa5a51e28fedd"), looks := false }, kinds := [], alts := [], laidByText := true, laidKinds := [.data, .data, .data], laidTests := true, laidLooks := .later }
def CuredUptoCardSaid : Prop := Claim7.holds Tryz.pinned (.plain (OpenSpec.upto curedSpec)) curedUptoCard

/-- THE SECOND FORM's CARD OF 'statutekeep.Split'. -/
def splitUptoCard : Claim7 := { stood := { row := splitUptoRow, standIns := [], harness := (true, "9cde6700d86702e6ed88f740ad61ea2d795912d3d784ff04db5fa5a51e28fedd"), looks := false }, kinds := [], alts := [], laidByText := true, laidKinds := [.data, .data, .data], laidTests := true, laidLooks := .later }
def SplitUptoCardSaid : Prop := Claim7.holds Tryz.pinned (.plain (OpenSpec.upto splitSpec)) splitUptoCard

/-- THE SECOND FORM's CARD OF 'statutekeep.Steady'. -/
def steadyUptoCard : Claim7 := { stood := { row := steadyUptoRow, standIns := [], harness := (true, "9cde6700d86702e6ed88f740ad61ea2d795912d3d784ff04db5fa5a51e28fedd"), looks := false }, kinds := [], alts := [], laidByText := true, laidKinds := [.data, .data, .data], laidTests := true, laidLooks := .later }
def SteadyUptoCardSaid : Prop := Claim7.holds Tryz.pinned (.plain (OpenSpec.upto steadySpec)) steadyUptoCard
end Rows
end Go.Proofs.YtnbpdffdnphbeabGreatDoor
