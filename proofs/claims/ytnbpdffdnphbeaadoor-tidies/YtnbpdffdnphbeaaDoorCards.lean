/-
  DERIVED. GIVEN WITH THE SEED: THE CARDS: each row of YtnbpdffdnphbeaaDoorRows.lean that lists a variable, with what it lists TIED to the program's text (the seventh form; the later family's looks); each row that meets fmt, with fmt's text TOLD by the authors' own Lean function (tested against real Go, not proved from fmt's source: count such statements apart). THE CARD IS WHAT COUNTS. Prove the row's statement (the work); the ties are given (YtnbpdffdnphbeaaDoorTie.lean); close each card by the builder's one call (the guide's Derived/Test/ToyasCard.lean, 'card_holds'). Laid BY PROGRAM, IN A SANDBOX (cutbox-door.mjs). By AI agents, Wed Nov 11 2026. No macro, syntax, notation, axiom, sorry.
-/
import Derived.Test.YtnbpdffdnphbeaaDoorRows
import GoSem.ClaimSeven
namespace Go.Proofs.YtnbpdffdnphbeaaDoor
namespace Rows

/-- THE TIED CARD OF 'statutelaw.Checks'. -/
def checksCard : Claim7 := { stood := { row := checksRow, standIns := [], harness := (true, "8fc112d30a17b08396ddc7bff915e5d515e09267c1d49e77135345a87869e834"), looks := false }, kinds := [], alts := [], laidByText := true, laidKinds := [.data], laidTests := true, laidLooks := .later }
def ChecksCardSaid : Prop := Claim7.holds Tryd.pinned (.plain (OpenSpec.ofChange checksSpec)) checksCard

/-- THE TIED CARD OF 'statutelaw.Tidies'. -/
def tidiesCard : Claim7 := { stood := { row := tidiesRow, standIns := [], harness := (true, "8fc112d30a17b08396ddc7bff915e5d515e09267c1d49e77135345a87869e834"), looks := false }, kinds := [], alts := [], laidByText := true, laidKinds := [.data, .data, .data, .data], laidTests := true, laidLooks := .later }
def TidiesCardSaid : Prop := Claim7.holds Tryd.pinned (.plain (OpenSpec.ofChange tidiesSpec)) tidiesCard

/-- THE TIED CARD OF 'statutelaw.Rings'. -/
def ringsCard : Claim7 := { stood := { row := ringsRow, standIns := [], harness := (true, "8fc112d30a17b08396ddc7bff915e5d515e09267c1d49e77135345a87869e834"), looks := false }, kinds := [], alts := [], laidByText := true, laidKinds := [.data], laidTests := true, laidLooks := .later }
def RingsCardSaid : Prop := Claim7.holds Tryd.pinned (.plain (OpenSpec.ofChange ringsSpec)) ringsCard

/-- THE SECOND FORM's CARD OF 'statutelaw.Checks'. -/
def checksUptoCard : Claim7 := { stood := { row := checksUptoRow, standIns := [], harness := (true, "8fc112d30a17b08396ddc7bff915e5d515e09267c1d49e77135345a87869e834"), looks := false }, kinds := [], alts := [], laidByText := true, laidKinds := [.data], laidTests := true, laidLooks := .later }
def ChecksUptoCardSaid : Prop := Claim7.holds Tryd.pinned (.plain (OpenSpec.upto checksSpec)) checksUptoCard

/-- THE SECOND FORM's CARD OF 'statutelaw.Tidies'. -/
def tidiesUptoCard : Claim7 := { stood := { row := tidiesUptoRow, standIns := [], harness := (true, "8fc112d30a17b08396ddc7bff915e5d515e09267c1d49e77135345a87869e834"), looks := false }, kinds := [], alts := [], laidByText := true, laidKinds := [.data, .data, .data, .data], laidTests := true, laidLooks := .later }
def TidiesUptoCardSaid : Prop := Claim7.holds Tryd.pinned (.plain (OpenSpec.upto tidiesSpec)) tidiesUptoCard

/-- THE SECOND FORM's CARD OF 'statutelaw.Rings'. -/
def ringsUptoCard : Claim7 := { stood := { row := ringsUptoRow, standIns := [], harness := (true, "8fc112d30a17b08396ddc7bff915e5d515e09267c1d49e77135345a87869e834"), looks := false }, kinds := [], alts := [], laidByText := true, laidKinds := [.data], laidTests := true, laidLooks := .later }
def RingsUptoCardSaid : Prop := Claim7.holds Tryd.pinned (.plain (OpenSpec.upto ringsSpec)) ringsUptoCard
end Rows
end Go.Proofs.YtnbpdffdnphbeaaDoor
