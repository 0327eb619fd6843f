/- For every text, the program's Check gives the same error and the same place as the document's Check does (the law Checks answers true), and the text reads afterwards as it did. What the package-level tables hold when the call begins is tied to the program's text. -/
import Derived.Test.YtnbpdffdnphbeaaDoorChkRow
import Derived.Test.YtnbpdffdnphbeaaDoorTie
import Derived.Test.YtnbpdffdnphbeaaDoorCards
import Derived.SevenTiedAt
namespace Go.Proofs.YtnbpdffdnphbeaaDoor
open Go

theorem checks_card_holds : Rows.ChecksCardSaid :=
  Claim7.holds_tied_plain_at .later [] [.data] true Rows.checksCard.stood.harness false
    checks_holds (fun _ h => by cases h) (by kernel_rfl) (fun _ h => by cases h) checks_row_tie rfl ⟨rfl, rfl⟩ (by kernel_rfl) rfl
    (fun f fn hf hfn => by
      obtain rfl : f = 3 := Option.some.inj ((show Tryd.prog.funcNamed "statute/statutelaw.Checks" = some 3 by kernel_rfl).symm.trans hf) |>.symm
      obtain rfl : fn = Tryd.f3 := (Option.some.inj (Tryd.func3.symm.trans hfn)).symm
      exact ⟨by kernel_rfl, fun j t ht => by
        rw [Tryd.params3] at ht
        have hm : t ∈ [9] := by simpa using Array.mem_of_getElem? ht
        have hall : ([9].all fun u => !Tryd.prog.wantsStandIn u) = true := by kernel_rfl
        exact (show Tryd.prog.wantsStandIn t = false by simpa using List.all_eq_true.1 hall t hm)⟩)
    (by kernel_rfl)
#print axioms checks_card_holds
end Go.Proofs.YtnbpdffdnphbeaaDoor
