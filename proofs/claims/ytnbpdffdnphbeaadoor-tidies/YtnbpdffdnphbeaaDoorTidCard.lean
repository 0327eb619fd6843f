/- For every text, the program's Tidy gives the same text and the same fault as the document's Tidy does (the law Tidies answers true), and the text reads afterwards as it did. What the package-level tables hold when the call begins is tied to the program's text. -/
import Derived.Test.YtnbpdffdnphbeaaDoorTidRow
import Derived.Test.YtnbpdffdnphbeaaDoorTie
import Derived.Test.YtnbpdffdnphbeaaDoorCards
import Derived.SevenTiedAt
namespace Go.Proofs.YtnbpdffdnphbeaaDoor
open Go

theorem tidies_card_holds : Rows.TidiesCardSaid :=
  Claim7.holds_tied_plain_at .later [] [.data, .data, .data, .data] true Rows.tidiesCard.stood.harness false
    tidies_holds (fun _ h => by cases h) (by kernel_rfl) (fun _ h => by cases h) tidies_row_tie rfl ⟨rfl, rfl⟩ (by kernel_rfl) rfl
    (fun f fn hf hfn => by
      obtain rfl : f = 4 := Option.some.inj ((show Tryd.prog.funcNamed "statute/statutelaw.Tidies" = some 4 by kernel_rfl).symm.trans hf) |>.symm
      obtain rfl : fn = Tryd.f4 := (Option.some.inj (Tryd.func4.symm.trans hfn)).symm
      exact ⟨by kernel_rfl, fun j t ht => by
        rw [Tryd.params4] at ht
        have hm : t ∈ [9] := by simpa using Array.mem_of_getElem? ht
        have hall : ([9].all fun u => !Tryd.prog.wantsStandIn u) = true := by kernel_rfl
        exact (show Tryd.prog.wantsStandIn t = false by simpa using List.all_eq_true.1 hall t hm)⟩)
    (by kernel_rfl)
#print axioms tidies_card_holds
end Go.Proofs.YtnbpdffdnphbeaaDoor
