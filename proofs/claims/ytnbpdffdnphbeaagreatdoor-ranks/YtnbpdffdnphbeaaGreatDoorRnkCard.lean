/- For every text, the program's Load gives, leniently, a Base just where the document gives one, and its Levels are the document's (the law Ranks answers true), and the text reads afterwards as it did. What the package-level tables hold when the call begins is tied to the program's text. -/
import Derived.Test.YtnbpdffdnphbeaaGreatDoorRnkRow
import Derived.Test.YtnbpdffdnphbeaaGreatDoorTie
import Derived.Test.YtnbpdffdnphbeaaGreatDoorCards
import Derived.SevenTiedAt
namespace Go.Proofs.YtnbpdffdnphbeaaGreatDoor
open Go

theorem ranks_card_holds : Rows.RanksCardSaid :=
  Claim7.holds_tied_plain_at .later [] [.data] true Rows.ranksCard.stood.harness false
    ranks_holds (fun _ h => by cases h) (by kernel_rfl) (fun _ h => by cases h) ranks_row_tie rfl ⟨rfl, rfl⟩ (by kernel_rfl) rfl
    (fun f fn hf hfn => by
      obtain rfl : f = 4 := Option.some.inj ((show Tryz.prog.funcNamed "statute/statutelaw.Ranks" = some 4 by kernel_rfl).symm.trans hf) |>.symm
      obtain rfl : fn = Tryz.f4 := (Option.some.inj (Tryz.func4.symm.trans hfn)).symm
      exact ⟨by kernel_rfl, fun j t ht => by
        rw [Tryz.params4] at ht
        have hm : t ∈ [9] := by simpa using Array.mem_of_getElem? ht
        have hall : ([9].all fun u => !Tryz.prog.wantsStandIn u) = true := by kernel_rfl
        exact (show Tryz.prog.wantsStandIn t = false by simpa using List.all_eq_true.1 hall t hm)⟩)
    (by kernel_rfl)
#print axioms ranks_card_holds
end Go.Proofs.YtnbpdffdnphbeaaGreatDoor
