/- For every frame and every row of gaps: however the tokens of the frame's rulebook are strewn, and whatever brackets too many there are, Tidy writes the same text, which is its own Tidy, and neither has a fault (the law Spaced answers true); and the frame reads afterwards as it did. What the package-level tables hold when the call begins is tied to the program's text. -/
import Derived.Test.YtnbpdffdnphbeaaGreatDoorSpRow
import Derived.Test.YtnbpdffdnphbeaaGreatDoorTie
import Derived.Test.YtnbpdffdnphbeaaGreatDoorCards
import Derived.SevenTiedAt
namespace Go.Proofs.YtnbpdffdnphbeaaGreatDoor
open Go

theorem spaced_card_holds : Rows.SpacedCardSaid :=
  Claim7.holds_tied_plain_at .later [] [.data, .data, .data] true Rows.spacedCard.stood.harness false
    spaced_holds (fun _ h => by cases h) (by kernel_rfl) (fun _ h => by cases h) spaced_row_tie rfl ⟨rfl, rfl⟩ (by kernel_rfl) rfl
    (fun f fn hf hfn => by
      obtain rfl : f = 9 := Option.some.inj ((show Tryz.prog.funcNamed "statute/statutekeep.Spaced" = some 9 by kernel_rfl).symm.trans hf) |>.symm
      obtain rfl : fn = Tryz.f9 := (Option.some.inj (Tryz.func9.symm.trans hfn)).symm
      exact ⟨by kernel_rfl, fun j t ht => by
        rw [Tryz.params9] at ht
        have hm : t ∈ [62, 59] := by simpa using Array.mem_of_getElem? ht
        have hall : ([62, 59].all fun u => !Tryz.prog.wantsStandIn u) = true := by kernel_rfl
        exact (show Tryz.prog.wantsStandIn t = false by simpa using List.all_eq_true.1 hall t hm)⟩)
    (by kernel_rfl)
#print axioms spaced_card_holds
end Go.Proofs.YtnbpdffdnphbeaaGreatDoor
