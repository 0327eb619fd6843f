/- For every frame and every row of raw numbers: what Eval and Weigh tell of the case that the numbers give follows from itself: each rule of the frame's rulebook stands as it does with the values that Eval tells, each conclusion as it does with these rules (the law Fixed answers true); and the frame reads afterwards as it did. What the package-level tables hold when the call begins is tied to the program's text. -/
import Derived.Test.YtnbpdffdnphbeabGreatDoorFxRow
import Derived.Test.YtnbpdffdnphbeabGreatDoorTie
import Derived.Test.YtnbpdffdnphbeabGreatDoorCards
import Derived.SevenTiedAt
namespace Go.Proofs.YtnbpdffdnphbeabGreatDoor
open Go
theorem fixed_card_holds:Rows.FixedCardSaid :=
 Claim7.holds_tied_plain_at .later [] [.data,.data,.data] true Rows.fixedCard.stood.harness false
  Jj (fun _ h=>by cases h) (by kernel_rfl) (fun _ h=>by cases h) fixed_row_tie rfl ⟨rfl,rfl⟩ (by kernel_rfl) rfl
  (fun f fn hf hfn=>by
   obtain rfl:f=3:=Option.some.inj ((show Tryz.prog.funcNamed "statute/statutekeep.Fixed" = some 3 by kernel_rfl).symm.trans hf) |>.symm;obtain rfl:fn=Tryz.f3:=(Option.some.inj (Tryz.func3.symm.trans hfn)).symm
   exact⟨by kernel_rfl,fun j t ht=>by
    rw[Tryz.params3]at ht;have hm:t∈[25,22]:=by simpa using Array.mem_of_getElem? ht
    have hall:([25,22].all fun u => !Tryz.prog.wantsStandIn u)=true:=by kernel_rfl
    exact(show Tryz.prog.wantsStandIn t=false by simpa using List.all_eq_true.1 hall t hm)⟩)
  (by kernel_rfl)
#print axioms fixed_card_holds
end Go.Proofs.YtnbpdffdnphbeabGreatDoor
