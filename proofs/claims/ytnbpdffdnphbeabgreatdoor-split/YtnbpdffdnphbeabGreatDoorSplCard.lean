/- For every frame and every row of raw numbers: of two rules, one with a guard, one with all of it behind not, the rulebook is loaded strictly and Clash finds nothing, and in the case that the numbers give the conclusion holds, with the number of the one rule that applies (the law Split answers true); and the frame reads afterwards as it did. What the package-level tables hold when the call begins is tied to the program's text. -/
import Derived.Test.YtnbpdffdnphbeabGreatDoorSplRow
import Derived.Test.YtnbpdffdnphbeabGreatDoorTie
import Derived.Test.YtnbpdffdnphbeabGreatDoorCards
import Derived.SevenTiedAt
namespace Go.Proofs.YtnbpdffdnphbeabGreatDoor
open Go
theorem split_card_holds:Rows.SplitCardSaid :=
 Claim7.holds_tied_plain_at .later [] [.data,.data,.data] true Rows.splitCard.stood.harness false
  KH (fun _ h=>by cases h) (by kernel_rfl) (fun _ h=>by cases h) split_row_tie rfl ⟨rfl,rfl⟩ (by kernel_rfl) rfl
  (fun f fn hf hfn=>by
   obtain rfl:f=8:=Option.some.inj ((show Tryz.prog.funcNamed "statute/statutekeep.Split" = some 8 by kernel_rfl).symm.trans hf) |>.symm;obtain rfl:fn=Tryz.f8:=(Option.some.inj (Tryz.func8.symm.trans hfn)).symm
   exact⟨by kernel_rfl,fun j t ht=>by
    rw[Tryz.params8]at ht;have hm:t∈[25,22]:=by simpa using Array.mem_of_getElem? ht
    have hall:([25,22].all fun u => !Tryz.prog.wantsStandIn u)=true:=by kernel_rfl
    exact(show Tryz.prog.wantsStandIn t=false by simpa using List.all_eq_true.1 hall t hm)⟩)
  (by kernel_rfl)
#print axioms split_card_holds
end Go.Proofs.YtnbpdffdnphbeabGreatDoor
