/- For every frame: again and again the two rules that Clash tells of the frame's rulebook, the one put over the other by a line more: within 28 such lines nothing can clash any more, and the rulebook is loaded strictly (the law Cured answers true); and the frame reads afterwards as it did. What the package-level tables hold when the call begins is tied to the program's text. -/
import Derived.Test.YtnbpdffdnphbeabGreatDoorCuRow
import Derived.Test.YtnbpdffdnphbeabGreatDoorTie
import Derived.Test.YtnbpdffdnphbeabGreatDoorCards
import Derived.SevenTiedAt
namespace Go.Proofs.YtnbpdffdnphbeabGreatDoor
open Go
theorem cured_card_holds:Rows.CuredCardSaid :=
 Claim7.holds_tied_plain_at .later [] [.data,.data,.data] true Rows.curedCard.stood.harness false
  VB (fun _ h=>by cases h) (by kernel_rfl) (fun _ h=>by cases h) cured_row_tie rfl ⟨rfl,rfl⟩ (by kernel_rfl) rfl
  (fun f fn hf hfn=>by
   obtain rfl:f=7:=du ((show Tryz.prog.funcNamed "statute/statutekeep.Cured" = some 7 by kernel_rfl).symm.trans hf) |>.symm;obtain rfl:fn=Tryz.f7:=(du (Tryz.func7.symm.trans hfn)).symm
   exact⟨by kernel_rfl,fun j t ht=>by
    rw[Tryz.params7]at ht;have hm:t∈[25]:=by simpa using Array.mem_of_getElem? ht
    have hall:([25].all fun u => !Tryz.prog.wantsStandIn u)=true:=by kernel_rfl
    exact(show Tryz.prog.wantsStandIn t=false by simpa using List.all_eq_true.1 hall t hm)⟩)
  (by kernel_rfl)
#print axioms cured_card_holds
end Go.Proofs.YtnbpdffdnphbeabGreatDoor
