/- For every text, the program's Clash gives the error that the document asks, the first pair of rules that can clash, and a setting under which both would apply (the law Clashes answers true), and the text reads afterwards as it did. What the package-level tables hold when the call begins is tied to the program's text. -/
import Derived.Test.YtnbpdffdnphbeaaGreatDoorClRow
import Derived.Test.YtnbpdffdnphbeaaGreatDoorTie
import Derived.Test.YtnbpdffdnphbeaaGreatDoorCards
import Derived.SevenTiedAt
namespace Go.Proofs.YtnbpdffdnphbeaaGreatDoor
open Go
theorem clashes_card_holds:Rows.ClashesCardSaid :=
 Claim7.holds_tied_plain_at .later [] [.data] true Rows.clashesCard.stood.harness false
  QQ (fun _ h=>by cases h) (by kernel_rfl) (fun _ h=>by cases h) clashes_row_tie rfl ⟨rfl,rfl⟩ (by kernel_rfl) rfl
  (fun f fn hf hfn=>by
   obtain rfl:f=7:=co ((show Tryz.prog.funcNamed "statute/statutelaw.Clashes" = some 7 by kernel_rfl).symm.trans hf) |>.symm;obtain rfl:fn=Tryz.f7:=(co (Tryz.func7.symm.trans hfn)).symm
   exact⟨by kernel_rfl,fun j t ht=>by
    rw[Tryz.params7]at ht;have hm:t∈[9]:=by simpa using Array.mem_of_getElem? ht
    have hall:([9].all fun u => !Tryz.prog.wantsStandIn u)=true:=by kernel_rfl
    exact(show Tryz.prog.wantsStandIn t=false by simpa using List.all_eq_true.1 hall t hm)⟩)
  (by kernel_rfl)
#print axioms clashes_card_holds
end Go.Proofs.YtnbpdffdnphbeaaGreatDoor
