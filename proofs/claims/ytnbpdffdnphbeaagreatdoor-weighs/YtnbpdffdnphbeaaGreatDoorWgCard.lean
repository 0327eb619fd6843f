/- For every text and all facts, the program's Load gives, leniently, a Base just where the document gives one, and its Weigh of the facts answers as the document's (the law Weighs answers true), and both texts read afterwards as they did. What the package-level tables hold when the call begins is tied to the program's text. -/
import Derived.Test.YtnbpdffdnphbeaaGreatDoorWgRow
import Derived.Test.YtnbpdffdnphbeaaGreatDoorTie
import Derived.Test.YtnbpdffdnphbeaaGreatDoorCards
import Derived.SevenTiedAt
namespace Go.Proofs.YtnbpdffdnphbeaaGreatDoor
open Go
theorem weighs_card_holds:Rows.WeighsCardSaid :=
 Claim7.holds_tied_plain_at .later [] [.data] true Rows.weighsCard.stood.harness false
  Js (fun _ h=>by cases h) (by kernel_rfl) (fun _ h=>by cases h) weighs_row_tie rfl ⟨rfl,rfl⟩ (by kernel_rfl) rfl
  (fun f fn hf hfn=>by
   obtain rfl:f=5:=Option.some.inj ((show Tryz.prog.funcNamed "statute/statutelaw.Weighs" = some 5 by kernel_rfl).symm.trans hf) |>.symm;obtain rfl:fn=Tryz.f5:=(Option.some.inj (Tryz.func5.symm.trans hfn)).symm
   exact⟨by kernel_rfl,fun j t ht=>by
    rw[Tryz.params5]at ht;have hm:t∈[9,9]:=by simpa using Array.mem_of_getElem? ht
    have hall:([9,9].all fun u => !Tryz.prog.wantsStandIn u)=true:=by kernel_rfl
    exact(show Tryz.prog.wantsStandIn t=false by simpa using List.all_eq_true.1 hall t hm)⟩)
  (by kernel_rfl)
#print axioms weighs_card_holds
end Go.Proofs.YtnbpdffdnphbeaaGreatDoor
