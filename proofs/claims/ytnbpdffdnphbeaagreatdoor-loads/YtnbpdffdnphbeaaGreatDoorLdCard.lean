/- For every text, strictly and leniently, the program's Load gives the error that the document gives, and a Base just where it gives none (the law Loads answers true), and the text reads afterwards as it did. What the package-level tables hold when the call begins is tied to the program's text. -/
import Derived.Test.YtnbpdffdnphbeaaGreatDoorLdRow
import Derived.Test.YtnbpdffdnphbeaaGreatDoorTie
import Derived.Test.YtnbpdffdnphbeaaGreatDoorCards
import Derived.SevenTiedAt
namespace Go.Proofs.YtnbpdffdnphbeaaGreatDoor
open Go
theorem loads_card_holds:Rows.LoadsCardSaid :=
 Claim7.holds_tied_plain_at .later [] [.data] true Rows.loadsCard.stood.harness false
  VH (fun _ h=>by cases h) (by kernel_rfl) (fun _ h=>by cases h) loads_row_tie rfl ⟨rfl,rfl⟩ (by kernel_rfl) rfl
  (fun f fn hf hfn=>by
   obtain rfl:f=3:=co ((show Tryz.prog.funcNamed "statute/statutelaw.Loads" = some 3 by kernel_rfl).symm.trans hf) |>.symm;obtain rfl:fn=Tryz.f3:=(co (Tryz.func3.symm.trans hfn)).symm
   exact⟨by kernel_rfl,fun j t ht=>by
    rw[Tryz.params3]at ht;have hm:t∈[9,4]:=by simpa using Array.mem_of_getElem? ht
    have hall:([9,4].all fun u => !Tryz.prog.wantsStandIn u)=true:=by kernel_rfl
    exact(show Tryz.prog.wantsStandIn t=false by simpa using List.all_eq_true.1 hall t hm)⟩)
  (by kernel_rfl)
#print axioms loads_card_holds
end Go.Proofs.YtnbpdffdnphbeaaGreatDoor
