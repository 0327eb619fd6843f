/- For every frame, every row of raw numbers and every two turns: with its lines turned, and its facts, the rulebook tells the same of each conclusion and of each rule, and is loaded strictly just where it was (the law Turned answers true); and the frame reads afterwards as it did. What the package-level tables hold when the call begins is tied to the program's text. -/
import Derived.Test.YtnbpdffdnphbeabGreatDoorTnRow
import Derived.Test.YtnbpdffdnphbeabGreatDoorTie
import Derived.Test.YtnbpdffdnphbeabGreatDoorCards
import Derived.SevenTiedAt
namespace Go.Proofs.YtnbpdffdnphbeabGreatDoor
open Go
theorem turned_card_holds:Rows.TurnedCardSaid :=
 Claim7.holds_tied_plain_at .later [] [.data,.data,.data] true Rows.turnedCard.stood.harness false
  JP (fun _ h=>by cases h) (by kernel_rfl) (fun _ h=>by cases h) turned_row_tie rfl ⟨rfl,rfl⟩ (by kernel_rfl) rfl
  (fun f fn hf hfn=>by
   obtain rfl:f=4:=Option.some.inj ((show Tryz.prog.funcNamed "statute/statutekeep.Turned" = some 4 by kernel_rfl).symm.trans hf) |>.symm;obtain rfl:fn=Tryz.f4:=(Option.some.inj (Tryz.func4.symm.trans hfn)).symm
   exact⟨by kernel_rfl,fun j t ht=>by
    rw[Tryz.params4]at ht;have hm:t∈[25,22,3,3]:=by simpa using Array.mem_of_getElem? ht
    have zM6:([25,22,3,3].all fun u => !Tryz.prog.wantsStandIn u)=true:=by kernel_rfl
    exact(show Tryz.prog.wantsStandIn t=false by simpa using List.all_eq_true.1 zM6 t hm)⟩)
  (by kernel_rfl)
#print axioms turned_card_holds
end Go.Proofs.YtnbpdffdnphbeabGreatDoor
