/- For every frame and every row of raw numbers: in the case that the numbers give, no conclusion of what was loaded strictly of the frame's rulebook clashes, and it answers as what was loaded leniently; where it is not loaded strictly, Clash shows two rules of it that can clash (the law Calm answers true); and the frame reads afterwards as it did. What the package-level tables hold when the call begins is tied to the program's text. -/
import Derived.Test.YtnbpdffdnphbeabGreatDoorCaRow
import Derived.Test.YtnbpdffdnphbeabGreatDoorTie
import Derived.Test.YtnbpdffdnphbeabGreatDoorCards
import Derived.SevenTiedAt
namespace Go.Proofs.YtnbpdffdnphbeabGreatDoor
open Go
theorem calm_card_holds:Rows.CalmCardSaid :=
 Claim7.holds_tied_plain_at .later [] [.data,.data,.data] true Rows.calmCard.stood.harness false
  Ch (fun _ h=>by cases h) (by kernel_rfl) (fun _ h=>by cases h) calm_row_tie rfl ⟨rfl,rfl⟩ (by kernel_rfl) rfl
  (fun f fn hf hfn=>by
   obtain rfl:f=6:=dn ((show Tryz.prog.funcNamed "statute/statutekeep.Calm" = some 6 by kernel_rfl).symm.trans hf) |>.symm;obtain rfl:fn=Tryz.f6:=(dn (Tryz.func6.symm.trans hfn)).symm
   exact⟨by kernel_rfl,fun j t ht=>by
    rw[Tryz.params6]at ht;have hm:t∈[25,22]:=by simpa using Array.mem_of_getElem? ht
    have hall:([25,22].all fun u => !Tryz.prog.wantsStandIn u)=true:=by kernel_rfl
    exact(show Tryz.prog.wantsStandIn t=false by simpa using List.all_eq_true.1 hall t hm)⟩)
  (by kernel_rfl)
#print axioms calm_card_holds
end Go.Proofs.YtnbpdffdnphbeabGreatDoor
