/- For every frame and every row of raw numbers: what is loaded strictly of the frame's rulebook has no two rules that conclude the same, neither above the other, and that would both apply under the setting that the numbers give; what is refused so has two, and Clash shows them, and a setting of the frame under which both would apply (the law Sound answers true); and the frame reads afterwards as it did. What the package-level tables hold when the call begins is tied to the program's text. -/
import Derived.Test.YtnbpdffdnphbeabGreatDoorSoRow
import Derived.Test.YtnbpdffdnphbeabGreatDoorTie
import Derived.Test.YtnbpdffdnphbeabGreatDoorCards
import Derived.SevenTiedAt
namespace Go.Proofs.YtnbpdffdnphbeabGreatDoor
open Go
theorem sound_card_holds:Rows.SoundCardSaid :=
 Claim7.holds_tied_plain_at .later [] [.data,.data,.data] true Rows.soundCard.stood.harness false
  K1 (fun _ h=>by cases h) (by kernel_rfl) (fun _ h=>by cases h) sound_row_tie rfl ⟨rfl,rfl⟩ (by kernel_rfl) rfl
  (fun f fn hf hfn=>by
   obtain rfl:f=5:=du ((show Tryz.prog.funcNamed "statute/statutekeep.Sound" = some 5 by kernel_rfl).symm.trans hf) |>.symm;obtain rfl:fn=Tryz.f5:=(du (Tryz.func5.symm.trans hfn)).symm
   exact⟨by kernel_rfl,fun j t ht=>by
    rw[Tryz.params5]at ht;have hm:t∈[25,22]:=by simpa using Array.mem_of_getElem? ht
    have hall:([25,22].all fun u => !Tryz.prog.wantsStandIn u)=true:=by kernel_rfl
    exact(show Tryz.prog.wantsStandIn t=false by simpa using List.all_eq_true.1 hall t hm)⟩)
  (by kernel_rfl)
#print axioms sound_card_holds
end Go.Proofs.YtnbpdffdnphbeabGreatDoor
