/- For every frame and every row of texts: what Clash tells of the frame's rulebook, and Ring of one fixed text of several rings, is right, and is the same behind whatever other calls of Clash, Ring, Check, Tidy and Load, the lists that came out first being written into (the law Steady answers true); and the frame and the texts read afterwards as they did. What the package-level tables hold when the call begins is tied to the program's text. -/
import Derived.Test.YtnbpdffdnphbeabGreatDoorSyRow
import Derived.Test.YtnbpdffdnphbeabGreatDoorTie
import Derived.Test.YtnbpdffdnphbeabGreatDoorCards
import Derived.SevenTiedAt
open Go.Proofs.Tryz
namespace Go.Proofs.YtnbpdffdnphbeabGreatDoor
open Go
theorem steady_card_holds:Rows.SteadyCardSaid :=
 Claim7.holds_tied_plain_at .later [] [.data,.data,.data] true Rows.steadyCard.stood.harness false
  KG (λ_ h=>by cases h) (by kernel_rfl) (λ_ h=>by cases h) steady_row_tie rfl ⟨rfl,rfl⟩ (by kernel_rfl) rfl
  (λf fn hf aA=>by
   obtain rfl:f=9:=Option.some.inj ((show prog.funcNamed "statute/statutekeep.Steady" = some 9 by kernel_rfl).symm.trans hf) |>.symm;obtain rfl:fn=f9:=(Option.some.inj (func9.symm.trans aA)).symm
   exact⟨by kernel_rfl,λj t ht=>by
    rw[params9]at ht;have hm:t∈[25,70]:=by simpa using Array.mem_of_getElem? ht
    have hall:([25,70].all λu => !prog.wantsStandIn u)=true:=(by kernel_rfl);exact(show prog.wantsStandIn t=false by simpa using List.all_eq_true.1 hall t hm)⟩)
  (by kernel_rfl)
#print axioms steady_card_holds
end Go.Proofs.YtnbpdffdnphbeabGreatDoor
