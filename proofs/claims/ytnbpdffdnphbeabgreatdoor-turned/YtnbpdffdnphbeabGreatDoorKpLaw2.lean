import Derived.Test.YtnbpdffdnphbeabGreatDoorKpLaw
namespace Go.Proofs.YtnbpdffdnphbeabGreatDoor
open Go.RowKit
variable {M:yB} {G:Nat->GR}
end Go.Proofs.YtnbpdffdnphbeabGreatDoor
