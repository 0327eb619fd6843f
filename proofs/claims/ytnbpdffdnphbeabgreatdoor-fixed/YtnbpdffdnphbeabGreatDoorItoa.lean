import Derived.Test.YtnbpdffdnphbeabGreatDoorProg
import Derived.Shelf.Strconv.Itoa3
import Derived.Ground.NamesProg
namespace Go.Proofs
open Go.Shelf
end Go.Proofs
