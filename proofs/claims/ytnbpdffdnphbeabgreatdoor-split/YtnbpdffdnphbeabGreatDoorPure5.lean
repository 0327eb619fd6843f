import Derived.Test.YtnbpdffdnphbeabGreatDoorPWeight
namespace Go.Proofs.YtnbpdffdnphbeabGreatDoor
def zGG:Bs:=[111,118,101,114]
end Go.Proofs.YtnbpdffdnphbeabGreatDoor
