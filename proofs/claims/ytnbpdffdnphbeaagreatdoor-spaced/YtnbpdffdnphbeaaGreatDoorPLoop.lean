/- Plain: a ring of conclusions, a row of rules each put over the next: the words, the lines that are read of them. -/
import Derived.Test.YtnbpdffdnphbeaaGreatDoorPWords
namespace Go.Proofs.YtnbpdffdnphbeaaGreatDoor

/-- A name of two letters. -/
def nmB (f : UInt8) (i : Nat) : Bs := [f, UInt8.ofNat (97 + i)]
/- A ring of n conclusions, line by line: its words, what is read of them. -/
/- n rules of one conclusion, each put over the next. -/
end Go.Proofs.YtnbpdffdnphbeaaGreatDoor
