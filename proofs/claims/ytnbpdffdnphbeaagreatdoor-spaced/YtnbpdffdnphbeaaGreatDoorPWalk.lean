/- Going round: what the program's Ring of eight points tells is a ring. Nothing of the program's run is here. -/
import Derived.Test.YtnbpdffdnphbeaaGreatDoorPGraph
import Derived.Test.YtnbpdffdnphbeaaGreatDoorCkGraph
import Derived.Test.YtnbpdffdnphbeaaGreatDoorCkErr
import Derived.Test.YtnbpdffdnphbeaaGreatDoorCkErr2
namespace Go.Proofs.YtnbpdffdnphbeaaGreatDoor

theorem TC.head {M : Nat → Nat → Prop} {a b : Nat} (h : TC M a b) : ∃ z, M a z ∧ (z = b ∨ TC M z b) := by
  refine h (fun a b => ∃ z, M a z ∧ (z = b ∨ TC M z b)) (fun x y h1 => ⟨y, h1, .inl rfl⟩) ?_
  rintro x y z ⟨u, h1, h2⟩ ⟨v, h3, h4⟩
  have hyz : TC M y z := by
    rcases h4 with rfl | h4
    · exact TC.one h3
    · exact (TC.one h3).trans h4
  refine ⟨u, h1, .inr ?_⟩
  rcases h2 with rfl | h2
  · exact hyz
  · exact h2.trans hyz
end Go.Proofs.YtnbpdffdnphbeaaGreatDoor

/- Levels: the program's rounds and the document's recursion tell the same numbers where there is no ring. Nothing of the program's run is here. -/
namespace Go.Proofs.YtnbpdffdnphbeaaGreatDoor

end Go.Proofs.YtnbpdffdnphbeaaGreatDoor

/- What the program's graph tells of a ring: the points, one behind the other. -/
namespace Go.Proofs.YtnbpdffdnphbeaaGreatDoor
open Go.RowKit

def intC (L : List Nat) : List Value := L.map fun a => Value.int .i64 (a : Nat)
/-- Points lie in memory, behind a slice's pointer. -/
structure IntV (w : World) (a : Option Addr) (L : List Nat) : Prop where
  blk : 0 < L.length → ∃ g, a = some ⟨g, 0, none⟩ ∧ ∀ i, i < L.length → w.cell? ⟨g, i, none⟩ = some (.int .i64 ((L.getD i 0 : Nat) : Int))
end Go.Proofs.YtnbpdffdnphbeaaGreatDoor
