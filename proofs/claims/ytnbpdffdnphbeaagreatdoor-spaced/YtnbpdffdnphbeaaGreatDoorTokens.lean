/- What Tokens of the document's answer gives of a text of at most 4000 bytes: its tokens, in a row of its own. -/
import Derived.Test.YtnbpdffdnphbeaaGreatDoorLex
import Derived.Deep.AppendLies
namespace Go.Proofs.YtnbpdffdnphbeaaGreatDoor
open Go.RowKit

theorem news_cells (w : World) (cs : Array Value) (T : TypeId) (l : List Value) (h : cs.toList = l) :
    ∀ j u, l[j]? = some u → (w.alloc (.cells cs T)).cell? ((⟨w.heap.size, 0, none⟩ : Addr).add j) = some u := by
  subst h
  exact World.news_of_block (heap_alloc_new w _)

end Go.Proofs.YtnbpdffdnphbeaaGreatDoor

/- What next of the document's answer gives: where one gets from a state by a class. -/
namespace Go.Proofs.YtnbpdffdnphbeaaGreatDoor
open Go.RowKit

/-- The document's table lies in its variable. -/
def Folw (w : World) : Prop := ∀ j, j < 129 → w.cell? ⟨0, j, none⟩ = some (.string ⟨(folL.getD j []).toArray⟩)

end Go.Proofs.YtnbpdffdnphbeaaGreatDoor
