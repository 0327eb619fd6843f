/- Plain facts: the faults of names, ranges and pairs are the same by the program and by the document. -/
import Derived.Test.YtnbpdffdnphbeaaGreatDoorPGraph
import Derived.Test.YtnbpdffdnphbeaaGreatDoorLex4
import Derived.BigQuiet
namespace Go.Proofs.YtnbpdffdnphbeaaGreatDoor

end Go.Proofs.YtnbpdffdnphbeaaGreatDoor

/- What the small functions of the document's answer give: number, limit, first, isNum, isFlag, isHead. -/
namespace Go.Proofs.YtnbpdffdnphbeaaGreatDoor
open Go.RowKit

/-- The lines' tokens lie in memory, behind a slice's pointer. -/
structure RowL (w : World) (a : Option Addr) (us : List Toks) : Prop where
  blk : 0 < us.length → ∃ gl, a = some ⟨gl, 0, none⟩ ∧ ∀ i, i < us.length → ∃ g o c, w.cell? ⟨gl, i, none⟩ = some (.slice (some ⟨g, o, none⟩) (uA us i).length c) ∧ SegR w g o (uA us i) ∧ (uA us i).length ≤ c ∧ c ≤ maxLen
  few : us.length ≤ 10000
  small : ∀ u ∈ us, u.length ≤ 10000

theorem cell_lt {w : World} {g o : Nat} {v : Value} (h : w.cell? ⟨g, o, none⟩ = some v) : g < w.heap.size := by
  rcases Nat.lt_or_ge g w.heap.size with h1 | h1
  · exact h1
  · rw [World.cell?, Array.getElem?_eq_none (by simpa using h1)] at h; cases h
theorem SegR.below' {w w' : World} {g o : Nat} {ts : Toks} (h : SegR w g o ts) (hb : Below w.heap.size w w') : SegR w' g o ts := by
  intro i hi
  obtain ⟨a, b, c⟩ := h i hi
  have hg := cell_lt a
  exact ⟨by rw [hb.cell (p := ⟨g, _, none⟩) hg]; exact a, by rw [hb.cell (p := ⟨g, _, none⟩) hg]; exact b, by rw [hb.cell (p := ⟨g, _, none⟩) hg]; exact c⟩
theorem RowL.below {w w' : World} {a : Option Addr} {us : List Toks} (h : RowL w a us) (hb : Below w.heap.size w w') : RowL w' a us := by
  refine ⟨fun h0 => ?_, h.few, h.small⟩
  obtain ⟨gl, e, p⟩ := h.blk h0
  refine ⟨gl, e, fun i hi => ?_⟩
  obtain ⟨g, o, c, h1, h2, h3, h4⟩ := p i hi
  exact ⟨g, o, c, by rw [hb.cell (p := ⟨gl, i, none⟩) (cell_lt h1)]; exact h1, h2.below' hb, h3, h4⟩
theorem uA_mem {us : List Toks} {i : Nat} (h : i < us.length) : uA us i ∈ us := by simp [uA, List.getD, h]
theorem RowL.at {w : World} {a : Option Addr} {us : List Toks} (h : RowL w a us) {i : Nat} (hi : i < us.length) : ∃ gl g o c, a = some ⟨gl, 0, none⟩ ∧ w.cell? ⟨gl, i, none⟩ = some (.slice (some ⟨g, o, none⟩) (uA us i).length c) ∧ SegR w g o (uA us i) ∧ (uA us i).length ≤ c ∧ c ≤ maxLen ∧ (uA us i).length ≤ 10000 := by
  obtain ⟨gl, e, p⟩ := h.blk (by omega)
  obtain ⟨g, o, c, h1, h2, h3, h4⟩ := p i hi
  exact ⟨gl, g, o, c, e, h1, h2, h3, h4, h.small _ (uA_mem hi)⟩
/-- A token's text and its class. -/
theorem SegR.tok {w : World} {g o : Nat} {ts : Toks} (h : SegR w g o ts) {i : Nat} (hi : i < ts.length) : w.cell? ⟨g, o + i * 3, none⟩ = some (.string ⟨(tA ts i).toArray⟩) ∧ w.cell? ⟨g, o + i * 3 + 2, none⟩ = some (.string ⟨(cA ts i).toArray⟩) :=
  ⟨(h i hi).1, (h i hi).2.2⟩

end Go.Proofs.YtnbpdffdnphbeaaGreatDoor
