/- Cells behind a slice's pointer, by their row and by their type. -/
import Derived.Test.YtnbpdffdnphbeaaGreatDoorRgLinks
import Derived.Test.YtnbpdffdnphbeaaGreatDoorPCheck2
import Derived.Test.YtnbpdffdnphbeaaGreatDoorCkErr2
import Derived.Laws.IdiomStrings
import Derived.Deep.DeepCutAuto
namespace Go.Proofs.YtnbpdffdnphbeaaGreatDoor
open Go.RowKit

/-- Cells lie in memory, from the beginning of a block on, behind a slice's pointer. -/
def CelV (w : World) (a : Option Addr) (xs : List Value) : Prop := xs = [] ∨ ∃ g, a = some ⟨g, 0, none⟩ ∧ ∀ j, j < xs.length → w.cell? ⟨g, j, none⟩ = xs[j]?
theorem CelV.below {w w' : World} {a : Option Addr} {xs : List Value} (h : CelV w a xs) (hb : Below w.heap.size w w') : CelV w' a xs := by
  rcases h with h | ⟨g, h1, h2⟩
  · exact .inl h
  · refine .inr ⟨g, h1, fun j hj => ?_⟩
    have h3 := h2 j hj
    rw [List.getElem?_eq_getElem hj] at h3
    rw [hb.cell (p := ⟨g, j, none⟩) (cell_lt h3), h3, List.getElem?_eq_getElem hj]
theorem CelV.at {w : World} {a : Option Addr} {xs : List Value} (h : CelV w a xs) {j : Nat} {v : Value} (hj : xs[j]? = some v) : ∃ g, a = some ⟨g, 0, none⟩ ∧ w.cell? ⟨g, j, none⟩ = some v := by
  rcases h with h | ⟨g, h1, h2⟩
  · rw [h] at hj; simp at hj
  · exact ⟨g, h1, (h2 j (List.getElem?_eq_some_iff.1 hj).1).trans hj⟩
theorem own_cel {w : World} {B k n : Nat} {t : TypeId} {v : Value} {xs : List Value} (h : w.ownsRow B t k v n xs) : ∃ a c, v = .slice a n c ∧ CelV w a xs ∧ n ≤ c ∧ c ≤ maxLen := by
  have hl := h.1
  rcases h.2 with ⟨h1, h2⟩ | ⟨g, cap, cur, h1, _, h3, h4, h5, _, h7⟩
  · refine ⟨none, 0, by rw [h1, h2], .inl (List.eq_nil_of_length_eq_zero (by rw [hl, h2, Nat.zero_mul])), by omega, Nat.zero_le _⟩
  · exact ⟨some ⟨g, 0, none⟩, cap, h1, .inr ⟨g, rfl, fun j hj => by
      have := List.getElem?_eq_getElem hj
      rw [this]; exact cell_take2 h3 (n := n * k) h7 this⟩, h4, h5⟩
/-- The r-th cell of the i-th of things that take k cells each. -/
theorem flat_get {α : Type} (f : α → List Value) (k : Nat) (hf : ∀ x, (f x).length = k) (d : α) (L : List α) : ∀ i r, i < L.length → r < k → (L.flatMap f)[i * k + r]? = (f (L.getD i d))[r]? := by
  induction L with
  | nil => intro i r h; simp at h
  | cons x L ih =>
    intro i r hi hr
    rw [List.flatMap_cons]
    cases i with
    | zero => rw [Nat.zero_mul, Nat.zero_add, List.getElem?_append_left (by rw [hf]; exact hr)]; rfl
    | succ i =>
      rw [List.getElem?_append_right (by rw [hf]; rw [Nat.succ_mul]; omega), hf, show (i + 1) * k + r - k = i * k + r by rw [Nat.succ_mul]; omega, ih i r (by simpa using hi) hr]; rfl
/-- Cells lie in a block of a type, from its beginning on, behind a slice's pointer. -/
def CelT (w : World) (t : TypeId) (a : Option Addr) (xs : List Value) : Prop := xs = [] ∨ ∃ g cs fz, a = some ⟨g, 0, none⟩ ∧ w.heap[g]? = some (.cells cs t fz) ∧ ∀ j, j < xs.length → cs[j]? = xs[j]?
theorem CelT.cel {w : World} {t : TypeId} {a : Option Addr} {xs : List Value} (h : CelT w t a xs) : CelV w a xs := by
  rcases h with h | ⟨g, cs, fz, h1, h2, h3⟩
  · exact .inl h
  · exact .inr ⟨g, h1, fun j hj => (cell_row h2 j).trans (h3 j hj)⟩
theorem own_celT {w : World} {B k n : Nat} {t : TypeId} {v : Value} {xs : List Value} (h : w.ownsRow B t k v n xs) : ∃ a c, v = .slice a n c ∧ CelT w t a xs := by
  have hl := h.1
  rcases h.2 with ⟨h1, h2⟩ | ⟨g, cap, cur, h1, _, h3, h4, h5, _, h7⟩
  · exact ⟨none, 0, by rw [h1, h2], .inl (List.eq_nil_of_length_eq_zero (by rw [hl, h2, Nat.zero_mul]))⟩
  · exact ⟨some ⟨g, 0, none⟩, cap, h1, .inr ⟨g, cur, _, rfl, h3, fun j hj => by
      rw [← h7, List.getElem?_take, if_pos (by rw [← hl]; exact hj), Array.getElem?_toList]⟩⟩
theorem CelT.keep {w w' : World} {t : TypeId} {a : Option Addr} {xs : List Value} (h : CelT w t a xs) (hk : ∀ (g : Nat) (cs : Array Value) (fz : Nat × Nat), w.heap[g]? = some (Obj.cells cs t fz) → w'.heap[g]? = w.heap[g]?) : CelT w' t a xs := by
  rcases h with h | ⟨g, cs, fz, h1, h2, h3⟩
  · exact .inl h
  · exact .inr ⟨g, cs, fz, h1, by rw [hk g cs fz h2]; exact h2, h3⟩
theorem CelT.below {w w' : World} {t : TypeId} {a : Option Addr} {xs : List Value} (h : CelT w t a xs) (hb : Below w.heap.size w w') : CelT w' t a xs :=
  h.keep fun g _ _ hg => hb.block g (hlt_of hg)
theorem CelT.grown {w w' : World} {t e : TypeId} {B k n : Nat} {v : Value} {ys : List Value} {a : Option Addr} {xs : List Value} (h : CelT w t a xs) (hown : w.ownsRow B e k v n ys) (hne : t ≠ e) (hg : w.grownBy w' v.ownBlock) : CelT w' t a xs :=
  h.keep fun g cs fz hgg => hg.block g (hlt_of hgg) (fun e1 => by
    rcases hown.2 with ⟨k1, _⟩ | ⟨g', cap, cur, k1, _, k3, _⟩
    · rw [k1] at e1; simp [Value.ownBlock] at e1
    · rw [k1] at e1; simp [Value.ownBlock] at e1
      subst e1
      rw [hgg] at k3
      simp only [Option.some.injEq, Obj.cells.injEq] at k3
      exact hne k3.2.1)
theorem CelT.set {w : World} {t : TypeId} {a : Option Addr} {xs : List Value} (h : CelT w t a xs) {b j : Nat} {u : Value} {cs : Array Value} {t' : TypeId} {fz : Nat × Nat} (hb : w.heap[b]? = some (.cells cs t' fz)) (hne : t ≠ t') : CelT (w.setCell ⟨b, j, none⟩ u) t a xs :=
  h.keep fun g cs' fz' hg => Below.heap_setCell _ _ _ _ (fun e => by
    subst e; rw [hb] at hg
    simp only [Option.some.injEq, Obj.cells.injEq] at hg
    exact hne hg.2.1.symm)

end Go.Proofs.YtnbpdffdnphbeaaGreatDoor

/- What Above of the program's links gives: which rule stands above which. -/
namespace Go.Proofs.YtnbpdffdnphbeaaGreatDoor
open Go.RowKit

end Go.Proofs.YtnbpdffdnphbeaaGreatDoor

/- What own gives; the cells of a model, row by row. -/
namespace Go.Proofs.YtnbpdffdnphbeaaGreatDoor
open Go.RowKit

end Go.Proofs.YtnbpdffdnphbeaaGreatDoor
