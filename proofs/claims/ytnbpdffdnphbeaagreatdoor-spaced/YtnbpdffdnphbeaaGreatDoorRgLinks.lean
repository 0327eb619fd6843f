/- A ring that the program's links tell of lines that lie in memory. -/
import Derived.Test.YtnbpdffdnphbeaaGreatDoorPWalk
namespace Go.Proofs.YtnbpdffdnphbeaaGreatDoor
open Go.RowKit

theorem cell_ltG {w : World} {g i : Nat} {v : Value} (h : w.cell? ⟨g, i, none⟩ = some v) : g < w.heap.size := by
  rcases Nat.lt_or_ge g w.heap.size with h1 | h1
  · exact h1
  · rw [World.cell?, Array.getElem?_eq_none (by simpa using h1)] at h; cases h
theorem IntV.below {w w' : World} {B : Nat} {a : Option Addr} {L : List Nat} (h : IntV w a L) (hb : Below B w w') (hB : w.heap.size ≤ B) : IntV w' a L :=
  ⟨fun h0 => let ⟨g, e, p⟩ := h.blk h0; ⟨g, e, fun j hj => by rw [hb.cell (p := ⟨g, j, none⟩) (Nat.lt_of_lt_of_le (cell_ltG (p j hj)) hB)]; exact p j hj⟩⟩

end Go.Proofs.YtnbpdffdnphbeaaGreatDoor

/- What the program's graph tells of levels. -/
namespace Go.Proofs.YtnbpdffdnphbeaaGreatDoor
open Go.RowKit

def lC (S : List Nat) : Array Value := (intC S).toArray
def lZ : List Nat := List.replicate 8 0
theorem lC_get {S : List Nat} {k : Nat} (h : k < S.length) : (lC S)[k]? = some (.int .i64 ((S.getD k 0 : Nat) : Int)) := by
  simp [lC, intC, List.getD, h]
/-- Levels lie in block g. -/
def LvM (w : World) (g : Nat) (S : List Nat) : Prop := w.heap[g]? = some (.cells (lC S) 318 (0, 0)) ∧ S.length = 8
theorem LvM.cell {w : World} {g : Nat} {S : List Nat} (h : LvM w g S) {k : Nat} (hk : k < 8) : w.cell? ⟨g, k, none⟩ = some (.int .i64 ((S.getD k 0 : Nat) : Int)) := by
  simp only [World.cell?, h.1]
  exact lC_get (by rw [h.2]; exact hk)
theorem LvM.free {w : World} {g : Nat} {S : List Nat} (h : LvM w g S) (k : Nat) : w.frozen? ⟨g, k, none⟩ = false := by simp [World.frozen?, h.1]
theorem LvM.set {w : World} {g : Nat} {S : List Nat} (h : LvM w g S) (k v : Nat) : LvM (w.setCell ⟨g, k, none⟩ (.int .i64 (v : Nat))) g (S.set k v) := by
  refine ⟨?_, by rw [List.length_set]; exact h.2⟩
  rw [setCell_eq_setRow w g k _ _ _ _ h.1]
  have := setRow_heap w g (lC S) ((lC S).setIfInBounds k (.int .i64 (v : Nat))) _ _ h.1
  rw [this]
  congr 2
  simp [lC, intC, List.map_set]
/-- The state of Levels: the numbers that are being set, those that are handed back. -/
structure LvSt (w w' : World) (S : List Nat) : Prop where
  lv : LvM w' (w.heap.size + 1) S
  res : w'.heap[w.heap.size]? = some (.cells (lC lZ) 318 (0, 0))
  bel : Below w.heap.size w w'
theorem LvSt.set {w w' : World} {S : List Nat} (h : LvSt w w' S) (k v : Nat) : LvSt w (w'.setCell ⟨w.heap.size + 1, k, none⟩ (.int .i64 (v : Nat))) (S.set k v) :=
  ⟨h.lv.set k v, hb_set h.res (by omega), h.bel.setCell (p := ⟨w.heap.size + 1, k, none⟩) (by show w.heap.size ≤ w.heap.size + 1; omega) _⟩
theorem LvM.lt {w : World} {g : Nat} {S : List Nat} (h : LvM w g S) : g < w.heap.size := by
  rcases Nat.lt_or_ge g w.heap.size with h1 | h1
  · exact h1
  · have h2 := h.1; rw [Array.getElem?_eq_none h1] at h2; cases h2
theorem LvSt.keep {w w' w'' : World} {S : List Nat} (h : LvSt w w' S) (hb : Below w'.heap.size w' w'') : LvSt w w'' S :=
  ⟨⟨by rw [hb.block _ h.lv.lt]; exact h.lv.1, h.lv.2⟩, by rw [hb.block _ (Nat.lt_of_succ_lt h.lv.lt)]; exact h.res, h.bel.trans (hb.mono h.bel.size)⟩
end Go.Proofs.YtnbpdffdnphbeaaGreatDoor

/- The levels that the program's links tell of lines that lie in memory. -/
namespace Go.Proofs.YtnbpdffdnphbeaaGreatDoor
open Go.RowKit

/-- Names lie in a block of strings. -/
def StrB (w : World) (a : Option Addr) (names : List Bs) : Prop := names = [] ∨ ∃ g cs fz, a = some ⟨g, 0, none⟩ ∧ w.heap[g]? = some (.cells cs 9 fz) ∧ ∀ i, i < names.length → cs[i]? = some (.string ⟨(names.getD i []).toArray⟩)
theorem own_sliceN {w : World} {B : Nat} {e : TypeId} {size : Nat} {v : Value} {n : Nat} {xs : List Value} (h : w.ownsRow B e size v n xs) : ∃ a c, v = .slice a n c := by
  rcases h.2 with ⟨h1, h2⟩ | ⟨g, cap, cur, h1, _⟩
  · exact ⟨none, 0, by rw [h1, h2]⟩
  · exact ⟨_, _, h1⟩
theorem hlt_of {w : World} {g : Nat} {o : Obj} (h : w.heap[g]? = some o) : g < w.heap.size := by
  rcases Nat.lt_or_ge g w.heap.size with h1 | h1
  · exact h1
  · rw [Array.getElem?_eq_none h1] at h; cases h
theorem StrB.new {w : World} {a : Option Addr} {names : List Bs} (h : StrB w a names) (o : Obj) : StrB (w.alloc o) a names := by
  rcases h with h | ⟨g, cs, fz, h1, h2, h3⟩
  · exact .inl h
  · exact .inr ⟨g, cs, fz, h1, hb_new h2, h3⟩
theorem StrB.grown {w w' : World} {a : Option Addr} {names : List Bs} {B : Nat} {v : Value} {n : Nat} {xs : List Value} (h : StrB w a names) (hown : w.ownsRow B 122 2 v n xs) (hg : w.grownBy w' v.ownBlock) : StrB w' a names := by
  rcases h with h | ⟨g, cs, fz, h1, h2, h3⟩
  · exact .inl h
  · refine .inr ⟨g, cs, fz, h1, ?_, h3⟩
    rw [hg.block g (hlt_of h2) (fun e => ?_)]
    · exact h2
    · rcases hown.2 with ⟨k1, _⟩ | ⟨g', cap, cur, k1, _, k3, _⟩
      · rw [k1] at e; simp [Value.ownBlock] at e
      · rw [k1] at e; simp [Value.ownBlock] at e
        subst e
        rw [h2] at k3
        simp at k3

end Go.Proofs.YtnbpdffdnphbeaaGreatDoor
