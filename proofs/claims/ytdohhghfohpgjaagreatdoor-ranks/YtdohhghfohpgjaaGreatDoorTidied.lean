/- What tidied of the document's answer gives of the tokens of a guard: the text and its kind. -/
import Derived.Test.YtdohhghfohpgjaaGreatDoorForm
namespace Go.Proofs.YtdohhghfohpgjaaGreatDoor
open Go.RowKit

theorem hideP {p : Prop} (h : p) : Hid p := h

theorem SegR.drop {w : World} {g o : Nat} {ts : Toks} (h : SegR w g o ts) (k : Nat) : SegR w g (o + k * 3) (ts.drop k) := by
  intro i hi
  have hi' : k + i < ts.length := by rw [List.length_drop] at hi; omega
  obtain ⟨a, b, c⟩ := h (k + i) hi'
  have e : (ts.drop k).getD i (0, []) = ts.getD (k + i) (0, []) := by simp [List.getD]
  rw [e, show o + k * 3 + i * 3 = o + (k + i) * 3 by omega]
  exact ⟨a, b, c⟩
theorem SegR.take {w : World} {g o : Nat} {ts : Toks} (h : SegR w g o ts) (k : Nat) : SegR w g o (ts.take k) := by
  intro i hi
  rw [List.length_take] at hi
  obtain ⟨a, b, c⟩ := h i (by omega)
  have e : (ts.take k).getD i (0, []) = ts.getD i (0, []) := by simp only [List.getD, List.getElem?_take]; rw [if_pos (by omega)]
  rw [e]
  exact ⟨a, b, c⟩

theorem ret_pair {a b : ByteArray} {x y : Int} (h : a = b) (k : x = y) : Ending.returned (.tuple #[.string a, .int .i64 x]) = .returned (.tuple #[.string b, .int .i64 y]) := by rw [h, k]

end Go.Proofs.YtdohhghfohpgjaaGreatDoor
