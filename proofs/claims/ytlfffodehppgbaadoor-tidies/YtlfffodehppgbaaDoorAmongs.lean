/- Plain facts: which words the document's lists of words hold. -/
import Derived.Test.YtlfffodehppgbaaDoorPtok
namespace Go.Proofs.YtlfffodehppgbaaDoor

def wordsG (l : Bs) : Nat → Nat → Nat → List Bs
  | 0, _, _ => []
  | n + 1, a, i => if i = l.length ∨ l.getD i 0 = 32 then (l.drop a).take (i - a) :: wordsG l n (i + 1) (i + 1) else wordsG l n a (i + 1)

theorem amG_words (l s : Bs) (n : Nat) : ∀ a i, amG l s n a i = decide (s ∈ wordsG l n a i) := by
  induction n with
  | zero => intro a i; simp [amG, wordsG]
  | succ n ih =>
    intro a i
    rw [amG, wordsG]
    split
    · rw [ih]
      split
      · rename_i h; simp [h]
      · rename_i h
        have h2 : ¬ s = (l.drop a).take (i - a) := fun e => h e.symm
        simp [h2]
    · exact ih _ _

theorem among_iff (l s : Bs) : amongB l s = decide (s ∈ wordsG l (l.length + 1) 0 0) := amG_words l s _ 0 0

theorem words_two : wordsG twoMarks (twoMarks.length + 1) 0 0 = [[46, 46], [60, 61], [33, 61], [62, 61]] := by decide
theorem words_kept : wordsG keptWords (keptWords.length + 1) 0 0 = keptL := by decide
theorem words_marks : wordsG allMarks (allMarks.length + 1) 0 0 = markL := by decide

theorem among_kept (s : Bs) : amongB keptWords s = isKeptB s := by
  rw [among_iff, words_kept, isKeptB, ← List.elem_eq_contains, List.elem_eq_mem]
theorem among_marks (s : Bs) : amongB allMarks s = isMarkB s := by
  rw [among_iff, words_marks, isMarkB, ← List.elem_eq_contains, List.elem_eq_mem]
theorem among_two (s : Bs) (h : s.length = 2) : amongB twoMarks s = isMarkB s := by
  rw [among_iff, words_two, isMarkB, ← List.elem_eq_contains, List.elem_eq_mem]
  congr 1
  simp only [markL, List.mem_cons, List.not_mem_nil, or_false, eq_iff_iff]
  constructor
  · rintro (rfl | rfl | rfl | rfl) <;> decide
  · rintro (rfl | rfl | rfl | rfl | rfl | rfl | rfl | rfl | rfl | rfl | rfl | rfl | rfl | rfl) <;> first | (exfalso; revert h; decide) | decide

end Go.Proofs.YtlfffodehppgbaaDoor
