/- What the small functions on bytes answer: isBlank, isLetter, isDigit of the program, sort of the document's answer. -/
import Derived.Test.YtlfffodehppgbaaDoorProg
import Derived.Test.YtlfffodehppgbaaDoorLex
import Derived.WalkKit
import Derived.WalkSpells
import Derived.WalkLawsBesides
namespace Go.Proofs.YtlfffodehppgbaaDoor
open Go.RowKit

theorem ret_int {k : IntKind} {a b : Int} (h : a = b) : Ending.returned (.int k a) = .returned (.int k b) := by rw [h]
theorem ret_bool {a b : Bool} (h : a = b) : Ending.returned (.bool a) = .returned (.bool b) := by rw [h]

set_option maxHeartbeats 400000 in
theorem isBlank_any (c : Int) (w : World) :
    Calls Tryd.prog 41 #[.int .u8 c] w fun e w' => e = .returned (.bool (blankI c)) ∧ w' = w := by
  go_enter Tryd.func41, Tryd.ntmps41
  go_wp2
  all_goals (go_ret; exact ⟨ret_bool (by simp [blankI, *]), rfl⟩)

set_option maxHeartbeats 400000 in
theorem isLetter_any (c : Int) (w : World) :
    Calls Tryd.prog 72 #[.int .u8 c] w fun e w' => e = .returned (.bool (letterI c)) ∧ w' = w := by
  go_enter Tryd.func72, Tryd.ntmps72
  go_wp2
  all_goals (go_ret; exact ⟨ret_bool (by simp [letterI]; try omega), rfl⟩)

set_option maxHeartbeats 400000 in
theorem isDigit_any (c : Int) (w : World) :
    Calls Tryd.prog 74 #[.int .u8 c] w fun e w' => e = .returned (.bool (digitI c)) ∧ w' = w := by
  go_enter Tryd.func74, Tryd.ntmps74
  go_wp2
  all_goals (go_ret; exact ⟨ret_bool (by simp [digitI]; try omega), rfl⟩)

set_option maxHeartbeats 400000 in
theorem sort_any (c : Int) (w : World) :
    Calls Tryd.prog 62 #[.int .u8 c] w fun e w' => e = .returned (.int .i64 (sortI c)) ∧ w' = w := by
  by_cases h1 : 97 ≤ c ∧ c ≤ 122
  · rw [sortI_1 h1]; obtain ⟨_, _⟩ := h1
    go_enter Tryd.func62, Tryd.ntmps62
    go_wp2
    all_goals (go_ret; exact ⟨rfl, rfl⟩)
  · by_cases h2 : 48 ≤ c ∧ c ≤ 57
    · rw [sortI_2 h2]; obtain ⟨_, _⟩ := h2; clear h1
      go_enter Tryd.func62, Tryd.ntmps62
      go_wp2
      all_goals (go_ret; exact ⟨rfl, rfl⟩)
    · by_cases h3 : c = 32 ∨ c = 10
      · rw [sortI_3 h3]
        rcases h3 with rfl | rfl <;> clear h1 h2
        all_goals
          go_enter Tryd.func62, Tryd.ntmps62
          go_wp2
          go_ret; exact ⟨rfl, rfl⟩
      · rw [sortI_0 h1 h2 h3]
        have e1 : (c == 32) = false := by simp; omega
        have e2 : (c == 10) = false := by simp; omega
        clear h3
        go_enter Tryd.func62, Tryd.ntmps62
        go_wp2
        all_goals (go_ret; exact ⟨rfl, rfl⟩)
end Go.Proofs.YtlfffodehppgbaaDoor
