/- What among answers: whether a word stands in a list of words with blanks between them. -/
import Derived.Test.YtlfffodehppgbaaDoorBytes
namespace Go.Proofs.YtlfffodehppgbaaDoor
open Go.RowKit

set_option maxHeartbeats 400000 in
theorem among_any (l s : Bs) (w : World) (hl : l.length ≤ 4000) :
    Calls Tryd.prog 87 #[.string ⟨l.toArray⟩, .string ⟨s.toArray⟩] w fun e w' => e = .returned (.bool (amongB l s)) ∧ w' = w := by
  go_enter Tryd.func87, Tryd.ntmps87
  go_wp2
  go_loop [5, 6] (fun av iv => ∃ a k : Nat, a ≤ k ∧ k ≤ l.length + 1 ∧ av = .int .i64 a ∧ iv = .int .i64 k ∧ Hid (amG l s (l.length + 1 - k) a k = amongB l s)) (fun _ iv => l.length + 1 - (intOf iv).toNat)
  case atStart => exact ⟨0, 0, Nat.le_refl _, Nat.zero_le _, rfl, rfl, rfl⟩
  case round =>
    obtain ⟨a, k, hak, hk, rfl, rfl, hH⟩ := hrel
    by_cases hlt : k ≤ l.length
    · by_cases he : k = l.length ∨ l.getD k 0 = 32
      · by_cases h2 : (l.drop a).take (k - a) = s
        · have H := hH.out; rw [amG_hit hlt he h2] at H
          have HF : Hid (amongB l s = true) := H.symm
          have h3 : (((ByteArray.mk l.toArray).extract a k).toList == s) = true := by rw [ByteArray.extract_mk]; simpa using h2
          rcases he with he | he
          · clear hH H h2; subst he
            go_wp2
            go_ret; exact ⟨ret_bool HF.out.symm, rfl⟩
          · by_cases he0 : k = l.length
            · clear hH H h2 he; subst he0
              go_wp2
              go_ret; exact ⟨ret_bool HF.out.symm, rfl⟩
            have hlt2 : k < l.length := by omega
            have he1 : ((k : Int) == (l.length : Int)) = false := by simp; omega
            have hc : ∀ h, (((ByteArray.mk l.toArray)[k]'h).toNat : Int) = 32 := by intro h; rw [idx_mk, he]; rfl
            clear hH H h2 he he0
            go_wp2
            all_goals (go_ret; exact ⟨ret_bool HF.out.symm, rfl⟩)
        · have H := hH.out; rw [amG_miss hlt he h2] at H
          have HF : Hid (amG l s (l.length + 1 - (k + 1)) (k + 1) (k + 1) = amongB l s) := H
          have h3 : (((ByteArray.mk l.toArray).extract a k).toList == s) = false := by rw [ByteArray.extract_mk]; simpa using h2
          by_cases he0 : k = l.length
          · clear hH H h2 he; subst he0
            go_wp2
            go_round
            case rel => exact ⟨l.length + 1, l.length + 1, by omega, by omega, by go_num, by go_num, HF.out⟩
            case measure => simp [intOf]
          · have he : l.getD k 0 = 32 := by rcases he with he | he; exact absurd he he0; exact he
            have hlt2 : k < l.length := by omega
            have he1 : ((k : Int) == (l.length : Int)) = false := by simp; omega
            have hc : ∀ h, (((ByteArray.mk l.toArray)[k]'h).toNat : Int) = 32 := by intro h; rw [idx_mk, he]; rfl
            clear hH H h2 he he0
            go_wp2
            go_round
            case rel => exact ⟨k + 1, k + 1, by omega, by omega, by go_num, by go_num, HF.out⟩
            case measure => simp [intOf]; omega
      · have H := hH.out; rw [amG_on hlt he] at H
        have HF : Hid (amG l s (l.length + 1 - (k + 1)) a (k + 1) = amongB l s) := H
        have hlt2 : k < l.length := by omega
        have he1 : ((k : Int) == (l.length : Int)) = false := by simp; omega
        have hc : ∀ h, ((((ByteArray.mk l.toArray)[k]'h).toNat : Int) == 32) = false := by
          intro h; rw [idx_mk]
          rw [Bool.eq_false_iff]; intro hh
          exact he (.inr ((byte_eq _ 32).1 hh))
        clear hH H he
        go_wp2
        go_round
        case rel => exact ⟨a, k + 1, by omega, by omega, by go_num, by go_num, HF.out⟩
        case measure => simp [intOf]; omega
    · have H := hH.out; rw [amG_end hlt] at H
      have HF : Hid (amongB l s = false) := H.symm
      clear hH H
      go_wp2
      go_ret; exact ⟨ret_bool HF.out.symm, rfl⟩
end Go.Proofs.YtlfffodehppgbaaDoor
