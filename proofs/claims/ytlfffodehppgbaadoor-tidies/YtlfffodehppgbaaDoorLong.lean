/- What long and class of the document's answer give of a text: the length of its first token; a token's class. -/
import Derived.Test.YtlfffodehppgbaaDoorAmong
namespace Go.Proofs.YtlfffodehppgbaaDoor
open Go.RowKit

theorem idx_int (l : Bs) (k : Nat) (h : k < (ByteArray.mk l.toArray).size) : (((ByteArray.mk l.toArray)[k]'h).toNat : Int) = ((l.getD k 0).toNat : Int) := by rw [idx_mk]
theorem sort_is (c k : Int) (h : sortI c = k) (w : World) :
    Calls Tryd.prog 62 #[.int .u8 c] w fun e w' => e = .returned (.int .i64 k) ∧ w' = w := by
  subst h; exact sort_any c w
theorem among_is (l s : Bs) (b : Bool) (hb : amongB l s = b) (w : World) (hl : l.length ≤ 4000) :
    Calls Tryd.prog 87 #[.string ⟨l.toArray⟩, .string ⟨s.toArray⟩] w fun e w' => e = .returned (.bool b) ∧ w' = w := by
  subst hb; exact among_any l s w hl
theorem head_so {l : Bs} {k : Int} (h : so (l.getD 0 0) = k) : ∀ h : 0 < l.length, sortI ((l[0]'h).toNat : Int) = k := by
  intro h0; rw [← h]; simp [so, List.getD, h0]
theorem at_so {l : Bs} {k : Int} {i : Nat} (h : so (l.getD i 0) = k) : ∀ h : i < (ByteArray.mk l.toArray).size, sortI (((ByteArray.mk l.toArray)[i]'h).toNat : Int) = k := by
  intro h0; rw [← h, idx_mk]; rfl

set_option maxHeartbeats 400000 in
theorem long_any (l : Bs) (w : World) (h0 : 0 < l.length) (hl : l.length ≤ 4000) :
    Calls Tryd.prog 61 #[.string ⟨l.toArray⟩] w fun e w' => e = .returned (.int .i64 (lenB l : Nat)) ∧ w' = w := by
  obtain ⟨k, hk⟩ : ∃ k, so (l.getD 0 0) = k := ⟨_, rfl⟩
  have HK : Hid (∀ h : 0 < l.length, sortI ((l[0]'h).toNat : Int) = k) := head_so hk
  by_cases hz : k = 0
  · subst hz
    by_cases h2 : 1 < l.length
    · cases ha : amongB twoMarks (l.take 2)
      · have HF : Hid (lenB l = 1) := by unfold Hid lenB; rw [if_pos hk, if_neg (by simp [twoB, h2, ha])]
        have HA : Hid (amongB twoMarks (l.take 2) = false) := ha
        clear ha hk
        go_enter Tryd.func61, Tryd.ntmps61
        go_wp2_with (first
          | (go_at_call 62; refine (sort_is _ 0 (HK.out h0) _).mono ?_; rintro e w' ⟨rfl, rfl⟩)
          | (go_at_call 87; (try rw [ByteArray.extract_mk]); refine (among_is twoMarks (l.take 2) false HA.out _ (by decide)).mono ?_; rintro e w' ⟨rfl, rfl⟩))
        go_ret; exact ⟨ret_int (by rw [HF.out]; rfl), rfl⟩
      · have HF : Hid (lenB l = 2) := by unfold Hid lenB; rw [if_pos hk, if_pos (by simp [twoB, h2, ha])]
        have HA : Hid (amongB twoMarks (l.take 2) = true) := ha
        clear ha hk
        go_enter Tryd.func61, Tryd.ntmps61
        go_wp2_with (first
          | (go_at_call 62; refine (sort_is _ 0 (HK.out h0) _).mono ?_; rintro e w' ⟨rfl, rfl⟩)
          | (go_at_call 87; (try rw [ByteArray.extract_mk]); refine (among_is twoMarks (l.take 2) true HA.out _ (by decide)).mono ?_; rintro e w' ⟨rfl, rfl⟩))
        go_ret; exact ⟨ret_int (by rw [HF.out]; rfl), rfl⟩
    · have HF : Hid (lenB l = 1) := by unfold Hid lenB; rw [if_pos hk, if_neg (by simp [twoB, h2])]
      clear hk
      go_enter Tryd.func61, Tryd.ntmps61
      go_wp2_with (go_at_call 62; refine (sort_is _ 0 (HK.out h0) _).mono ?_; rintro e w' ⟨rfl, rfl⟩)
      go_ret; exact ⟨ret_int (by rw [HF.out]; rfl), rfl⟩
  · have HF : Hid (lenB l = 1 + runL k (l.drop 1)) := by unfold Hid lenB; rw [if_neg (by rw [hk]; exact hz), hk]
    have hz' : (k == 0) = false := by simp [hz]
    clear hk hz
    go_enter Tryd.func61, Tryd.ntmps61
    go_wp2_with (go_at_call 62; refine (sort_is _ k (HK.out h0) _).mono ?_; rintro e w' ⟨rfl, rfl⟩)
    go_loop [4] (fun nv => ∃ i : Nat, 1 ≤ i ∧ i ≤ l.length ∧ nv = .int .i64 i ∧ Hid (i + runL k (l.drop i) = 1 + runL k (l.drop 1))) (fun nv => l.length - (intOf nv).toNat)
    case atStart => exact ⟨1, Nat.le_refl _, h0, rfl, rfl⟩
    case round =>
      obtain ⟨i, h1, hi, rfl, HI⟩ := hrel
      by_cases hlt : i < l.length
      · obtain ⟨q, hq⟩ : ∃ q, so (l.getD i 0) = q := ⟨_, rfl⟩
        have HQ : Hid (∀ h : i < (ByteArray.mk l.toArray).size, sortI (((ByteArray.mk l.toArray)[i]'h).toNat : Int) = q) := at_so hq
        by_cases he : q = k
        · subst he
          have HN : Hid ((i + 1) + runL q (l.drop (i + 1)) = 1 + runL q (l.drop 1)) := by have := HI.out; rw [runL_on hlt hq] at this; exact this
          clear hq HI
          go_wp2_with (go_at_call 62; refine (sort_is _ q (HQ.out _) _).mono ?_; rintro e w' ⟨rfl, rfl⟩)
          go_round
          case rel => exact ⟨i + 1, by omega, by omega, by go_num, HN.out⟩
          case measure => simp [intOf]; omega
        · have HN : Hid (lenB l = i) := by have := HI.out; rw [runL_off hlt (by rw [hq]; exact he)] at this; unfold Hid; rw [HF.out]; omega
          have he' : (q == k) = false := by simp [he]
          clear hq HI he
          go_wp2_with (go_at_call 62; refine (sort_is _ q (HQ.out _) _).mono ?_; rintro e w' ⟨rfl, rfl⟩)
          go_ret; exact ⟨ret_int (by rw [HN.out]), rfl⟩
      · have HN : Hid (lenB l = i) := by have := HI.out; rw [runL_end hlt] at this; unfold Hid; rw [HF.out]; omega
        clear HI
        go_wp2_with fail
        go_ret; exact ⟨ret_int (by rw [HN.out]), rfl⟩
end Go.Proofs.YtlfffodehppgbaaDoor
