/- What next of the document's answer gives: where one gets from a state by a class. -/
import Derived.Test.YtnbpdffdnphbeaaGreatDoorTokens
namespace Go.Proofs.YtnbpdffdnphbeaaGreatDoor
open Go.RowKit

/-- The document's table lies in its variable. -/
def Folw (w : World) : Prop := ∀ j, j < 129 → w.cell? ⟨0, j, none⟩ = some (.string ⟨(folL.getD j []).toArray⟩)

set_option maxHeartbeats 1000000 in
theorem next_other (st cl : Bs) (op : Int) (h1 : ¬ st = sNamed) (h2 : ¬ st = sDone) (w : World) (hf : Folw w) :
    Calls Tryz.prog 128 #[.string ⟨st.toArray⟩, .string ⟨cl.toArray⟩, .int .i64 op] w fun e w' => e = .returned (.string ⟨(nextB st cl op).toArray⟩) ∧ w' = w := by
  have HW : Hid (Folw w) := hf
  clear hf
  have HF : Hid (nextB st cl op = lookF st cl 43 0) := by unfold Hid nextB; simp [h1, h2]
  have b1 : (st == [110, 97, 109, 101, 100]) = false := by simpa [sNamed] using h1
  have b2 : (st == [100, 111, 110, 101]) = false := by simpa [sDone] using h2
  clear h1 h2
  go_enter Tryz.func128, Tryz.ntmps128
  go_wp2
  go_loop [7] (fun iv => ∃ i : Nat, i ≤ 43 ∧ iv = .int .i64 i ∧ Hid (lookF st cl (43 - i) i = nextB st cl op)) (fun iv => 43 - (intOf iv).toNat)
  case atStart => exact ⟨0, by omega, rfl, HF.out.symm⟩
  case round =>
    obtain ⟨i, hi, rfl, HI⟩ := hrel
    by_cases hlt : i < 43
    · have hc0 := HW.out (i * 3) (by omega)
      have hc1 := HW.out (i * 3 + 1) (by omega)
      have hc2 := HW.out (i * 3 + 2) (by omega)
      obtain ⟨a, ha⟩ : ∃ a, folL.getD (i * 3) [] = a := ⟨_, rfl⟩
      obtain ⟨b, hb⟩ : ∃ b, folL.getD (i * 3 + 1) [] = b := ⟨_, rfl⟩
      obtain ⟨c, hc⟩ : ∃ c, folL.getD (i * 3 + 2) [] = c := ⟨_, rfl⟩
      rw [ha] at hc0; rw [hb] at hc1; rw [hc] at hc2
      have HA : Hid (folL.getD (i * 3) [] = a) := ha
      have HB : Hid (folL.getD (i * 3 + 1) [] = b) := hb
      have HC : Hid (folL.getD (i * 3 + 2) [] = c) := hc
      clear ha hb hc
      by_cases e1 : a = st
      · have f1 : (a == st) = true := by simpa using e1
        by_cases e2 : b = cl
        · have HR : Hid (nextB st cl op = c) := by
            have h1 := HI.out; rw [lookF_hit hlt (by rw [HA.out]; exact e1) (by rw [HB.out]; exact e2), HC.out] at h1; exact h1.symm
          have f2 : (b == cl) = true := by simpa using e2
          clear e1 e2 HI HA HB HC
          go_wp2
          go_ret; exact ⟨ret_str HR.out.symm, rfl⟩
        · have HR : Hid (lookF st cl (43 - (i + 1)) (i + 1) = nextB st cl op) := by
            have h1 := HI.out; rw [lookF_miss hlt (by rw [HB.out]; exact fun h => e2 h.2)] at h1; exact h1
          have f2 : (b == cl) = false := by simpa using e2
          clear e1 e2 HI HA HB HC
          go_wp2
          go_round
          case rel => exact ⟨i + 1, by omega, by go_num, HR.out⟩
          case measure => simp [intOf]; omega
      · have f1 : (a == st) = false := by simpa using e1
        have HR : Hid (lookF st cl (43 - (i + 1)) (i + 1) = nextB st cl op) := by
          have h1 := HI.out; rw [lookF_miss hlt (by rw [HA.out]; exact fun h => e1 h.1)] at h1; exact h1
        clear e1 HI HA HB HC
        go_wp2
        go_round
        case rel => exact ⟨i + 1, by omega, by go_num, HR.out⟩
        case measure => simp [intOf]; omega
    · have HR : Hid (nextB st cl op = []) := by have h1 := HI.out; rw [lookF_end hlt] at h1; exact h1.symm
      clear HI
      go_wp2
      all_goals (go_ret; exact ⟨ret_str HR.out.symm, rfl⟩)

set_option maxHeartbeats 1000000 in
theorem next_named_or (op : Int) (w : World) (hf : Folw w) :
    Calls Tryz.prog 128 #[.string ⟨[110, 97, 109, 101, 100].toArray⟩, .string ⟨[111, 114].toArray⟩, .int .i64 op] w fun e w' => e = .returned (.string ⟨(nextB [110, 97, 109, 101, 100] [111, 114] op).toArray⟩) ∧ w' = w := by
  have HW : Hid (Folw w) := hf
  clear hf
  have HF : Hid (nextB [110, 97, 109, 101, 100] [111, 114] op = lookF [100, 111, 110, 101] [111, 114] 43 0) := by simp [Hid, nextB, sNamed, sDone, kOr, kAnd, kShut, kEnd]
  go_enter Tryz.func128, Tryz.ntmps128
  go_wp2
  go_loop [7] (fun iv => ∃ i : Nat, i ≤ 43 ∧ iv = .int .i64 i ∧ Hid (lookF [100, 111, 110, 101] [111, 114] (43 - i) i = nextB [110, 97, 109, 101, 100] [111, 114] op)) (fun iv => 43 - (intOf iv).toNat)
  case atStart => exact ⟨0, by omega, rfl, HF.out.symm⟩
  case round =>
    obtain ⟨i, hi, rfl, HI⟩ := hrel
    by_cases hlt : i < 43
    · have hc0 := HW.out (i * 3) (by omega)
      have hc1 := HW.out (i * 3 + 1) (by omega)
      have hc2 := HW.out (i * 3 + 2) (by omega)
      obtain ⟨a, ha⟩ : ∃ a, folL.getD (i * 3) [] = a := ⟨_, rfl⟩
      obtain ⟨b, hb⟩ : ∃ b, folL.getD (i * 3 + 1) [] = b := ⟨_, rfl⟩
      obtain ⟨c, hc⟩ : ∃ c, folL.getD (i * 3 + 2) [] = c := ⟨_, rfl⟩
      rw [ha] at hc0; rw [hb] at hc1; rw [hc] at hc2
      have HA : Hid (folL.getD (i * 3) [] = a) := ha
      have HB : Hid (folL.getD (i * 3 + 1) [] = b) := hb
      have HC : Hid (folL.getD (i * 3 + 2) [] = c) := hc
      clear ha hb hc
      by_cases e1 : a = [100, 111, 110, 101]
      · have f1 : (a == [100, 111, 110, 101]) = true := by simpa using e1
        by_cases e2 : b = [111, 114]
        · have HR : Hid (nextB [110, 97, 109, 101, 100] [111, 114] op = c) := by
            have h1 := HI.out; rw [lookF_hit hlt (by rw [HA.out]; exact e1) (by rw [HB.out]; exact e2), HC.out] at h1; exact h1.symm
          have f2 : (b == [111, 114]) = true := by simpa using e2
          clear e1 e2 HI HA HB HC
          go_wp2
          go_ret; exact ⟨ret_str HR.out.symm, rfl⟩
        · have HR : Hid (lookF [100, 111, 110, 101] [111, 114] (43 - (i + 1)) (i + 1) = nextB [110, 97, 109, 101, 100] [111, 114] op) := by
            have h1 := HI.out; rw [lookF_miss hlt (by rw [HB.out]; exact fun h => e2 h.2)] at h1; exact h1
          have f2 : (b == [111, 114]) = false := by simpa using e2
          clear e1 e2 HI HA HB HC
          go_wp2
          go_round
          case rel => exact ⟨i + 1, by omega, by go_num, HR.out⟩
          case measure => simp [intOf]; omega
      · have f1 : (a == [100, 111, 110, 101]) = false := by simpa using e1
        have HR : Hid (lookF [100, 111, 110, 101] [111, 114] (43 - (i + 1)) (i + 1) = nextB [110, 97, 109, 101, 100] [111, 114] op) := by
          have h1 := HI.out; rw [lookF_miss hlt (by rw [HA.out]; exact fun h => e1 h.1)] at h1; exact h1
        clear e1 HI HA HB HC
        go_wp2
        go_round
        case rel => exact ⟨i + 1, by omega, by go_num, HR.out⟩
        case measure => simp [intOf]; omega
    · have HR : Hid (nextB [110, 97, 109, 101, 100] [111, 114] op = []) := by have h1 := HI.out; rw [lookF_end hlt] at h1; exact h1.symm
      clear HI
      go_wp2
      all_goals (go_ret; exact ⟨ret_str HR.out.symm, rfl⟩)

set_option maxHeartbeats 1000000 in
theorem next_named_and (op : Int) (w : World) (hf : Folw w) :
    Calls Tryz.prog 128 #[.string ⟨[110, 97, 109, 101, 100].toArray⟩, .string ⟨[97, 110, 100].toArray⟩, .int .i64 op] w fun e w' => e = .returned (.string ⟨(nextB [110, 97, 109, 101, 100] [97, 110, 100] op).toArray⟩) ∧ w' = w := by
  have HW : Hid (Folw w) := hf
  clear hf
  have HF : Hid (nextB [110, 97, 109, 101, 100] [97, 110, 100] op = lookF [100, 111, 110, 101] [97, 110, 100] 43 0) := by simp [Hid, nextB, sNamed, sDone, kOr, kAnd, kShut, kEnd]
  go_enter Tryz.func128, Tryz.ntmps128
  go_wp2
  go_loop [7] (fun iv => ∃ i : Nat, i ≤ 43 ∧ iv = .int .i64 i ∧ Hid (lookF [100, 111, 110, 101] [97, 110, 100] (43 - i) i = nextB [110, 97, 109, 101, 100] [97, 110, 100] op)) (fun iv => 43 - (intOf iv).toNat)
  case atStart => exact ⟨0, by omega, rfl, HF.out.symm⟩
  case round =>
    obtain ⟨i, hi, rfl, HI⟩ := hrel
    by_cases hlt : i < 43
    · have hc0 := HW.out (i * 3) (by omega)
      have hc1 := HW.out (i * 3 + 1) (by omega)
      have hc2 := HW.out (i * 3 + 2) (by omega)
      obtain ⟨a, ha⟩ : ∃ a, folL.getD (i * 3) [] = a := ⟨_, rfl⟩
      obtain ⟨b, hb⟩ : ∃ b, folL.getD (i * 3 + 1) [] = b := ⟨_, rfl⟩
      obtain ⟨c, hc⟩ : ∃ c, folL.getD (i * 3 + 2) [] = c := ⟨_, rfl⟩
      rw [ha] at hc0; rw [hb] at hc1; rw [hc] at hc2
      have HA : Hid (folL.getD (i * 3) [] = a) := ha
      have HB : Hid (folL.getD (i * 3 + 1) [] = b) := hb
      have HC : Hid (folL.getD (i * 3 + 2) [] = c) := hc
      clear ha hb hc
      by_cases e1 : a = [100, 111, 110, 101]
      · have f1 : (a == [100, 111, 110, 101]) = true := by simpa using e1
        by_cases e2 : b = [97, 110, 100]
        · have HR : Hid (nextB [110, 97, 109, 101, 100] [97, 110, 100] op = c) := by
            have h1 := HI.out; rw [lookF_hit hlt (by rw [HA.out]; exact e1) (by rw [HB.out]; exact e2), HC.out] at h1; exact h1.symm
          have f2 : (b == [97, 110, 100]) = true := by simpa using e2
          clear e1 e2 HI HA HB HC
          go_wp2
          go_ret; exact ⟨ret_str HR.out.symm, rfl⟩
        · have HR : Hid (lookF [100, 111, 110, 101] [97, 110, 100] (43 - (i + 1)) (i + 1) = nextB [110, 97, 109, 101, 100] [97, 110, 100] op) := by
            have h1 := HI.out; rw [lookF_miss hlt (by rw [HB.out]; exact fun h => e2 h.2)] at h1; exact h1
          have f2 : (b == [97, 110, 100]) = false := by simpa using e2
          clear e1 e2 HI HA HB HC
          go_wp2
          go_round
          case rel => exact ⟨i + 1, by omega, by go_num, HR.out⟩
          case measure => simp [intOf]; omega
      · have f1 : (a == [100, 111, 110, 101]) = false := by simpa using e1
        have HR : Hid (lookF [100, 111, 110, 101] [97, 110, 100] (43 - (i + 1)) (i + 1) = nextB [110, 97, 109, 101, 100] [97, 110, 100] op) := by
          have h1 := HI.out; rw [lookF_miss hlt (by rw [HA.out]; exact fun h => e1 h.1)] at h1; exact h1
        clear e1 HI HA HB HC
        go_wp2
        go_round
        case rel => exact ⟨i + 1, by omega, by go_num, HR.out⟩
        case measure => simp [intOf]; omega
    · have HR : Hid (nextB [110, 97, 109, 101, 100] [97, 110, 100] op = []) := by have h1 := HI.out; rw [lookF_end hlt] at h1; exact h1.symm
      clear HI
      go_wp2
      all_goals (go_ret; exact ⟨ret_str HR.out.symm, rfl⟩)

set_option maxHeartbeats 1000000 in
theorem next_named_shut0 (op : Int) (h : op = 0) (w : World) (hf : Folw w) :
    Calls Tryz.prog 128 #[.string ⟨[110, 97, 109, 101, 100].toArray⟩, .string ⟨[41].toArray⟩, .int .i64 op] w fun e w' => e = .returned (.string ⟨(nextB [110, 97, 109, 101, 100] [41] op).toArray⟩) ∧ w' = w := by
  have HW : Hid (Folw w) := hf
  clear hf
  have HF : Hid (nextB [110, 97, 109, 101, 100] [41] op = []) := by simp [Hid, nextB, sNamed, sDone, kOr, kAnd, kShut, kEnd, h]
  have h' : (op == 0) = true := by simp [h]
  clear h
  go_enter Tryz.func128, Tryz.ntmps128
  go_wp2
  go_ret; exact ⟨ret_str (HF.out.symm), rfl⟩

set_option maxHeartbeats 1000000 in
theorem next_named_shut (op : Int) (h : ¬ op = 0) (w : World) (hf : Folw w) :
    Calls Tryz.prog 128 #[.string ⟨[110, 97, 109, 101, 100].toArray⟩, .string ⟨[41].toArray⟩, .int .i64 op] w fun e w' => e = .returned (.string ⟨(nextB [110, 97, 109, 101, 100] [41] op).toArray⟩) ∧ w' = w := by
  have HW : Hid (Folw w) := hf
  clear hf
  have HF : Hid (nextB [110, 97, 109, 101, 100] [41] op = lookF [100, 111, 110, 101] [41] 43 0) := by simp [Hid, nextB, sNamed, sDone, kOr, kAnd, kShut, kEnd, h]
  have h' : (op == 0) = false := by simp [h]
  clear h
  go_enter Tryz.func128, Tryz.ntmps128
  go_wp2
  go_loop [7] (fun iv => ∃ i : Nat, i ≤ 43 ∧ iv = .int .i64 i ∧ Hid (lookF [100, 111, 110, 101] [41] (43 - i) i = nextB [110, 97, 109, 101, 100] [41] op)) (fun iv => 43 - (intOf iv).toNat)
  case atStart => exact ⟨0, by omega, rfl, HF.out.symm⟩
  case round =>
    obtain ⟨i, hi, rfl, HI⟩ := hrel
    by_cases hlt : i < 43
    · have hc0 := HW.out (i * 3) (by omega)
      have hc1 := HW.out (i * 3 + 1) (by omega)
      have hc2 := HW.out (i * 3 + 2) (by omega)
      obtain ⟨a, ha⟩ : ∃ a, folL.getD (i * 3) [] = a := ⟨_, rfl⟩
      obtain ⟨b, hb⟩ : ∃ b, folL.getD (i * 3 + 1) [] = b := ⟨_, rfl⟩
      obtain ⟨c, hc⟩ : ∃ c, folL.getD (i * 3 + 2) [] = c := ⟨_, rfl⟩
      rw [ha] at hc0; rw [hb] at hc1; rw [hc] at hc2
      have HA : Hid (folL.getD (i * 3) [] = a) := ha
      have HB : Hid (folL.getD (i * 3 + 1) [] = b) := hb
      have HC : Hid (folL.getD (i * 3 + 2) [] = c) := hc
      clear ha hb hc
      by_cases e1 : a = [100, 111, 110, 101]
      · have f1 : (a == [100, 111, 110, 101]) = true := by simpa using e1
        by_cases e2 : b = [41]
        · have HR : Hid (nextB [110, 97, 109, 101, 100] [41] op = c) := by
            have h1 := HI.out; rw [lookF_hit hlt (by rw [HA.out]; exact e1) (by rw [HB.out]; exact e2), HC.out] at h1; exact h1.symm
          have f2 : (b == [41]) = true := by simpa using e2
          clear e1 e2 HI HA HB HC
          go_wp2
          go_ret; exact ⟨ret_str HR.out.symm, rfl⟩
        · have HR : Hid (lookF [100, 111, 110, 101] [41] (43 - (i + 1)) (i + 1) = nextB [110, 97, 109, 101, 100] [41] op) := by
            have h1 := HI.out; rw [lookF_miss hlt (by rw [HB.out]; exact fun h => e2 h.2)] at h1; exact h1
          have f2 : (b == [41]) = false := by simpa using e2
          clear e1 e2 HI HA HB HC
          go_wp2
          go_round
          case rel => exact ⟨i + 1, by omega, by go_num, HR.out⟩
          case measure => simp [intOf]; omega
      · have f1 : (a == [100, 111, 110, 101]) = false := by simpa using e1
        have HR : Hid (lookF [100, 111, 110, 101] [41] (43 - (i + 1)) (i + 1) = nextB [110, 97, 109, 101, 100] [41] op) := by
          have h1 := HI.out; rw [lookF_miss hlt (by rw [HA.out]; exact fun h => e1 h.1)] at h1; exact h1
        clear e1 HI HA HB HC
        go_wp2
        go_round
        case rel => exact ⟨i + 1, by omega, by go_num, HR.out⟩
        case measure => simp [intOf]; omega
    · have HR : Hid (nextB [110, 97, 109, 101, 100] [41] op = []) := by have h1 := HI.out; rw [lookF_end hlt] at h1; exact h1.symm
      clear HI
      go_wp2
      all_goals (go_ret; exact ⟨ret_str HR.out.symm, rfl⟩)

set_option maxHeartbeats 1000000 in
theorem next_named_end0 (op : Int) (h : 0 < op) (w : World) (hf : Folw w) :
    Calls Tryz.prog 128 #[.string ⟨[110, 97, 109, 101, 100].toArray⟩, .string ⟨[59].toArray⟩, .int .i64 op] w fun e w' => e = .returned (.string ⟨(nextB [110, 97, 109, 101, 100] [59] op).toArray⟩) ∧ w' = w := by
  have HW : Hid (Folw w) := hf
  clear hf
  have HF : Hid (nextB [110, 97, 109, 101, 100] [59] op = []) := by simp [Hid, nextB, sNamed, sDone, kOr, kAnd, kShut, kEnd, h]
  go_enter Tryz.func128, Tryz.ntmps128
  go_wp2
  go_ret; exact ⟨ret_str (HF.out.symm), rfl⟩

set_option maxHeartbeats 1000000 in
theorem next_named_end (op : Int) (h : ¬ 0 < op) (w : World) (hf : Folw w) :
    Calls Tryz.prog 128 #[.string ⟨[110, 97, 109, 101, 100].toArray⟩, .string ⟨[59].toArray⟩, .int .i64 op] w fun e w' => e = .returned (.string ⟨(nextB [110, 97, 109, 101, 100] [59] op).toArray⟩) ∧ w' = w := by
  have HW : Hid (Folw w) := hf
  clear hf
  have HF : Hid (nextB [110, 97, 109, 101, 100] [59] op = lookF [100, 111, 110, 101] [59] 43 0) := by simp [Hid, nextB, sNamed, sDone, kOr, kAnd, kShut, kEnd, h]
  go_enter Tryz.func128, Tryz.ntmps128
  go_wp2
  go_loop [7] (fun iv => ∃ i : Nat, i ≤ 43 ∧ iv = .int .i64 i ∧ Hid (lookF [100, 111, 110, 101] [59] (43 - i) i = nextB [110, 97, 109, 101, 100] [59] op)) (fun iv => 43 - (intOf iv).toNat)
  case atStart => exact ⟨0, by omega, rfl, HF.out.symm⟩
  case round =>
    obtain ⟨i, hi, rfl, HI⟩ := hrel
    by_cases hlt : i < 43
    · have hc0 := HW.out (i * 3) (by omega)
      have hc1 := HW.out (i * 3 + 1) (by omega)
      have hc2 := HW.out (i * 3 + 2) (by omega)
      obtain ⟨a, ha⟩ : ∃ a, folL.getD (i * 3) [] = a := ⟨_, rfl⟩
      obtain ⟨b, hb⟩ : ∃ b, folL.getD (i * 3 + 1) [] = b := ⟨_, rfl⟩
      obtain ⟨c, hc⟩ : ∃ c, folL.getD (i * 3 + 2) [] = c := ⟨_, rfl⟩
      rw [ha] at hc0; rw [hb] at hc1; rw [hc] at hc2
      have HA : Hid (folL.getD (i * 3) [] = a) := ha
      have HB : Hid (folL.getD (i * 3 + 1) [] = b) := hb
      have HC : Hid (folL.getD (i * 3 + 2) [] = c) := hc
      clear ha hb hc
      by_cases e1 : a = [100, 111, 110, 101]
      · have f1 : (a == [100, 111, 110, 101]) = true := by simpa using e1
        by_cases e2 : b = [59]
        · have HR : Hid (nextB [110, 97, 109, 101, 100] [59] op = c) := by
            have h1 := HI.out; rw [lookF_hit hlt (by rw [HA.out]; exact e1) (by rw [HB.out]; exact e2), HC.out] at h1; exact h1.symm
          have f2 : (b == [59]) = true := by simpa using e2
          clear e1 e2 HI HA HB HC
          go_wp2
          go_ret; exact ⟨ret_str HR.out.symm, rfl⟩
        · have HR : Hid (lookF [100, 111, 110, 101] [59] (43 - (i + 1)) (i + 1) = nextB [110, 97, 109, 101, 100] [59] op) := by
            have h1 := HI.out; rw [lookF_miss hlt (by rw [HB.out]; exact fun h => e2 h.2)] at h1; exact h1
          have f2 : (b == [59]) = false := by simpa using e2
          clear e1 e2 HI HA HB HC
          go_wp2
          go_round
          case rel => exact ⟨i + 1, by omega, by go_num, HR.out⟩
          case measure => simp [intOf]; omega
      · have f1 : (a == [100, 111, 110, 101]) = false := by simpa using e1
        have HR : Hid (lookF [100, 111, 110, 101] [59] (43 - (i + 1)) (i + 1) = nextB [110, 97, 109, 101, 100] [59] op) := by
          have h1 := HI.out; rw [lookF_miss hlt (by rw [HA.out]; exact fun h => e1 h.1)] at h1; exact h1
        clear e1 HI HA HB HC
        go_wp2
        go_round
        case rel => exact ⟨i + 1, by omega, by go_num, HR.out⟩
        case measure => simp [intOf]; omega
    · have HR : Hid (nextB [110, 97, 109, 101, 100] [59] op = []) := by have h1 := HI.out; rw [lookF_end hlt] at h1; exact h1.symm
      clear HI
      go_wp2
      all_goals (go_ret; exact ⟨ret_str HR.out.symm, rfl⟩)

set_option maxHeartbeats 1000000 in
theorem next_named_else (cl : Bs) (op : Int) (h1 : ¬ cl = kOr) (h2 : ¬ cl = kAnd) (h3 : ¬ cl = kShut) (h4 : ¬ cl = kEnd) (w : World) (hf : Folw w) :
    Calls Tryz.prog 128 #[.string ⟨[110, 97, 109, 101, 100].toArray⟩, .string ⟨cl.toArray⟩, .int .i64 op] w fun e w' => e = .returned (.string ⟨(nextB [110, 97, 109, 101, 100] cl op).toArray⟩) ∧ w' = w := by
  have HW : Hid (Folw w) := hf
  clear hf
  have HF : Hid (nextB [110, 97, 109, 101, 100] cl op = lookF [110, 97, 109, 101, 100] cl 43 0) := by simp [Hid, nextB, h1, h2, h3, h4]
  have b1 : (cl == [111, 114]) = false := by simpa [kOr] using h1
  have b2 : (cl == [97, 110, 100]) = false := by simpa [kAnd] using h2
  have b3 : (cl == [41]) = false := by simpa [kShut] using h3
  have b4 : (cl == [59]) = false := by simpa [kEnd] using h4
  clear h1 h2 h3 h4
  go_enter Tryz.func128, Tryz.ntmps128
  go_wp2
  go_loop [7] (fun iv => ∃ i : Nat, i ≤ 43 ∧ iv = .int .i64 i ∧ Hid (lookF [110, 97, 109, 101, 100] cl (43 - i) i = nextB [110, 97, 109, 101, 100] cl op)) (fun iv => 43 - (intOf iv).toNat)
  case atStart => exact ⟨0, by omega, rfl, HF.out.symm⟩
  case round =>
    obtain ⟨i, hi, rfl, HI⟩ := hrel
    by_cases hlt : i < 43
    · have hc0 := HW.out (i * 3) (by omega)
      have hc1 := HW.out (i * 3 + 1) (by omega)
      have hc2 := HW.out (i * 3 + 2) (by omega)
      obtain ⟨a, ha⟩ : ∃ a, folL.getD (i * 3) [] = a := ⟨_, rfl⟩
      obtain ⟨b, hb⟩ : ∃ b, folL.getD (i * 3 + 1) [] = b := ⟨_, rfl⟩
      obtain ⟨c, hc⟩ : ∃ c, folL.getD (i * 3 + 2) [] = c := ⟨_, rfl⟩
      rw [ha] at hc0; rw [hb] at hc1; rw [hc] at hc2
      have HA : Hid (folL.getD (i * 3) [] = a) := ha
      have HB : Hid (folL.getD (i * 3 + 1) [] = b) := hb
      have HC : Hid (folL.getD (i * 3 + 2) [] = c) := hc
      clear ha hb hc
      by_cases e1 : a = [110, 97, 109, 101, 100]
      · have f1 : (a == [110, 97, 109, 101, 100]) = true := by simpa using e1
        by_cases e2 : b = cl
        · have HR : Hid (nextB [110, 97, 109, 101, 100] cl op = c) := by
            have h1 := HI.out; rw [lookF_hit hlt (by rw [HA.out]; exact e1) (by rw [HB.out]; exact e2), HC.out] at h1; exact h1.symm
          have f2 : (b == cl) = true := by simpa using e2
          clear e1 e2 HI HA HB HC
          go_wp2
          go_ret; exact ⟨ret_str HR.out.symm, rfl⟩
        · have HR : Hid (lookF [110, 97, 109, 101, 100] cl (43 - (i + 1)) (i + 1) = nextB [110, 97, 109, 101, 100] cl op) := by
            have h1 := HI.out; rw [lookF_miss hlt (by rw [HB.out]; exact fun h => e2 h.2)] at h1; exact h1
          have f2 : (b == cl) = false := by simpa using e2
          clear e1 e2 HI HA HB HC
          go_wp2
          go_round
          case rel => exact ⟨i + 1, by omega, by go_num, HR.out⟩
          case measure => simp [intOf]; omega
      · have f1 : (a == [110, 97, 109, 101, 100]) = false := by simpa using e1
        have HR : Hid (lookF [110, 97, 109, 101, 100] cl (43 - (i + 1)) (i + 1) = nextB [110, 97, 109, 101, 100] cl op) := by
          have h1 := HI.out; rw [lookF_miss hlt (by rw [HA.out]; exact fun h => e1 h.1)] at h1; exact h1
        clear e1 HI HA HB HC
        go_wp2
        go_round
        case rel => exact ⟨i + 1, by omega, by go_num, HR.out⟩
        case measure => simp [intOf]; omega
    · have HR : Hid (nextB [110, 97, 109, 101, 100] cl op = []) := by have h1 := HI.out; rw [lookF_end hlt] at h1; exact h1.symm
      clear HI
      go_wp2
      all_goals (go_ret; exact ⟨ret_str HR.out.symm, rfl⟩)

set_option maxHeartbeats 1000000 in
theorem next_done_or (op : Int) (w : World) (hf : Folw w) :
    Calls Tryz.prog 128 #[.string ⟨[100, 111, 110, 101].toArray⟩, .string ⟨[111, 114].toArray⟩, .int .i64 op] w fun e w' => e = .returned (.string ⟨(nextB [100, 111, 110, 101] [111, 114] op).toArray⟩) ∧ w' = w := by
  have HW : Hid (Folw w) := hf
  clear hf
  have HF : Hid (nextB [100, 111, 110, 101] [111, 114] op = lookF [100, 111, 110, 101] [111, 114] 43 0) := by simp [Hid, nextB, sNamed, sDone, kOr, kAnd, kShut, kEnd]
  go_enter Tryz.func128, Tryz.ntmps128
  go_wp2
  go_loop [7] (fun iv => ∃ i : Nat, i ≤ 43 ∧ iv = .int .i64 i ∧ Hid (lookF [100, 111, 110, 101] [111, 114] (43 - i) i = nextB [100, 111, 110, 101] [111, 114] op)) (fun iv => 43 - (intOf iv).toNat)
  case atStart => exact ⟨0, by omega, rfl, HF.out.symm⟩
  case round =>
    obtain ⟨i, hi, rfl, HI⟩ := hrel
    by_cases hlt : i < 43
    · have hc0 := HW.out (i * 3) (by omega)
      have hc1 := HW.out (i * 3 + 1) (by omega)
      have hc2 := HW.out (i * 3 + 2) (by omega)
      obtain ⟨a, ha⟩ : ∃ a, folL.getD (i * 3) [] = a := ⟨_, rfl⟩
      obtain ⟨b, hb⟩ : ∃ b, folL.getD (i * 3 + 1) [] = b := ⟨_, rfl⟩
      obtain ⟨c, hc⟩ : ∃ c, folL.getD (i * 3 + 2) [] = c := ⟨_, rfl⟩
      rw [ha] at hc0; rw [hb] at hc1; rw [hc] at hc2
      have HA : Hid (folL.getD (i * 3) [] = a) := ha
      have HB : Hid (folL.getD (i * 3 + 1) [] = b) := hb
      have HC : Hid (folL.getD (i * 3 + 2) [] = c) := hc
      clear ha hb hc
      by_cases e1 : a = [100, 111, 110, 101]
      · have f1 : (a == [100, 111, 110, 101]) = true := by simpa using e1
        by_cases e2 : b = [111, 114]
        · have HR : Hid (nextB [100, 111, 110, 101] [111, 114] op = c) := by
            have h1 := HI.out; rw [lookF_hit hlt (by rw [HA.out]; exact e1) (by rw [HB.out]; exact e2), HC.out] at h1; exact h1.symm
          have f2 : (b == [111, 114]) = true := by simpa using e2
          clear e1 e2 HI HA HB HC
          go_wp2
          go_ret; exact ⟨ret_str HR.out.symm, rfl⟩
        · have HR : Hid (lookF [100, 111, 110, 101] [111, 114] (43 - (i + 1)) (i + 1) = nextB [100, 111, 110, 101] [111, 114] op) := by
            have h1 := HI.out; rw [lookF_miss hlt (by rw [HB.out]; exact fun h => e2 h.2)] at h1; exact h1
          have f2 : (b == [111, 114]) = false := by simpa using e2
          clear e1 e2 HI HA HB HC
          go_wp2
          go_round
          case rel => exact ⟨i + 1, by omega, by go_num, HR.out⟩
          case measure => simp [intOf]; omega
      · have f1 : (a == [100, 111, 110, 101]) = false := by simpa using e1
        have HR : Hid (lookF [100, 111, 110, 101] [111, 114] (43 - (i + 1)) (i + 1) = nextB [100, 111, 110, 101] [111, 114] op) := by
          have h1 := HI.out; rw [lookF_miss hlt (by rw [HA.out]; exact fun h => e1 h.1)] at h1; exact h1
        clear e1 HI HA HB HC
        go_wp2
        go_round
        case rel => exact ⟨i + 1, by omega, by go_num, HR.out⟩
        case measure => simp [intOf]; omega
    · have HR : Hid (nextB [100, 111, 110, 101] [111, 114] op = []) := by have h1 := HI.out; rw [lookF_end hlt] at h1; exact h1.symm
      clear HI
      go_wp2
      all_goals (go_ret; exact ⟨ret_str HR.out.symm, rfl⟩)

set_option maxHeartbeats 1000000 in
theorem next_done_and (op : Int) (w : World) (hf : Folw w) :
    Calls Tryz.prog 128 #[.string ⟨[100, 111, 110, 101].toArray⟩, .string ⟨[97, 110, 100].toArray⟩, .int .i64 op] w fun e w' => e = .returned (.string ⟨(nextB [100, 111, 110, 101] [97, 110, 100] op).toArray⟩) ∧ w' = w := by
  have HW : Hid (Folw w) := hf
  clear hf
  have HF : Hid (nextB [100, 111, 110, 101] [97, 110, 100] op = lookF [100, 111, 110, 101] [97, 110, 100] 43 0) := by simp [Hid, nextB, sNamed, sDone, kOr, kAnd, kShut, kEnd]
  go_enter Tryz.func128, Tryz.ntmps128
  go_wp2
  go_loop [7] (fun iv => ∃ i : Nat, i ≤ 43 ∧ iv = .int .i64 i ∧ Hid (lookF [100, 111, 110, 101] [97, 110, 100] (43 - i) i = nextB [100, 111, 110, 101] [97, 110, 100] op)) (fun iv => 43 - (intOf iv).toNat)
  case atStart => exact ⟨0, by omega, rfl, HF.out.symm⟩
  case round =>
    obtain ⟨i, hi, rfl, HI⟩ := hrel
    by_cases hlt : i < 43
    · have hc0 := HW.out (i * 3) (by omega)
      have hc1 := HW.out (i * 3 + 1) (by omega)
      have hc2 := HW.out (i * 3 + 2) (by omega)
      obtain ⟨a, ha⟩ : ∃ a, folL.getD (i * 3) [] = a := ⟨_, rfl⟩
      obtain ⟨b, hb⟩ : ∃ b, folL.getD (i * 3 + 1) [] = b := ⟨_, rfl⟩
      obtain ⟨c, hc⟩ : ∃ c, folL.getD (i * 3 + 2) [] = c := ⟨_, rfl⟩
      rw [ha] at hc0; rw [hb] at hc1; rw [hc] at hc2
      have HA : Hid (folL.getD (i * 3) [] = a) := ha
      have HB : Hid (folL.getD (i * 3 + 1) [] = b) := hb
      have HC : Hid (folL.getD (i * 3 + 2) [] = c) := hc
      clear ha hb hc
      by_cases e1 : a = [100, 111, 110, 101]
      · have f1 : (a == [100, 111, 110, 101]) = true := by simpa using e1
        by_cases e2 : b = [97, 110, 100]
        · have HR : Hid (nextB [100, 111, 110, 101] [97, 110, 100] op = c) := by
            have h1 := HI.out; rw [lookF_hit hlt (by rw [HA.out]; exact e1) (by rw [HB.out]; exact e2), HC.out] at h1; exact h1.symm
          have f2 : (b == [97, 110, 100]) = true := by simpa using e2
          clear e1 e2 HI HA HB HC
          go_wp2
          go_ret; exact ⟨ret_str HR.out.symm, rfl⟩
        · have HR : Hid (lookF [100, 111, 110, 101] [97, 110, 100] (43 - (i + 1)) (i + 1) = nextB [100, 111, 110, 101] [97, 110, 100] op) := by
            have h1 := HI.out; rw [lookF_miss hlt (by rw [HB.out]; exact fun h => e2 h.2)] at h1; exact h1
          have f2 : (b == [97, 110, 100]) = false := by simpa using e2
          clear e1 e2 HI HA HB HC
          go_wp2
          go_round
          case rel => exact ⟨i + 1, by omega, by go_num, HR.out⟩
          case measure => simp [intOf]; omega
      · have f1 : (a == [100, 111, 110, 101]) = false := by simpa using e1
        have HR : Hid (lookF [100, 111, 110, 101] [97, 110, 100] (43 - (i + 1)) (i + 1) = nextB [100, 111, 110, 101] [97, 110, 100] op) := by
          have h1 := HI.out; rw [lookF_miss hlt (by rw [HA.out]; exact fun h => e1 h.1)] at h1; exact h1
        clear e1 HI HA HB HC
        go_wp2
        go_round
        case rel => exact ⟨i + 1, by omega, by go_num, HR.out⟩
        case measure => simp [intOf]; omega
    · have HR : Hid (nextB [100, 111, 110, 101] [97, 110, 100] op = []) := by have h1 := HI.out; rw [lookF_end hlt] at h1; exact h1.symm
      clear HI
      go_wp2
      all_goals (go_ret; exact ⟨ret_str HR.out.symm, rfl⟩)

set_option maxHeartbeats 1000000 in
theorem next_done_shut0 (op : Int) (h : op = 0) (w : World) (hf : Folw w) :
    Calls Tryz.prog 128 #[.string ⟨[100, 111, 110, 101].toArray⟩, .string ⟨[41].toArray⟩, .int .i64 op] w fun e w' => e = .returned (.string ⟨(nextB [100, 111, 110, 101] [41] op).toArray⟩) ∧ w' = w := by
  have HW : Hid (Folw w) := hf
  clear hf
  have HF : Hid (nextB [100, 111, 110, 101] [41] op = []) := by simp [Hid, nextB, sNamed, sDone, kOr, kAnd, kShut, kEnd, h]
  have h' : (op == 0) = true := by simp [h]
  clear h
  go_enter Tryz.func128, Tryz.ntmps128
  go_wp2
  go_ret; exact ⟨ret_str (HF.out.symm), rfl⟩

set_option maxHeartbeats 1000000 in
theorem next_done_shut (op : Int) (h : ¬ op = 0) (w : World) (hf : Folw w) :
    Calls Tryz.prog 128 #[.string ⟨[100, 111, 110, 101].toArray⟩, .string ⟨[41].toArray⟩, .int .i64 op] w fun e w' => e = .returned (.string ⟨(nextB [100, 111, 110, 101] [41] op).toArray⟩) ∧ w' = w := by
  have HW : Hid (Folw w) := hf
  clear hf
  have HF : Hid (nextB [100, 111, 110, 101] [41] op = lookF [100, 111, 110, 101] [41] 43 0) := by simp [Hid, nextB, sNamed, sDone, kOr, kAnd, kShut, kEnd, h]
  have h' : (op == 0) = false := by simp [h]
  clear h
  go_enter Tryz.func128, Tryz.ntmps128
  go_wp2
  go_loop [7] (fun iv => ∃ i : Nat, i ≤ 43 ∧ iv = .int .i64 i ∧ Hid (lookF [100, 111, 110, 101] [41] (43 - i) i = nextB [100, 111, 110, 101] [41] op)) (fun iv => 43 - (intOf iv).toNat)
  case atStart => exact ⟨0, by omega, rfl, HF.out.symm⟩
  case round =>
    obtain ⟨i, hi, rfl, HI⟩ := hrel
    by_cases hlt : i < 43
    · have hc0 := HW.out (i * 3) (by omega)
      have hc1 := HW.out (i * 3 + 1) (by omega)
      have hc2 := HW.out (i * 3 + 2) (by omega)
      obtain ⟨a, ha⟩ : ∃ a, folL.getD (i * 3) [] = a := ⟨_, rfl⟩
      obtain ⟨b, hb⟩ : ∃ b, folL.getD (i * 3 + 1) [] = b := ⟨_, rfl⟩
      obtain ⟨c, hc⟩ : ∃ c, folL.getD (i * 3 + 2) [] = c := ⟨_, rfl⟩
      rw [ha] at hc0; rw [hb] at hc1; rw [hc] at hc2
      have HA : Hid (folL.getD (i * 3) [] = a) := ha
      have HB : Hid (folL.getD (i * 3 + 1) [] = b) := hb
      have HC : Hid (folL.getD (i * 3 + 2) [] = c) := hc
      clear ha hb hc
      by_cases e1 : a = [100, 111, 110, 101]
      · have f1 : (a == [100, 111, 110, 101]) = true := by simpa using e1
        by_cases e2 : b = [41]
        · have HR : Hid (nextB [100, 111, 110, 101] [41] op = c) := by
            have h1 := HI.out; rw [lookF_hit hlt (by rw [HA.out]; exact e1) (by rw [HB.out]; exact e2), HC.out] at h1; exact h1.symm
          have f2 : (b == [41]) = true := by simpa using e2
          clear e1 e2 HI HA HB HC
          go_wp2
          go_ret; exact ⟨ret_str HR.out.symm, rfl⟩
        · have HR : Hid (lookF [100, 111, 110, 101] [41] (43 - (i + 1)) (i + 1) = nextB [100, 111, 110, 101] [41] op) := by
            have h1 := HI.out; rw [lookF_miss hlt (by rw [HB.out]; exact fun h => e2 h.2)] at h1; exact h1
          have f2 : (b == [41]) = false := by simpa using e2
          clear e1 e2 HI HA HB HC
          go_wp2
          go_round
          case rel => exact ⟨i + 1, by omega, by go_num, HR.out⟩
          case measure => simp [intOf]; omega
      · have f1 : (a == [100, 111, 110, 101]) = false := by simpa using e1
        have HR : Hid (lookF [100, 111, 110, 101] [41] (43 - (i + 1)) (i + 1) = nextB [100, 111, 110, 101] [41] op) := by
          have h1 := HI.out; rw [lookF_miss hlt (by rw [HA.out]; exact fun h => e1 h.1)] at h1; exact h1
        clear e1 HI HA HB HC
        go_wp2
        go_round
        case rel => exact ⟨i + 1, by omega, by go_num, HR.out⟩
        case measure => simp [intOf]; omega
    · have HR : Hid (nextB [100, 111, 110, 101] [41] op = []) := by have h1 := HI.out; rw [lookF_end hlt] at h1; exact h1.symm
      clear HI
      go_wp2
      all_goals (go_ret; exact ⟨ret_str HR.out.symm, rfl⟩)

set_option maxHeartbeats 1000000 in
theorem next_done_end0 (op : Int) (h : 0 < op) (w : World) (hf : Folw w) :
    Calls Tryz.prog 128 #[.string ⟨[100, 111, 110, 101].toArray⟩, .string ⟨[59].toArray⟩, .int .i64 op] w fun e w' => e = .returned (.string ⟨(nextB [100, 111, 110, 101] [59] op).toArray⟩) ∧ w' = w := by
  have HW : Hid (Folw w) := hf
  clear hf
  have HF : Hid (nextB [100, 111, 110, 101] [59] op = []) := by simp [Hid, nextB, sNamed, sDone, kOr, kAnd, kShut, kEnd, h]
  go_enter Tryz.func128, Tryz.ntmps128
  go_wp2
  go_ret; exact ⟨ret_str (HF.out.symm), rfl⟩

set_option maxHeartbeats 1000000 in
theorem next_done_end (op : Int) (h : ¬ 0 < op) (w : World) (hf : Folw w) :
    Calls Tryz.prog 128 #[.string ⟨[100, 111, 110, 101].toArray⟩, .string ⟨[59].toArray⟩, .int .i64 op] w fun e w' => e = .returned (.string ⟨(nextB [100, 111, 110, 101] [59] op).toArray⟩) ∧ w' = w := by
  have HW : Hid (Folw w) := hf
  clear hf
  have HF : Hid (nextB [100, 111, 110, 101] [59] op = lookF [100, 111, 110, 101] [59] 43 0) := by simp [Hid, nextB, sNamed, sDone, kOr, kAnd, kShut, kEnd, h]
  go_enter Tryz.func128, Tryz.ntmps128
  go_wp2
  go_loop [7] (fun iv => ∃ i : Nat, i ≤ 43 ∧ iv = .int .i64 i ∧ Hid (lookF [100, 111, 110, 101] [59] (43 - i) i = nextB [100, 111, 110, 101] [59] op)) (fun iv => 43 - (intOf iv).toNat)
  case atStart => exact ⟨0, by omega, rfl, HF.out.symm⟩
  case round =>
    obtain ⟨i, hi, rfl, HI⟩ := hrel
    by_cases hlt : i < 43
    · have hc0 := HW.out (i * 3) (by omega)
      have hc1 := HW.out (i * 3 + 1) (by omega)
      have hc2 := HW.out (i * 3 + 2) (by omega)
      obtain ⟨a, ha⟩ : ∃ a, folL.getD (i * 3) [] = a := ⟨_, rfl⟩
      obtain ⟨b, hb⟩ : ∃ b, folL.getD (i * 3 + 1) [] = b := ⟨_, rfl⟩
      obtain ⟨c, hc⟩ : ∃ c, folL.getD (i * 3 + 2) [] = c := ⟨_, rfl⟩
      rw [ha] at hc0; rw [hb] at hc1; rw [hc] at hc2
      have HA : Hid (folL.getD (i * 3) [] = a) := ha
      have HB : Hid (folL.getD (i * 3 + 1) [] = b) := hb
      have HC : Hid (folL.getD (i * 3 + 2) [] = c) := hc
      clear ha hb hc
      by_cases e1 : a = [100, 111, 110, 101]
      · have f1 : (a == [100, 111, 110, 101]) = true := by simpa using e1
        by_cases e2 : b = [59]
        · have HR : Hid (nextB [100, 111, 110, 101] [59] op = c) := by
            have h1 := HI.out; rw [lookF_hit hlt (by rw [HA.out]; exact e1) (by rw [HB.out]; exact e2), HC.out] at h1; exact h1.symm
          have f2 : (b == [59]) = true := by simpa using e2
          clear e1 e2 HI HA HB HC
          go_wp2
          go_ret; exact ⟨ret_str HR.out.symm, rfl⟩
        · have HR : Hid (lookF [100, 111, 110, 101] [59] (43 - (i + 1)) (i + 1) = nextB [100, 111, 110, 101] [59] op) := by
            have h1 := HI.out; rw [lookF_miss hlt (by rw [HB.out]; exact fun h => e2 h.2)] at h1; exact h1
          have f2 : (b == [59]) = false := by simpa using e2
          clear e1 e2 HI HA HB HC
          go_wp2
          go_round
          case rel => exact ⟨i + 1, by omega, by go_num, HR.out⟩
          case measure => simp [intOf]; omega
      · have f1 : (a == [100, 111, 110, 101]) = false := by simpa using e1
        have HR : Hid (lookF [100, 111, 110, 101] [59] (43 - (i + 1)) (i + 1) = nextB [100, 111, 110, 101] [59] op) := by
          have h1 := HI.out; rw [lookF_miss hlt (by rw [HA.out]; exact fun h => e1 h.1)] at h1; exact h1
        clear e1 HI HA HB HC
        go_wp2
        go_round
        case rel => exact ⟨i + 1, by omega, by go_num, HR.out⟩
        case measure => simp [intOf]; omega
    · have HR : Hid (nextB [100, 111, 110, 101] [59] op = []) := by have h1 := HI.out; rw [lookF_end hlt] at h1; exact h1.symm
      clear HI
      go_wp2
      all_goals (go_ret; exact ⟨ret_str HR.out.symm, rfl⟩)

set_option maxHeartbeats 1000000 in
theorem next_done_else (cl : Bs) (op : Int) (h1 : ¬ cl = kOr) (h2 : ¬ cl = kAnd) (h3 : ¬ cl = kShut) (h4 : ¬ cl = kEnd) (w : World) (hf : Folw w) :
    Calls Tryz.prog 128 #[.string ⟨[100, 111, 110, 101].toArray⟩, .string ⟨cl.toArray⟩, .int .i64 op] w fun e w' => e = .returned (.string ⟨(nextB [100, 111, 110, 101] cl op).toArray⟩) ∧ w' = w := by
  have HW : Hid (Folw w) := hf
  clear hf
  have HF : Hid (nextB [100, 111, 110, 101] cl op = lookF [100, 111, 110, 101] cl 43 0) := by simp [Hid, nextB, h1, h2, h3, h4]
  have b1 : (cl == [111, 114]) = false := by simpa [kOr] using h1
  have b2 : (cl == [97, 110, 100]) = false := by simpa [kAnd] using h2
  have b3 : (cl == [41]) = false := by simpa [kShut] using h3
  have b4 : (cl == [59]) = false := by simpa [kEnd] using h4
  clear h1 h2 h3 h4
  go_enter Tryz.func128, Tryz.ntmps128
  go_wp2
  go_loop [7] (fun iv => ∃ i : Nat, i ≤ 43 ∧ iv = .int .i64 i ∧ Hid (lookF [100, 111, 110, 101] cl (43 - i) i = nextB [100, 111, 110, 101] cl op)) (fun iv => 43 - (intOf iv).toNat)
  case atStart => exact ⟨0, by omega, rfl, HF.out.symm⟩
  case round =>
    obtain ⟨i, hi, rfl, HI⟩ := hrel
    by_cases hlt : i < 43
    · have hc0 := HW.out (i * 3) (by omega)
      have hc1 := HW.out (i * 3 + 1) (by omega)
      have hc2 := HW.out (i * 3 + 2) (by omega)
      obtain ⟨a, ha⟩ : ∃ a, folL.getD (i * 3) [] = a := ⟨_, rfl⟩
      obtain ⟨b, hb⟩ : ∃ b, folL.getD (i * 3 + 1) [] = b := ⟨_, rfl⟩
      obtain ⟨c, hc⟩ : ∃ c, folL.getD (i * 3 + 2) [] = c := ⟨_, rfl⟩
      rw [ha] at hc0; rw [hb] at hc1; rw [hc] at hc2
      have HA : Hid (folL.getD (i * 3) [] = a) := ha
      have HB : Hid (folL.getD (i * 3 + 1) [] = b) := hb
      have HC : Hid (folL.getD (i * 3 + 2) [] = c) := hc
      clear ha hb hc
      by_cases e1 : a = [100, 111, 110, 101]
      · have f1 : (a == [100, 111, 110, 101]) = true := by simpa using e1
        by_cases e2 : b = cl
        · have HR : Hid (nextB [100, 111, 110, 101] cl op = c) := by
            have h1 := HI.out; rw [lookF_hit hlt (by rw [HA.out]; exact e1) (by rw [HB.out]; exact e2), HC.out] at h1; exact h1.symm
          have f2 : (b == cl) = true := by simpa using e2
          clear e1 e2 HI HA HB HC
          go_wp2
          go_ret; exact ⟨ret_str HR.out.symm, rfl⟩
        · have HR : Hid (lookF [100, 111, 110, 101] cl (43 - (i + 1)) (i + 1) = nextB [100, 111, 110, 101] cl op) := by
            have h1 := HI.out; rw [lookF_miss hlt (by rw [HB.out]; exact fun h => e2 h.2)] at h1; exact h1
          have f2 : (b == cl) = false := by simpa using e2
          clear e1 e2 HI HA HB HC
          go_wp2
          go_round
          case rel => exact ⟨i + 1, by omega, by go_num, HR.out⟩
          case measure => simp [intOf]; omega
      · have f1 : (a == [100, 111, 110, 101]) = false := by simpa using e1
        have HR : Hid (lookF [100, 111, 110, 101] cl (43 - (i + 1)) (i + 1) = nextB [100, 111, 110, 101] cl op) := by
          have h1 := HI.out; rw [lookF_miss hlt (by rw [HA.out]; exact fun h => e1 h.1)] at h1; exact h1
        clear e1 HI HA HB HC
        go_wp2
        go_round
        case rel => exact ⟨i + 1, by omega, by go_num, HR.out⟩
        case measure => simp [intOf]; omega
    · have HR : Hid (nextB [100, 111, 110, 101] cl op = []) := by have h1 := HI.out; rw [lookF_end hlt] at h1; exact h1.symm
      clear HI
      go_wp2
      all_goals (go_ret; exact ⟨ret_str HR.out.symm, rfl⟩)

theorem next_any (st cl : Bs) (op : Int) (w : World) (hf : Folw w) :
    Calls Tryz.prog 128 #[.string ⟨st.toArray⟩, .string ⟨cl.toArray⟩, .int .i64 op] w fun e w' => e = .returned (.string ⟨(nextB st cl op).toArray⟩) ∧ w' = w := by
  by_cases h1 : st = sNamed
  · subst h1
    by_cases c1 : cl = kOr
    · subst c1; exact next_named_or op w hf
    by_cases c2 : cl = kAnd
    · subst c2; exact next_named_and op w hf
    by_cases c3 : cl = kShut
    · subst c3; by_cases h : op = 0
      · exact next_named_shut0 op h w hf
      · exact next_named_shut op h w hf
    by_cases c4 : cl = kEnd
    · subst c4; by_cases h : 0 < op
      · exact next_named_end0 op h w hf
      · exact next_named_end op h w hf
    exact next_named_else cl op c1 c2 c3 c4 w hf
  · by_cases h2 : st = sDone
    · subst h2
      by_cases c1 : cl = kOr
      · subst c1; exact next_done_or op w hf
      by_cases c2 : cl = kAnd
      · subst c2; exact next_done_and op w hf
      by_cases c3 : cl = kShut
      · subst c3; by_cases h : op = 0
        · exact next_done_shut0 op h w hf
        · exact next_done_shut op h w hf
      by_cases c4 : cl = kEnd
      · subst c4; by_cases h : 0 < op
        · exact next_done_end0 op h w hf
        · exact next_done_end op h w hf
      exact next_done_else cl op c1 c2 c3 c4 w hf
    · exact next_other st cl op h1 h2 w hf
end Go.Proofs.YtnbpdffdnphbeaaGreatDoor
