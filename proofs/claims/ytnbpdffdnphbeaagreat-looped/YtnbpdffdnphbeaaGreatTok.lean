/- What word, number, mark and tokenAt of the program give: the token at a place. -/
import Derived.Test.YtnbpdffdnphbeaaGreatKept
import Derived.Test.YtnbpdffdnphbeaaGreatPWalk
namespace Go.Proofs.YtnbpdffdnphbeaaGreat
open Go.RowKit

/-- The token of a text at a place, as a value. -/
def tokV (k : Int) (t : Bs) (v : Int) (p : Nat) : Value := .agg #[.int .i64 k, .string ⟨t.toArray⟩, .int .i64 v, .int .i64 p]

theorem isLetter_is (c : Int) (b : Bool) (h : letterI c = b) (w : World) :
    Calls Tryz.prog 70 #[.int .u8 c] w fun e w' => e = .returned (.bool b) ∧ w' = w := by subst h; exact isLetter_any c w
theorem isDigit_is (c : Int) (b : Bool) (h : digitI c = b) (w : World) :
    Calls Tryz.prog 72 #[.int .u8 c] w fun e w' => e = .returned (.bool b) ∧ w' = w := by subst h; exact isDigit_any c w
theorem isKept_is (s : Bs) (b : Bool) (h : isKeptB s = b) (w : World) :
    Calls Tryz.prog 93 #[.string ⟨s.toArray⟩] w fun e w' => e = .returned (.bool b) ∧ w' = w := by subst h; exact isKept_any s w
theorem isMark_is (s : Bs) (b : Bool) (h : isMarkB s = b) (w : World) :
    Calls Tryz.prog 95 #[.string ⟨s.toArray⟩] w fun e w' => e = .returned (.bool b) ∧ w' = w := by subst h; exact isMark_any s w

theorem letter_so (c : UInt8) : letterI (c.toNat : Int) = decide (so c = 1) := by
  unfold letterI so sortI
  by_cases h : (97 : Int) ≤ c.toNat ∧ (c.toNat : Int) ≤ 122
  · rw [if_pos h]; simp [h]
  · rw [if_neg h]
    have : ¬ (if (48 : Int) ≤ c.toNat ∧ (c.toNat : Int) ≤ 57 then (2 : Int) else if (c.toNat : Int) = 32 ∨ (c.toNat : Int) = 10 then 3 else 0) = 1 := by split <;> (try split) <;> decide
    simp only [this, decide_false, Bool.and_eq_false_iff, decide_eq_false_iff_not]; omega
theorem digit_so (c : UInt8) : digitI (c.toNat : Int) = decide (so c = 2) := by
  unfold digitI so sortI
  by_cases h : (48 : Int) ≤ c.toNat ∧ (c.toNat : Int) ≤ 57
  · rw [if_neg (by omega), if_pos h]; simp [h]
  · rw [if_neg h]
    have : ¬ (if (97 : Int) ≤ c.toNat ∧ (c.toNat : Int) ≤ 122 then (1 : Int) else if (c.toNat : Int) = 32 ∨ (c.toNat : Int) = 10 then 3 else 0) = 2 := by split <;> (try split) <;> decide
    simp only [this, decide_false, Bool.and_eq_false_iff, decide_eq_false_iff_not]; omega
theorem at_letter {l : Bs} {b : Bool} {i : Nat} (h : decide (so (l.getD i 0) = 1) = b) : ∀ h : i < (ByteArray.mk l.toArray).size, letterI (((ByteArray.mk l.toArray)[i]'h).toNat : Int) = b := by
  intro h0; rw [idx_mk, letter_so, h]
theorem at_digit {l : Bs} {b : Bool} {i : Nat} (h : decide (so (l.getD i 0) = 2) = b) : ∀ h : i < (ByteArray.mk l.toArray).size, digitI (((ByteArray.mk l.toArray)[i]'h).toNat : Int) = b := by
  intro h0; rw [idx_mk, digit_so, h]

set_option maxHeartbeats 1000000 in
theorem word_any (l : Bs) (p : Nat) (w : World) (hl : l.length ≤ 4000) (hp : p < l.length) (hk : so (l.getD p 0) = 1) :
    Calls Tryz.prog 71 #[.string ⟨l.toArray⟩, .int .i64 p] w fun e w' => e = .returned (tokV (pkind ((l.drop p).take (lenB (l.drop p)))) ((l.drop p).take (lenB (l.drop p))) (pval ((l.drop p).take (lenB (l.drop p)))) p) ∧ Below w.heap.size w w' := by
  have hn : lenB (l.drop p) = 1 + runL 1 ((l.drop p).drop 1) := by unfold lenB; rw [getD_drop, Nat.add_zero, if_neg (by omega), hk]
  rw [List.drop_drop] at hn
  have HN := hideP2 hn
  have hh : ∀ n, 1 ≤ n → ((l.drop p).take n).getD 0 0 = l.getD p 0 := by
    intro n hn1; simp only [List.getD, List.getElem?_take, List.getElem?_drop, Nat.add_zero]; rw [if_pos (by omega)]
  have HH := hideP2 hh
  clear hn hh
  go_enter Tryz.func71, Tryz.ntmps71
  go_wp2_with fail
  go_loop [5] (fun nv => ∃ i : Nat, p + 1 ≤ i ∧ i ≤ l.length ∧ nv = .int .i64 i ∧ Hid (i + runL 1 (l.drop i) = p + 1 + runL 1 (l.drop (p + 1)))) (fun nv => l.length - (intOf nv).toNat)
  case atStart => exact ⟨p + 1, Nat.le_refl _, by omega, by go_num, rfl⟩
  case round =>
    obtain ⟨i, h1, hi, rfl, HI⟩ := hrel
    by_cases hgo : i < l.length ∧ so (l.getD i 0) = 1
    · obtain ⟨hlt, hq⟩ := hgo
      have HQ := hideP2 (at_letter (b := true) (by rw [hq]; rfl) : ∀ h : i < (ByteArray.mk l.toArray).size, letterI (((ByteArray.mk l.toArray)[i]'h).toNat : Int) = true)
      have HI2 : Hid (i + 1 + runL 1 (l.drop (i + 1)) = p + 1 + runL 1 (l.drop (p + 1))) := by have := HI.out; rw [runL_on hlt hq] at this; exact this
      clear hq HI
      go_wp2_with (go_at_call 70; refine (isLetter_is _ true (HQ.out _) _).mono ?_; rintro e w' ⟨rfl, hw⟩; obtain rfl := hw.symm)
      go_round
      case rel => exact ⟨i + 1, by omega, by omega, by go_num, HI2.out⟩
      case measure => simp [intOf]; omega
    · have hstop : i + runL 1 (l.drop i) = i := by
        by_cases hlt : i < l.length
        · exact runL_off hlt (fun h => hgo ⟨hlt, h⟩)
        · exact runL_end hlt
      have hni : lenB (l.drop p) = i - p := by have h2 := HI.out; have h3 := HN.out; omega
      obtain ⟨t, ht⟩ : ∃ t, (l.drop p).take (i - p) = t := ⟨_, rfl⟩
      have hx1 : (ByteArray.mk l.toArray).extract p i = ⟨t.toArray⟩ := by rw [ByteArray.extract_mk, ← ht]
      have htn : t.length = i - p := by rw [← ht, List.length_take, List.length_drop]; omega
      have hth : so (t.getD 0 0) = 1 := by rw [← ht, HH.out (i - p) (by omega)]; exact hk
      have HT : Hid ((l.drop p).take (lenB (l.drop p)) = t) := by unfold Hid; rw [hni]; exact ht
      have HV : Hid (pval t = 0) := by unfold Hid pval; rw [if_neg]; unfold pkind; rw [if_pos hth]; split <;> (try split) <;> decide
      have HK : Hid (pkind t = if 8 < t.length then 1 else if isKeptB t = true then 4 else 2) := by unfold Hid pkind; rw [if_pos hth]
      clear hni HN HH ht hth hstop HI hk
      by_cases hlt : i < l.length
      · have hq : ¬ so (l.getD i 0) = 1 := fun h => hgo ⟨hlt, h⟩
        have HQ := hideP2 (at_letter (b := false) (by simp only [hq, decide_false]) : ∀ h : i < (ByteArray.mk l.toArray).size, letterI (((ByteArray.mk l.toArray)[i]'h).toNat : Int) = false)
        clear hq hgo
        by_cases h8 : 8 < t.length
        · have HK2 : Hid (pkind t = 1) := by unfold Hid; rw [HK.out, if_pos h8]
          go_wp2_with (go_at_call 70; refine (isLetter_is _ false (HQ.out _) _).mono ?_; rintro e w' ⟨rfl, hw⟩; obtain rfl := hw.symm)
          refine bodyPost_ret (v := tokV 1 t 0 p) (by simp [results, Tryz.results71, go_sem, tokV]) rfl ⟨?_, ?_⟩
          · rw [HT.out, HV.out, HK2.out]
          · exact (Below.refl _ _).alloc (Nat.le_refl _) _
        · cases hkp : isKeptB t
          · have HKe := hideP2 hkp
            have HK2 : Hid (pkind t = 2) := by unfold Hid; rw [HK.out, if_neg h8, if_neg (by simp [hkp])]
            clear hkp
            go_wp2_with (first | (go_at_call 70; refine (isLetter_is _ false (HQ.out _) _).mono ?_; rintro e w' ⟨rfl, hw⟩; obtain rfl := hw.symm) | (go_at_call 93; refine (isKept_is t false HKe.out _).mono ?_; rintro e w' ⟨rfl, hw⟩; obtain rfl := hw.symm))
            refine bodyPost_ret (v := tokV 2 t 0 p) (by simp [results, Tryz.results71, go_sem, tokV]) rfl ⟨?_, ?_⟩
            · rw [HT.out, HV.out, HK2.out]
            · exact (Below.refl _ _).alloc (Nat.le_refl _) _
          · have HKe := hideP2 hkp
            have HK2 : Hid (pkind t = 4) := by unfold Hid; rw [HK.out, if_neg h8, if_pos hkp]
            clear hkp
            go_wp2_with (first | (go_at_call 70; refine (isLetter_is _ false (HQ.out _) _).mono ?_; rintro e w' ⟨rfl, hw⟩; obtain rfl := hw.symm) | (go_at_call 93; refine (isKept_is t true HKe.out _).mono ?_; rintro e w' ⟨rfl, hw⟩; obtain rfl := hw.symm))
            refine bodyPost_ret (v := tokV 4 t 0 p) (by simp [results, Tryz.results71, go_sem, tokV]) rfl ⟨?_, ?_⟩
            · rw [HT.out, HV.out, HK2.out]
            · exact (Below.refl _ _).alloc (Nat.le_refl _) _
      · clear hgo
        by_cases h8 : 8 < t.length
        · have HK2 : Hid (pkind t = 1) := by unfold Hid; rw [HK.out, if_pos h8]
          go_wp2_with (fail)
          refine bodyPost_ret (v := tokV 1 t 0 p) (by simp [results, Tryz.results71, go_sem, tokV]) rfl ⟨?_, ?_⟩
          · rw [HT.out, HV.out, HK2.out]
          · exact (Below.refl _ _).alloc (Nat.le_refl _) _
        · cases hkp : isKeptB t
          · have HKe := hideP2 hkp
            have HK2 : Hid (pkind t = 2) := by unfold Hid; rw [HK.out, if_neg h8, if_neg (by simp [hkp])]
            clear hkp
            go_wp2_with (go_at_call 93; refine (isKept_is t false HKe.out _).mono ?_; rintro e w' ⟨rfl, hw⟩; obtain rfl := hw.symm)
            refine bodyPost_ret (v := tokV 2 t 0 p) (by simp [results, Tryz.results71, go_sem, tokV]) rfl ⟨?_, ?_⟩
            · rw [HT.out, HV.out, HK2.out]
            · exact (Below.refl _ _).alloc (Nat.le_refl _) _
          · have HKe := hideP2 hkp
            have HK2 : Hid (pkind t = 4) := by unfold Hid; rw [HK.out, if_neg h8, if_pos hkp]
            clear hkp
            go_wp2_with (go_at_call 93; refine (isKept_is t true HKe.out _).mono ?_; rintro e w' ⟨rfl, hw⟩; obtain rfl := hw.symm)
            refine bodyPost_ret (v := tokV 4 t 0 p) (by simp [results, Tryz.results71, go_sem, tokV]) rfl ⟨?_, ?_⟩
            · rw [HT.out, HV.out, HK2.out]
            · exact (Below.refl _ _).alloc (Nat.le_refl _) _


theorem runL_all (k : Int) (l : Bs) : ∀ j, j < runL k l → so (l.getD j 0) = k := by
  induction l with
  | nil => intro j h; simp [runL] at h
  | cons c r ih =>
    intro j h
    rw [runL] at h
    split at h
    · rename_i hc
      cases j with
      | zero => simpa using hc
      | succ j => simpa using ih j (by omega)
    · omega

set_option maxHeartbeats 1000000 in
theorem number_any (l : Bs) (p : Nat) (w : World) (hl : l.length ≤ 4000) (hp : p < l.length) (hk : so (l.getD p 0) = 2) :
    Calls Tryz.prog 73 #[.string ⟨l.toArray⟩, .int .i64 p] w fun e w' => e = .returned (tokV (pkind ((l.drop p).take (lenB (l.drop p)))) ((l.drop p).take (lenB (l.drop p))) (pval ((l.drop p).take (lenB (l.drop p)))) p) ∧ Below w.heap.size w w' := by
  have hn : lenB (l.drop p) = 1 + runL 2 ((l.drop p).drop 1) := by unfold lenB; rw [getD_drop, Nat.add_zero, if_neg (by omega), hk]
  rw [List.drop_drop] at hn
  have hall : ∀ j, j < lenB (l.drop p) → so (((l.drop p).take (lenB (l.drop p))).getD j 0) = 2 := by
    intro j hj
    have e : ((l.drop p).take (lenB (l.drop p))).getD j 0 = l.getD (p + j) 0 := by
      simp only [List.getD, List.getElem?_take, List.getElem?_drop]; rw [if_pos hj]
    rw [e]
    cases j with
    | zero => exact hk
    | succ j =>
      have := runL_all 2 (l.drop (p + 1)) j (by omega)
      rw [getD_drop] at this; rw [show p + (j + 1) = p + 1 + j by omega]; exact this
  have HA := hideP2 hall
  have HN := hideP2 hn
  have hh : ∀ n, 1 ≤ n → ((l.drop p).take n).getD 0 0 = l.getD p 0 := by
    intro n hn1; simp only [List.getD, List.getElem?_take, List.getElem?_drop, Nat.add_zero]; rw [if_pos (by omega)]
  have HH := hideP2 hh
  clear hn hh hall
  go_enter Tryz.func73, Tryz.ntmps73
  go_wp2_with fail
  go_loop [5] (fun nv => ∃ i : Nat, p + 1 ≤ i ∧ i ≤ l.length ∧ nv = .int .i64 i ∧ Hid (i + runL 2 (l.drop i) = p + 1 + runL 2 (l.drop (p + 1)))) (fun nv => l.length - (intOf nv).toNat)
  case atStart => exact ⟨p + 1, Nat.le_refl _, by omega, by go_num, rfl⟩
  case round =>
    obtain ⟨i, h1, hi, rfl, HI⟩ := hrel
    by_cases hgo : i < l.length ∧ so (l.getD i 0) = 2
    · obtain ⟨hlt, hq⟩ := hgo
      have HQ := hideP2 (at_digit (b := true) (by rw [hq]; rfl) : ∀ h : i < (ByteArray.mk l.toArray).size, digitI (((ByteArray.mk l.toArray)[i]'h).toNat : Int) = true)
      have HI2 : Hid (i + 1 + runL 2 (l.drop (i + 1)) = p + 1 + runL 2 (l.drop (p + 1))) := by have := HI.out; rw [runL_on hlt hq] at this; exact this
      clear hq HI
      go_wp2_with (go_at_call 72; refine (isDigit_is _ true (HQ.out _) _).mono ?_; rintro e w' ⟨rfl, hw⟩; obtain rfl := hw.symm)
      go_round
      case rel => exact ⟨i + 1, by omega, by omega, by go_num, HI2.out⟩
      case measure => simp [intOf]; omega
    · have hstop : i + runL 2 (l.drop i) = i := by
        by_cases hlt : i < l.length
        · exact runL_off hlt (fun h => hgo ⟨hlt, h⟩)
        · exact runL_end hlt
      have hni : lenB (l.drop p) = i - p := by have h2 := HI.out; have h3 := HN.out; omega
      obtain ⟨t, ht⟩ : ∃ t, (l.drop p).take (i - p) = t := ⟨_, rfl⟩
      have hx1 : (ByteArray.mk l.toArray).extract p i = ⟨t.toArray⟩ := by rw [ByteArray.extract_mk, ← ht]
      have htn : t.length = i - p := by rw [← ht, List.length_take, List.length_drop]; omega
      have HH2 : Hid (t.getD 0 0 = l.getD p 0) := by rw [← ht]; exact HH.out (i - p) (by omega)
      have hth : so (t.getD 0 0) = 2 := by rw [HH2.out]; exact hk
      have HT : Hid ((l.drop p).take (lenB (l.drop p)) = t) := by unfold Hid; rw [hni]; exact ht
      have HAll : Hid (∀ j, j < t.length → so (t.getD j 0) = 2) := by
        have h2 := HA.out; rw [HT.out, hni, ← htn] at h2; exact h2
      have HK : Hid (pkind t = if 4 < t.length ∨ 1 < t.length ∧ t.getD 0 0 = 48 then 1 else 3) := by unfold Hid pkind; rw [if_neg (by omega), if_pos hth]
      clear hni HN HH ht hth hstop HI hk HA
      by_cases hlt : i < l.length
      · have hq : ¬ so (l.getD i 0) = 2 := fun h => hgo ⟨hlt, h⟩
        have HQ := hideP2 (at_digit (b := false) (by simp only [hq, decide_false]) : ∀ h : i < (ByteArray.mk l.toArray).size, digitI (((ByteArray.mk l.toArray)[i]'h).toNat : Int) = false)
        clear hq hgo
        by_cases h4 : 4 < t.length
        · have HK2 : Hid (pkind t = 1) := by unfold Hid; rw [HK.out, if_pos (.inl h4)]
          have HV : Hid (pval t = 0) := by unfold Hid pval; rw [HK2.out, if_neg (by decide)]
          go_wp2_with (go_at_call 72; refine (isDigit_is _ false (HQ.out _) _).mono ?_; rintro e w' ⟨rfl, hw⟩; obtain rfl := hw.symm)
          refine bodyPost_ret (v := tokV 1 t 0 p) (by simp [results, Tryz.results73, go_sem, tokV]) rfl ⟨?_, ?_⟩
          · rw [HT.out, HV.out, HK2.out]
          · exact (Below.refl _ _).alloc (Nat.le_refl _) _
        · by_cases h1' : 1 < t.length
          · by_cases hz : l.getD p 0 = 48
            · have HK2 : Hid (pkind t = 1) := by unfold Hid; rw [HK.out, if_pos (.inr ⟨h1', by rw [HH2.out]; exact hz⟩)]
              have HV : Hid (pval t = 0) := by unfold Hid pval; rw [HK2.out, if_neg (by decide)]
              have hc : ∀ h, (((ByteArray.mk l.toArray)[p]'h).toNat : Int) = 48 := by intro h; rw [idx_int, hz]; rfl
              clear hz
              go_wp2_with (go_at_call 72; refine (isDigit_is _ false (HQ.out _) _).mono ?_; rintro e w' ⟨rfl, hw⟩; obtain rfl := hw.symm)
              refine bodyPost_ret (v := tokV 1 t 0 p) (by simp [results, Tryz.results73, go_sem, tokV]) rfl ⟨?_, ?_⟩
              · rw [HT.out, HV.out, HK2.out]
              · exact (Below.refl _ _).alloc (Nat.le_refl _) _
            · have HK2 : Hid (pkind t = 3) := by unfold Hid; rw [HK.out, if_neg (by intro hh; rcases hh with hh | hh; exact h4 hh; rw [HH2.out] at hh; exact hz hh.2)]
              have HV : Hid (pval t = valF 0 t) := by unfold Hid pval; rw [HK2.out, if_pos rfl]
              have hc : ∀ h, ((((ByteArray.mk l.toArray)[p]'h).toNat : Int) == 48) = false := by
                intro h; rw [Bool.eq_false_iff]; intro hh; apply hz; rw [idx_int] at hh; exact (byte_eq _ 48).1 hh
              clear hz
              go_wp2_with (first | (go_at_call 72; refine (isDigit_is _ false (HQ.out _) _).mono ?_; rintro e w' ⟨rfl, hw⟩; obtain rfl := hw.symm) | (go_at_call 94; refine (value_any t _ (by omega) HAll.out).mono ?_; rintro e w' ⟨rfl, hw⟩; obtain rfl := hw.symm))
              refine bodyPost_ret (v := tokV 3 t (valF 0 t) p) (by simp [results, Tryz.results73, go_sem, tokV]) rfl ⟨?_, ?_⟩
              · rw [HT.out, HV.out, HK2.out]
              · exact (Below.refl _ _).alloc (Nat.le_refl _) _
          · have HK2 : Hid (pkind t = 3) := by unfold Hid; rw [HK.out, if_neg (by intro hh; rcases hh with hh | hh; exact h4 hh; exact h1' hh.1)]
            have HV : Hid (pval t = valF 0 t) := by unfold Hid pval; rw [HK2.out, if_pos rfl]
            go_wp2_with (first | (go_at_call 72; refine (isDigit_is _ false (HQ.out _) _).mono ?_; rintro e w' ⟨rfl, hw⟩; obtain rfl := hw.symm) | (go_at_call 94; refine (value_any t _ (by omega) HAll.out).mono ?_; rintro e w' ⟨rfl, hw⟩; obtain rfl := hw.symm))
            refine bodyPost_ret (v := tokV 3 t (valF 0 t) p) (by simp [results, Tryz.results73, go_sem, tokV]) rfl ⟨?_, ?_⟩
            · rw [HT.out, HV.out, HK2.out]
            · exact (Below.refl _ _).alloc (Nat.le_refl _) _
      · clear hgo
        by_cases h4 : 4 < t.length
        · have HK2 : Hid (pkind t = 1) := by unfold Hid; rw [HK.out, if_pos (.inl h4)]
          have HV : Hid (pval t = 0) := by unfold Hid pval; rw [HK2.out, if_neg (by decide)]
          go_wp2_with (fail)
          refine bodyPost_ret (v := tokV 1 t 0 p) (by simp [results, Tryz.results73, go_sem, tokV]) rfl ⟨?_, ?_⟩
          · rw [HT.out, HV.out, HK2.out]
          · exact (Below.refl _ _).alloc (Nat.le_refl _) _
        · by_cases h1' : 1 < t.length
          · by_cases hz : l.getD p 0 = 48
            · have HK2 : Hid (pkind t = 1) := by unfold Hid; rw [HK.out, if_pos (.inr ⟨h1', by rw [HH2.out]; exact hz⟩)]
              have HV : Hid (pval t = 0) := by unfold Hid pval; rw [HK2.out, if_neg (by decide)]
              have hc : ∀ h, (((ByteArray.mk l.toArray)[p]'h).toNat : Int) = 48 := by intro h; rw [idx_int, hz]; rfl
              clear hz
              go_wp2_with (fail)
              refine bodyPost_ret (v := tokV 1 t 0 p) (by simp [results, Tryz.results73, go_sem, tokV]) rfl ⟨?_, ?_⟩
              · rw [HT.out, HV.out, HK2.out]
              · exact (Below.refl _ _).alloc (Nat.le_refl _) _
            · have HK2 : Hid (pkind t = 3) := by unfold Hid; rw [HK.out, if_neg (by intro hh; rcases hh with hh | hh; exact h4 hh; rw [HH2.out] at hh; exact hz hh.2)]
              have HV : Hid (pval t = valF 0 t) := by unfold Hid pval; rw [HK2.out, if_pos rfl]
              have hc : ∀ h, ((((ByteArray.mk l.toArray)[p]'h).toNat : Int) == 48) = false := by
                intro h; rw [Bool.eq_false_iff]; intro hh; apply hz; rw [idx_int] at hh; exact (byte_eq _ 48).1 hh
              clear hz
              go_wp2_with (go_at_call 94; refine (value_any t _ (by omega) HAll.out).mono ?_; rintro e w' ⟨rfl, hw⟩; obtain rfl := hw.symm)
              refine bodyPost_ret (v := tokV 3 t (valF 0 t) p) (by simp [results, Tryz.results73, go_sem, tokV]) rfl ⟨?_, ?_⟩
              · rw [HT.out, HV.out, HK2.out]
              · exact (Below.refl _ _).alloc (Nat.le_refl _) _
          · have HK2 : Hid (pkind t = 3) := by unfold Hid; rw [HK.out, if_neg (by intro hh; rcases hh with hh | hh; exact h4 hh; exact h1' hh.1)]
            have HV : Hid (pval t = valF 0 t) := by unfold Hid pval; rw [HK2.out, if_pos rfl]
            go_wp2_with (go_at_call 94; refine (value_any t _ (by omega) HAll.out).mono ?_; rintro e w' ⟨rfl, hw⟩; obtain rfl := hw.symm)
            refine bodyPost_ret (v := tokV 3 t (valF 0 t) p) (by simp [results, Tryz.results73, go_sem, tokV]) rfl ⟨?_, ?_⟩
            · rw [HT.out, HV.out, HK2.out]
            · exact (Below.refl _ _).alloc (Nat.le_refl _) _

end Go.Proofs.YtnbpdffdnphbeaaGreat

/- Plain facts: which words the document's lists of words hold. -/
namespace Go.Proofs.YtnbpdffdnphbeaaGreat

def wordsG (l : Bs) : Nat → Nat → Nat → List Bs
  | 0, _, _ => []
  | n + 1, a, i => if i = l.length ∨ l.getD i 0 = 32 then (l.drop a).take (i - a) :: wordsG l n (i + 1) (i + 1) else wordsG l n a (i + 1)

theorem amG_words (l s : Bs) (n : Nat) : ∀ a i, amG l s n a i = decide (s ∈ wordsG l n a i) := by
  induction n with
  | zero => intro a i; simp [amG, wordsG]
  | succ n ih =>
    intro a i
    rw [amG, wordsG]
    split
    · rw [ih]
      split
      · rename_i h; simp [h]
      · rename_i h
        have h2 : ¬ s = (l.drop a).take (i - a) := fun e => h e.symm
        simp [h2]
    · exact ih _ _

theorem among_iff (l s : Bs) : amongB l s = decide (s ∈ wordsG l (l.length + 1) 0 0) := amG_words l s _ 0 0

theorem words_two : wordsG twoMarks (twoMarks.length + 1) 0 0 = [[46, 46], [60, 61], [33, 61], [62, 61]] := by decide
theorem words_kept : wordsG keptWords (keptWords.length + 1) 0 0 = keptL := by decide
theorem words_marks : wordsG allMarks (allMarks.length + 1) 0 0 = markL := by decide

theorem among_kept (s : Bs) : amongB keptWords s = isKeptB s := by
  rw [among_iff, words_kept, isKeptB, ← List.elem_eq_contains, List.elem_eq_mem]
theorem among_marks (s : Bs) : amongB allMarks s = isMarkB s := by
  rw [among_iff, words_marks, isMarkB, ← List.elem_eq_contains, List.elem_eq_mem]
theorem among_two (s : Bs) (h : s.length = 2) : amongB twoMarks s = isMarkB s := by
  rw [among_iff, words_two, isMarkB, ← List.elem_eq_contains, List.elem_eq_mem]
  congr 1
  simp only [markL, List.mem_cons, List.not_mem_nil, or_false, eq_iff_iff]
  constructor
  · rintro (rfl | rfl | rfl | rfl) <;> decide
  · rintro (rfl | rfl | rfl | rfl | rfl | rfl | rfl | rfl | rfl | rfl | rfl | rfl | rfl | rfl) <;> first | (exfalso; revert h; decide) | decide

end Go.Proofs.YtnbpdffdnphbeaaGreat
