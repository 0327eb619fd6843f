/- Plain functions: the tokens as the program lays them. -/
import Derived.Test.YtnbpdffdnphbeaaGreatDoorLex4
import Derived.WalkKit
import Derived.Test.YtnbpdffdnphbeaaGreatDoorLex
import Derived.Test.YtnbpdffdnphbeaaGreatDoorTokens
namespace Go.Proofs.YtnbpdffdnphbeaaGreatDoor
open Go

def keptL : List Bs := [[110, 117, 109], [102, 108, 97, 103], [114, 117, 108, 101], [111, 118, 101, 114], [119, 104, 101, 110], [111, 114], [97, 110, 100], [110, 111, 116], [104, 97, 115], [97, 108, 119, 97, 121, 115]]
def markL : List Bs := [[58], [61], [46, 46], [59], [40], [41], [60], [60, 61], [33, 61], [62, 61], [62], [43], [45], [42]]
def isKeptB (s : Bs) : Bool := keptL.contains s
def isMarkB (s : Bs) : Bool := markL.contains s

def valF : Int → Bs → Int
  | a, [] => a
  | a, c :: r => valF (10 * a + ((c.toNat : Int) - 48)) r

/-- The kinds of the program's tokens: 1 bad, 2 a name, 3 a number, 4 a kept word or a mark. -/
def pkind (s : Bs) : Int :=
  if so (s.getD 0 0) = 1 then (if 8 < s.length then 1 else if isKeptB s = true then 4 else 2)
  else if so (s.getD 0 0) = 2 then (if 4 < s.length ∨ 1 < s.length ∧ s.getD 0 0 = 48 then 1 else 3)
  else if isMarkB s = true then 4 else 1

def pval (s : Bs) : Int := if pkind s = 3 then valF 0 s else 0

/-- The cells of a token, as the program lays it. -/
def ptok (t : Nat × Bs) : List Value := [.int .i64 (pkind t.2), .string ⟨t.2.toArray⟩, .int .i64 (pval t.2), .int .i64 t.1]
def endTok (len : Nat) : List Value := [.int .i64 0, .string ⟨#[]⟩, .int .i64 0, .int .i64 len]
def flatP (ts : Toks) : List Value := ts.flatMap ptok

theorem flatP_snoc (ts : Toks) (t : Nat × Bs) : flatP (ts ++ [t]) = flatP ts ++ ptok t := by simp [flatP]

end Go.Proofs.YtnbpdffdnphbeaaGreatDoor

/- What isKept, isMark and value of the program answer. -/
namespace Go.Proofs.YtnbpdffdnphbeaaGreatDoor
open Go.RowKit

theorem hideP2 {p : Prop} (h : p) : Hid p := h

theorem so_digit {c : UInt8} (h : so c = 2) : (48 : Int) ≤ (c.toNat : Int) ∧ (c.toNat : Int) ≤ 57 := by
  unfold so sortI at h
  split at h
  · omega
  · split at h
    · assumption
    · split at h <;> omega

set_option maxHeartbeats 1000000 in
theorem isKept_any (s : Bs) (w : World) :
    Calls Tryz.prog 243 #[.string ⟨s.toArray⟩] w fun e w' => e = .returned (.bool (isKeptB s)) ∧ w' = w := by
  by_cases c0 : s = [110, 117, 109]
  · subst c0
    have HF : Hid (isKeptB [110, 117, 109] = true) := by unfold Hid; decide
    go_enter Tryz.func243, Tryz.ntmps243
    go_wp2
    go_ret; exact ⟨ret_bool HF.out.symm, rfl⟩
  by_cases c1 : s = [102, 108, 97, 103]
  · subst c1
    have HF : Hid (isKeptB [102, 108, 97, 103] = true) := by unfold Hid; decide
    go_enter Tryz.func243, Tryz.ntmps243
    go_wp2
    go_ret; exact ⟨ret_bool HF.out.symm, rfl⟩
  by_cases c2 : s = [114, 117, 108, 101]
  · subst c2
    have HF : Hid (isKeptB [114, 117, 108, 101] = true) := by unfold Hid; decide
    go_enter Tryz.func243, Tryz.ntmps243
    go_wp2
    go_ret; exact ⟨ret_bool HF.out.symm, rfl⟩
  by_cases c3 : s = [111, 118, 101, 114]
  · subst c3
    have HF : Hid (isKeptB [111, 118, 101, 114] = true) := by unfold Hid; decide
    go_enter Tryz.func243, Tryz.ntmps243
    go_wp2
    go_ret; exact ⟨ret_bool HF.out.symm, rfl⟩
  by_cases c4 : s = [119, 104, 101, 110]
  · subst c4
    have HF : Hid (isKeptB [119, 104, 101, 110] = true) := by unfold Hid; decide
    go_enter Tryz.func243, Tryz.ntmps243
    go_wp2
    go_ret; exact ⟨ret_bool HF.out.symm, rfl⟩
  by_cases c5 : s = [111, 114]
  · subst c5
    have HF : Hid (isKeptB [111, 114] = true) := by unfold Hid; decide
    go_enter Tryz.func243, Tryz.ntmps243
    go_wp2
    go_ret; exact ⟨ret_bool HF.out.symm, rfl⟩
  by_cases c6 : s = [97, 110, 100]
  · subst c6
    have HF : Hid (isKeptB [97, 110, 100] = true) := by unfold Hid; decide
    go_enter Tryz.func243, Tryz.ntmps243
    go_wp2
    go_ret; exact ⟨ret_bool HF.out.symm, rfl⟩
  by_cases c7 : s = [110, 111, 116]
  · subst c7
    have HF : Hid (isKeptB [110, 111, 116] = true) := by unfold Hid; decide
    go_enter Tryz.func243, Tryz.ntmps243
    go_wp2
    go_ret; exact ⟨ret_bool HF.out.symm, rfl⟩
  by_cases c8 : s = [104, 97, 115]
  · subst c8
    have HF : Hid (isKeptB [104, 97, 115] = true) := by unfold Hid; decide
    go_enter Tryz.func243, Tryz.ntmps243
    go_wp2
    go_ret; exact ⟨ret_bool HF.out.symm, rfl⟩
  by_cases c9 : s = [97, 108, 119, 97, 121, 115]
  · subst c9
    have HF : Hid (isKeptB [97, 108, 119, 97, 121, 115] = true) := by unfold Hid; decide
    go_enter Tryz.func243, Tryz.ntmps243
    go_wp2
    go_ret; exact ⟨ret_bool HF.out.symm, rfl⟩
  have HF : Hid (isKeptB s = false) := by simp [Hid, isKeptB, keptL, c0, c1, c2, c3, c4, c5, c6, c7, c8, c9]
  have b0 : (s == [110, 117, 109]) = false := by simpa using c0
  have b1 : (s == [102, 108, 97, 103]) = false := by simpa using c1
  have b2 : (s == [114, 117, 108, 101]) = false := by simpa using c2
  have b3 : (s == [111, 118, 101, 114]) = false := by simpa using c3
  have b4 : (s == [119, 104, 101, 110]) = false := by simpa using c4
  have b5 : (s == [111, 114]) = false := by simpa using c5
  have b6 : (s == [97, 110, 100]) = false := by simpa using c6
  have b7 : (s == [110, 111, 116]) = false := by simpa using c7
  have b8 : (s == [104, 97, 115]) = false := by simpa using c8
  have b9 : (s == [97, 108, 119, 97, 121, 115]) = false := by simpa using c9
  clear c0 c1 c2 c3 c4 c5 c6 c7 c8 c9
  go_enter Tryz.func243, Tryz.ntmps243
  go_wp2
  go_ret; exact ⟨ret_bool HF.out.symm, rfl⟩

set_option maxHeartbeats 1000000 in
theorem isMark_any (s : Bs) (w : World) :
    Calls Tryz.prog 245 #[.string ⟨s.toArray⟩] w fun e w' => e = .returned (.bool (isMarkB s)) ∧ w' = w := by
  by_cases c0 : s = [58]
  · subst c0
    have HF : Hid (isMarkB [58] = true) := by unfold Hid; decide
    go_enter Tryz.func245, Tryz.ntmps245
    go_wp2
    go_ret; exact ⟨ret_bool HF.out.symm, rfl⟩
  by_cases c1 : s = [61]
  · subst c1
    have HF : Hid (isMarkB [61] = true) := by unfold Hid; decide
    go_enter Tryz.func245, Tryz.ntmps245
    go_wp2
    go_ret; exact ⟨ret_bool HF.out.symm, rfl⟩
  by_cases c2 : s = [46, 46]
  · subst c2
    have HF : Hid (isMarkB [46, 46] = true) := by unfold Hid; decide
    go_enter Tryz.func245, Tryz.ntmps245
    go_wp2
    go_ret; exact ⟨ret_bool HF.out.symm, rfl⟩
  by_cases c3 : s = [59]
  · subst c3
    have HF : Hid (isMarkB [59] = true) := by unfold Hid; decide
    go_enter Tryz.func245, Tryz.ntmps245
    go_wp2
    go_ret; exact ⟨ret_bool HF.out.symm, rfl⟩
  by_cases c4 : s = [40]
  · subst c4
    have HF : Hid (isMarkB [40] = true) := by unfold Hid; decide
    go_enter Tryz.func245, Tryz.ntmps245
    go_wp2
    go_ret; exact ⟨ret_bool HF.out.symm, rfl⟩
  by_cases c5 : s = [41]
  · subst c5
    have HF : Hid (isMarkB [41] = true) := by unfold Hid; decide
    go_enter Tryz.func245, Tryz.ntmps245
    go_wp2
    go_ret; exact ⟨ret_bool HF.out.symm, rfl⟩
  by_cases c6 : s = [60]
  · subst c6
    have HF : Hid (isMarkB [60] = true) := by unfold Hid; decide
    go_enter Tryz.func245, Tryz.ntmps245
    go_wp2
    go_ret; exact ⟨ret_bool HF.out.symm, rfl⟩
  by_cases c7 : s = [60, 61]
  · subst c7
    have HF : Hid (isMarkB [60, 61] = true) := by unfold Hid; decide
    go_enter Tryz.func245, Tryz.ntmps245
    go_wp2
    go_ret; exact ⟨ret_bool HF.out.symm, rfl⟩
  by_cases c8 : s = [33, 61]
  · subst c8
    have HF : Hid (isMarkB [33, 61] = true) := by unfold Hid; decide
    go_enter Tryz.func245, Tryz.ntmps245
    go_wp2
    go_ret; exact ⟨ret_bool HF.out.symm, rfl⟩
  by_cases c9 : s = [62, 61]
  · subst c9
    have HF : Hid (isMarkB [62, 61] = true) := by unfold Hid; decide
    go_enter Tryz.func245, Tryz.ntmps245
    go_wp2
    go_ret; exact ⟨ret_bool HF.out.symm, rfl⟩
  by_cases c10 : s = [62]
  · subst c10
    have HF : Hid (isMarkB [62] = true) := by unfold Hid; decide
    go_enter Tryz.func245, Tryz.ntmps245
    go_wp2
    go_ret; exact ⟨ret_bool HF.out.symm, rfl⟩
  by_cases c11 : s = [43]
  · subst c11
    have HF : Hid (isMarkB [43] = true) := by unfold Hid; decide
    go_enter Tryz.func245, Tryz.ntmps245
    go_wp2
    go_ret; exact ⟨ret_bool HF.out.symm, rfl⟩
  by_cases c12 : s = [45]
  · subst c12
    have HF : Hid (isMarkB [45] = true) := by unfold Hid; decide
    go_enter Tryz.func245, Tryz.ntmps245
    go_wp2
    go_ret; exact ⟨ret_bool HF.out.symm, rfl⟩
  by_cases c13 : s = [42]
  · subst c13
    have HF : Hid (isMarkB [42] = true) := by unfold Hid; decide
    go_enter Tryz.func245, Tryz.ntmps245
    go_wp2
    go_ret; exact ⟨ret_bool HF.out.symm, rfl⟩
  have HF : Hid (isMarkB s = false) := by simp [Hid, isMarkB, markL, c0, c1, c2, c3, c4, c5, c6, c7, c8, c9, c10, c11, c12, c13]
  have b0 : (s == [58]) = false := by simpa using c0
  have b1 : (s == [61]) = false := by simpa using c1
  have b2 : (s == [46, 46]) = false := by simpa using c2
  have b3 : (s == [59]) = false := by simpa using c3
  have b4 : (s == [40]) = false := by simpa using c4
  have b5 : (s == [41]) = false := by simpa using c5
  have b6 : (s == [60]) = false := by simpa using c6
  have b7 : (s == [60, 61]) = false := by simpa using c7
  have b8 : (s == [33, 61]) = false := by simpa using c8
  have b9 : (s == [62, 61]) = false := by simpa using c9
  have b10 : (s == [62]) = false := by simpa using c10
  have b11 : (s == [43]) = false := by simpa using c11
  have b12 : (s == [45]) = false := by simpa using c12
  have b13 : (s == [42]) = false := by simpa using c13
  clear c0 c1 c2 c3 c4 c5 c6 c7 c8 c9 c10 c11 c12 c13
  go_enter Tryz.func245, Tryz.ntmps245
  go_wp2
  go_ret; exact ⟨ret_bool HF.out.symm, rfl⟩

set_option maxHeartbeats 1000000 in
theorem value_any (s : Bs) (w : World) (hs : s.length ≤ 4) (hd : ∀ i, i < s.length → so (s.getD i 0) = 2) :
    Calls Tryz.prog 244 #[.string ⟨s.toArray⟩] w fun e w' => e = .returned (.int .i64 (valF 0 s)) ∧ w' = w := by
  have HD := hideP2 hd
  clear hd
  go_enter Tryz.func244, Tryz.ntmps244
  go_wp2
  go_loop [3, 4] (fun sv iv => ∃ (i : Nat) (a : Int), i ≤ s.length ∧ sv = .int .i64 a ∧ iv = .int .i64 i ∧ 0 ≤ a ∧ (i ≤ 0 → a ≤ 0) ∧ (i ≤ 1 → a ≤ 9) ∧ (i ≤ 2 → a ≤ 99) ∧ (i ≤ 3 → a ≤ 999) ∧ a ≤ 9999 ∧ Hid (valF a (s.drop i) = valF 0 s)) (fun _ iv => s.length - (intOf iv).toNat)
  case atStart => exact ⟨0, 0, Nat.zero_le _, rfl, rfl, by omega, by omega, by omega, by omega, by omega, by omega, rfl⟩
  case round =>
    obtain ⟨i, a, hi, rfl, rfl, ha0, k0, k1, k2, k3, k4, HI⟩ := hrel
    by_cases hlt : i < s.length
    · have hd := HD.out i hlt
      have hx := idx_int s i
      have hdc : s.drop i = s.getD i 0 :: s.drop (i + 1) := drop_cons s i hlt
      have HI2 : Hid (valF (10 * a + (((s.getD i 0).toNat : Int) - 48)) (s.drop (i + 1)) = valF 0 s) := by have := HI.out; rw [hdc, valF] at this; exact this
      have hc : (48 : Int) ≤ ((s.getD i 0).toNat : Int) ∧ ((s.getD i 0).toNat : Int) ≤ 57 := so_digit hd
      generalize ((s.getD i 0).toNat : Int) = c at *
      obtain ⟨hc1, hc2⟩ := hc
      clear hd hdc HI HD
      have k5 : a ≤ 999 := by omega
      go_wp2
      go_round
      case rel => exact ⟨i + 1, 10 * a + (c - 48), by omega, rfl, by go_num, by omega, by omega, by omega, by omega, by omega, by omega, HI2.out⟩
      case measure => simp [intOf]; omega
    · have hd : s.drop i = [] := List.drop_eq_nil_of_le (by omega)
      have HE : Hid (valF 0 s = a) := by have := HI.out; rw [hd, valF] at this; exact this.symm
      clear hd HI HD
      go_wp2
      go_ret; exact ⟨ret_int HE.out.symm, rfl⟩
end Go.Proofs.YtnbpdffdnphbeaaGreatDoor

/- What word, number, mark and tokenAt of the program give: the token at a place. -/
namespace Go.Proofs.YtnbpdffdnphbeaaGreatDoor
open Go.RowKit

/-- The token of a text at a place, as a value. -/
def tokV (k : Int) (t : Bs) (v : Int) (p : Nat) : Value := .agg #[.int .i64 k, .string ⟨t.toArray⟩, .int .i64 v, .int .i64 p]

theorem isLetter_is (c : Int) (b : Bool) (h : letterI c = b) (w : World) :
    Calls Tryz.prog 206 #[.int .u8 c] w fun e w' => e = .returned (.bool b) ∧ w' = w := by subst h; exact isLetter_any c w
theorem isDigit_is (c : Int) (b : Bool) (h : digitI c = b) (w : World) :
    Calls Tryz.prog 208 #[.int .u8 c] w fun e w' => e = .returned (.bool b) ∧ w' = w := by subst h; exact isDigit_any c w
theorem isKept_is (s : Bs) (b : Bool) (h : isKeptB s = b) (w : World) :
    Calls Tryz.prog 243 #[.string ⟨s.toArray⟩] w fun e w' => e = .returned (.bool b) ∧ w' = w := by subst h; exact isKept_any s w
theorem isMark_is (s : Bs) (b : Bool) (h : isMarkB s = b) (w : World) :
    Calls Tryz.prog 245 #[.string ⟨s.toArray⟩] w fun e w' => e = .returned (.bool b) ∧ w' = w := by subst h; exact isMark_any s w

theorem letter_so (c : UInt8) : letterI (c.toNat : Int) = decide (so c = 1) := by
  unfold letterI so sortI
  by_cases h : (97 : Int) ≤ c.toNat ∧ (c.toNat : Int) ≤ 122
  · rw [if_pos h]; simp [h]
  · rw [if_neg h]
    have : ¬ (if (48 : Int) ≤ c.toNat ∧ (c.toNat : Int) ≤ 57 then (2 : Int) else if (c.toNat : Int) = 32 ∨ (c.toNat : Int) = 10 then 3 else 0) = 1 := by split <;> (try split) <;> decide
    simp only [this, decide_false, Bool.and_eq_false_iff, decide_eq_false_iff_not]; omega
theorem digit_so (c : UInt8) : digitI (c.toNat : Int) = decide (so c = 2) := by
  unfold digitI so sortI
  by_cases h : (48 : Int) ≤ c.toNat ∧ (c.toNat : Int) ≤ 57
  · rw [if_neg (by omega), if_pos h]; simp [h]
  · rw [if_neg h]
    have : ¬ (if (97 : Int) ≤ c.toNat ∧ (c.toNat : Int) ≤ 122 then (1 : Int) else if (c.toNat : Int) = 32 ∨ (c.toNat : Int) = 10 then 3 else 0) = 2 := by split <;> (try split) <;> decide
    simp only [this, decide_false, Bool.and_eq_false_iff, decide_eq_false_iff_not]; omega
theorem at_letter {l : Bs} {b : Bool} {i : Nat} (h : decide (so (l.getD i 0) = 1) = b) : ∀ h : i < (ByteArray.mk l.toArray).size, letterI (((ByteArray.mk l.toArray)[i]'h).toNat : Int) = b := by
  intro h0; rw [idx_mk, letter_so, h]
theorem at_digit {l : Bs} {b : Bool} {i : Nat} (h : decide (so (l.getD i 0) = 2) = b) : ∀ h : i < (ByteArray.mk l.toArray).size, digitI (((ByteArray.mk l.toArray)[i]'h).toNat : Int) = b := by
  intro h0; rw [idx_mk, digit_so, h]

set_option maxHeartbeats 1000000 in
theorem word_any (l : Bs) (p : Nat) (w : World) (hl : l.length ≤ 4000) (hp : p < l.length) (hk : so (l.getD p 0) = 1) :
    Calls Tryz.prog 207 #[.string ⟨l.toArray⟩, .int .i64 p] w fun e w' => e = .returned (tokV (pkind ((l.drop p).take (lenB (l.drop p)))) ((l.drop p).take (lenB (l.drop p))) (pval ((l.drop p).take (lenB (l.drop p)))) p) ∧ Below w.heap.size w w' := by
  have hn : lenB (l.drop p) = 1 + runL 1 ((l.drop p).drop 1) := by unfold lenB; rw [getD_drop, Nat.add_zero, if_neg (by omega), hk]
  rw [List.drop_drop] at hn
  have HN := hideP2 hn
  have hh : ∀ n, 1 ≤ n → ((l.drop p).take n).getD 0 0 = l.getD p 0 := by
    intro n hn1; simp only [List.getD, List.getElem?_take, List.getElem?_drop, Nat.add_zero]; rw [if_pos (by omega)]
  have HH := hideP2 hh
  clear hn hh
  go_enter Tryz.func207, Tryz.ntmps207
  go_wp2_with fail
  go_loop [5] (fun nv => ∃ i : Nat, p + 1 ≤ i ∧ i ≤ l.length ∧ nv = .int .i64 i ∧ Hid (i + runL 1 (l.drop i) = p + 1 + runL 1 (l.drop (p + 1)))) (fun nv => l.length - (intOf nv).toNat)
  case atStart => exact ⟨p + 1, Nat.le_refl _, by omega, by go_num, rfl⟩
  case round =>
    obtain ⟨i, h1, hi, rfl, HI⟩ := hrel
    by_cases hgo : i < l.length ∧ so (l.getD i 0) = 1
    · obtain ⟨hlt, hq⟩ := hgo
      have HQ := hideP2 (at_letter (b := true) (by rw [hq]; rfl) : ∀ h : i < (ByteArray.mk l.toArray).size, letterI (((ByteArray.mk l.toArray)[i]'h).toNat : Int) = true)
      have HI2 : Hid (i + 1 + runL 1 (l.drop (i + 1)) = p + 1 + runL 1 (l.drop (p + 1))) := by have := HI.out; rw [runL_on hlt hq] at this; exact this
      clear hq HI
      go_wp2_with (go_at_call 206; refine (isLetter_is _ true (HQ.out _) _).mono ?_; rintro e w' ⟨rfl, hw⟩; obtain rfl := hw.symm)
      go_round
      case rel => exact ⟨i + 1, by omega, by omega, by go_num, HI2.out⟩
      case measure => simp [intOf]; omega
    · have hstop : i + runL 1 (l.drop i) = i := by
        by_cases hlt : i < l.length
        · exact runL_off hlt (fun h => hgo ⟨hlt, h⟩)
        · exact runL_end hlt
      have hni : lenB (l.drop p) = i - p := by have h2 := HI.out; have h3 := HN.out; omega
      obtain ⟨t, ht⟩ : ∃ t, (l.drop p).take (i - p) = t := ⟨_, rfl⟩
      have hx1 : (ByteArray.mk l.toArray).extract p i = ⟨t.toArray⟩ := by rw [ByteArray.extract_mk, ← ht]
      have htn : t.length = i - p := by rw [← ht, List.length_take, List.length_drop]; omega
      have hth : so (t.getD 0 0) = 1 := by rw [← ht, HH.out (i - p) (by omega)]; exact hk
      have HT : Hid ((l.drop p).take (lenB (l.drop p)) = t) := by unfold Hid; rw [hni]; exact ht
      have HV : Hid (pval t = 0) := by unfold Hid pval; rw [if_neg]; unfold pkind; rw [if_pos hth]; split <;> (try split) <;> decide
      have HK : Hid (pkind t = if 8 < t.length then 1 else if isKeptB t = true then 4 else 2) := by unfold Hid pkind; rw [if_pos hth]
      clear hni HN HH ht hth hstop HI hk
      by_cases hlt : i < l.length
      · have hq : ¬ so (l.getD i 0) = 1 := fun h => hgo ⟨hlt, h⟩
        have HQ := hideP2 (at_letter (b := false) (by simp only [hq, decide_false]) : ∀ h : i < (ByteArray.mk l.toArray).size, letterI (((ByteArray.mk l.toArray)[i]'h).toNat : Int) = false)
        clear hq hgo
        by_cases h8 : 8 < t.length
        · have HK2 : Hid (pkind t = 1) := by unfold Hid; rw [HK.out, if_pos h8]
          go_wp2_with (go_at_call 206; refine (isLetter_is _ false (HQ.out _) _).mono ?_; rintro e w' ⟨rfl, hw⟩; obtain rfl := hw.symm)
          refine bodyPost_ret (v := tokV 1 t 0 p) (by simp [results, Tryz.results207, go_sem, tokV]) rfl ⟨?_, ?_⟩
          · rw [HT.out, HV.out, HK2.out]
          · exact (Below.refl _ _).alloc (Nat.le_refl _) _
        · cases hkp : isKeptB t
          · have HKe := hideP2 hkp
            have HK2 : Hid (pkind t = 2) := by unfold Hid; rw [HK.out, if_neg h8, if_neg (by simp [hkp])]
            clear hkp
            go_wp2_with (first | (go_at_call 206; refine (isLetter_is _ false (HQ.out _) _).mono ?_; rintro e w' ⟨rfl, hw⟩; obtain rfl := hw.symm) | (go_at_call 243; refine (isKept_is t false HKe.out _).mono ?_; rintro e w' ⟨rfl, hw⟩; obtain rfl := hw.symm))
            refine bodyPost_ret (v := tokV 2 t 0 p) (by simp [results, Tryz.results207, go_sem, tokV]) rfl ⟨?_, ?_⟩
            · rw [HT.out, HV.out, HK2.out]
            · exact (Below.refl _ _).alloc (Nat.le_refl _) _
          · have HKe := hideP2 hkp
            have HK2 : Hid (pkind t = 4) := by unfold Hid; rw [HK.out, if_neg h8, if_pos hkp]
            clear hkp
            go_wp2_with (first | (go_at_call 206; refine (isLetter_is _ false (HQ.out _) _).mono ?_; rintro e w' ⟨rfl, hw⟩; obtain rfl := hw.symm) | (go_at_call 243; refine (isKept_is t true HKe.out _).mono ?_; rintro e w' ⟨rfl, hw⟩; obtain rfl := hw.symm))
            refine bodyPost_ret (v := tokV 4 t 0 p) (by simp [results, Tryz.results207, go_sem, tokV]) rfl ⟨?_, ?_⟩
            · rw [HT.out, HV.out, HK2.out]
            · exact (Below.refl _ _).alloc (Nat.le_refl _) _
      · clear hgo
        by_cases h8 : 8 < t.length
        · have HK2 : Hid (pkind t = 1) := by unfold Hid; rw [HK.out, if_pos h8]
          go_wp2_with (fail)
          refine bodyPost_ret (v := tokV 1 t 0 p) (by simp [results, Tryz.results207, go_sem, tokV]) rfl ⟨?_, ?_⟩
          · rw [HT.out, HV.out, HK2.out]
          · exact (Below.refl _ _).alloc (Nat.le_refl _) _
        · cases hkp : isKeptB t
          · have HKe := hideP2 hkp
            have HK2 : Hid (pkind t = 2) := by unfold Hid; rw [HK.out, if_neg h8, if_neg (by simp [hkp])]
            clear hkp
            go_wp2_with (go_at_call 243; refine (isKept_is t false HKe.out _).mono ?_; rintro e w' ⟨rfl, hw⟩; obtain rfl := hw.symm)
            refine bodyPost_ret (v := tokV 2 t 0 p) (by simp [results, Tryz.results207, go_sem, tokV]) rfl ⟨?_, ?_⟩
            · rw [HT.out, HV.out, HK2.out]
            · exact (Below.refl _ _).alloc (Nat.le_refl _) _
          · have HKe := hideP2 hkp
            have HK2 : Hid (pkind t = 4) := by unfold Hid; rw [HK.out, if_neg h8, if_pos hkp]
            clear hkp
            go_wp2_with (go_at_call 243; refine (isKept_is t true HKe.out _).mono ?_; rintro e w' ⟨rfl, hw⟩; obtain rfl := hw.symm)
            refine bodyPost_ret (v := tokV 4 t 0 p) (by simp [results, Tryz.results207, go_sem, tokV]) rfl ⟨?_, ?_⟩
            · rw [HT.out, HV.out, HK2.out]
            · exact (Below.refl _ _).alloc (Nat.le_refl _) _


theorem runL_all (k : Int) (l : Bs) : ∀ j, j < runL k l → so (l.getD j 0) = k := by
  induction l with
  | nil => intro j h; simp [runL] at h
  | cons c r ih =>
    intro j h
    rw [runL] at h
    split at h
    · rename_i hc
      cases j with
      | zero => simpa using hc
      | succ j => simpa using ih j (by omega)
    · omega

set_option maxHeartbeats 1000000 in
theorem number_any (l : Bs) (p : Nat) (w : World) (hl : l.length ≤ 4000) (hp : p < l.length) (hk : so (l.getD p 0) = 2) :
    Calls Tryz.prog 209 #[.string ⟨l.toArray⟩, .int .i64 p] w fun e w' => e = .returned (tokV (pkind ((l.drop p).take (lenB (l.drop p)))) ((l.drop p).take (lenB (l.drop p))) (pval ((l.drop p).take (lenB (l.drop p)))) p) ∧ Below w.heap.size w w' := by
  have hn : lenB (l.drop p) = 1 + runL 2 ((l.drop p).drop 1) := by unfold lenB; rw [getD_drop, Nat.add_zero, if_neg (by omega), hk]
  rw [List.drop_drop] at hn
  have hall : ∀ j, j < lenB (l.drop p) → so (((l.drop p).take (lenB (l.drop p))).getD j 0) = 2 := by
    intro j hj
    have e : ((l.drop p).take (lenB (l.drop p))).getD j 0 = l.getD (p + j) 0 := by
      simp only [List.getD, List.getElem?_take, List.getElem?_drop]; rw [if_pos hj]
    rw [e]
    cases j with
    | zero => exact hk
    | succ j =>
      have := runL_all 2 (l.drop (p + 1)) j (by omega)
      rw [getD_drop] at this; rw [show p + (j + 1) = p + 1 + j by omega]; exact this
  have HA := hideP2 hall
  have HN := hideP2 hn
  have hh : ∀ n, 1 ≤ n → ((l.drop p).take n).getD 0 0 = l.getD p 0 := by
    intro n hn1; simp only [List.getD, List.getElem?_take, List.getElem?_drop, Nat.add_zero]; rw [if_pos (by omega)]
  have HH := hideP2 hh
  clear hn hh hall
  go_enter Tryz.func209, Tryz.ntmps209
  go_wp2_with fail
  go_loop [5] (fun nv => ∃ i : Nat, p + 1 ≤ i ∧ i ≤ l.length ∧ nv = .int .i64 i ∧ Hid (i + runL 2 (l.drop i) = p + 1 + runL 2 (l.drop (p + 1)))) (fun nv => l.length - (intOf nv).toNat)
  case atStart => exact ⟨p + 1, Nat.le_refl _, by omega, by go_num, rfl⟩
  case round =>
    obtain ⟨i, h1, hi, rfl, HI⟩ := hrel
    by_cases hgo : i < l.length ∧ so (l.getD i 0) = 2
    · obtain ⟨hlt, hq⟩ := hgo
      have HQ := hideP2 (at_digit (b := true) (by rw [hq]; rfl) : ∀ h : i < (ByteArray.mk l.toArray).size, digitI (((ByteArray.mk l.toArray)[i]'h).toNat : Int) = true)
      have HI2 : Hid (i + 1 + runL 2 (l.drop (i + 1)) = p + 1 + runL 2 (l.drop (p + 1))) := by have := HI.out; rw [runL_on hlt hq] at this; exact this
      clear hq HI
      go_wp2_with (go_at_call 208; refine (isDigit_is _ true (HQ.out _) _).mono ?_; rintro e w' ⟨rfl, hw⟩; obtain rfl := hw.symm)
      go_round
      case rel => exact ⟨i + 1, by omega, by omega, by go_num, HI2.out⟩
      case measure => simp [intOf]; omega
    · have hstop : i + runL 2 (l.drop i) = i := by
        by_cases hlt : i < l.length
        · exact runL_off hlt (fun h => hgo ⟨hlt, h⟩)
        · exact runL_end hlt
      have hni : lenB (l.drop p) = i - p := by have h2 := HI.out; have h3 := HN.out; omega
      obtain ⟨t, ht⟩ : ∃ t, (l.drop p).take (i - p) = t := ⟨_, rfl⟩
      have hx1 : (ByteArray.mk l.toArray).extract p i = ⟨t.toArray⟩ := by rw [ByteArray.extract_mk, ← ht]
      have htn : t.length = i - p := by rw [← ht, List.length_take, List.length_drop]; omega
      have HH2 : Hid (t.getD 0 0 = l.getD p 0) := by rw [← ht]; exact HH.out (i - p) (by omega)
      have hth : so (t.getD 0 0) = 2 := by rw [HH2.out]; exact hk
      have HT : Hid ((l.drop p).take (lenB (l.drop p)) = t) := by unfold Hid; rw [hni]; exact ht
      have HAll : Hid (∀ j, j < t.length → so (t.getD j 0) = 2) := by
        have h2 := HA.out; rw [HT.out, hni, ← htn] at h2; exact h2
      have HK : Hid (pkind t = if 4 < t.length ∨ 1 < t.length ∧ t.getD 0 0 = 48 then 1 else 3) := by unfold Hid pkind; rw [if_neg (by omega), if_pos hth]
      clear hni HN HH ht hth hstop HI hk HA
      by_cases hlt : i < l.length
      · have hq : ¬ so (l.getD i 0) = 2 := fun h => hgo ⟨hlt, h⟩
        have HQ := hideP2 (at_digit (b := false) (by simp only [hq, decide_false]) : ∀ h : i < (ByteArray.mk l.toArray).size, digitI (((ByteArray.mk l.toArray)[i]'h).toNat : Int) = false)
        clear hq hgo
        by_cases h4 : 4 < t.length
        · have HK2 : Hid (pkind t = 1) := by unfold Hid; rw [HK.out, if_pos (.inl h4)]
          have HV : Hid (pval t = 0) := by unfold Hid pval; rw [HK2.out, if_neg (by decide)]
          go_wp2_with (go_at_call 208; refine (isDigit_is _ false (HQ.out _) _).mono ?_; rintro e w' ⟨rfl, hw⟩; obtain rfl := hw.symm)
          refine bodyPost_ret (v := tokV 1 t 0 p) (by simp [results, Tryz.results209, go_sem, tokV]) rfl ⟨?_, ?_⟩
          · rw [HT.out, HV.out, HK2.out]
          · exact (Below.refl _ _).alloc (Nat.le_refl _) _
        · by_cases h1' : 1 < t.length
          · by_cases hz : l.getD p 0 = 48
            · have HK2 : Hid (pkind t = 1) := by unfold Hid; rw [HK.out, if_pos (.inr ⟨h1', by rw [HH2.out]; exact hz⟩)]
              have HV : Hid (pval t = 0) := by unfold Hid pval; rw [HK2.out, if_neg (by decide)]
              have hc : ∀ h, (((ByteArray.mk l.toArray)[p]'h).toNat : Int) = 48 := by intro h; rw [idx_int, hz]; rfl
              clear hz
              go_wp2_with (go_at_call 208; refine (isDigit_is _ false (HQ.out _) _).mono ?_; rintro e w' ⟨rfl, hw⟩; obtain rfl := hw.symm)
              refine bodyPost_ret (v := tokV 1 t 0 p) (by simp [results, Tryz.results209, go_sem, tokV]) rfl ⟨?_, ?_⟩
              · rw [HT.out, HV.out, HK2.out]
              · exact (Below.refl _ _).alloc (Nat.le_refl _) _
            · have HK2 : Hid (pkind t = 3) := by unfold Hid; rw [HK.out, if_neg (by intro hh; rcases hh with hh | hh; exact h4 hh; rw [HH2.out] at hh; exact hz hh.2)]
              have HV : Hid (pval t = valF 0 t) := by unfold Hid pval; rw [HK2.out, if_pos rfl]
              have hc : ∀ h, ((((ByteArray.mk l.toArray)[p]'h).toNat : Int) == 48) = false := by
                intro h; rw [Bool.eq_false_iff]; intro hh; apply hz; rw [idx_int] at hh; exact (byte_eq _ 48).1 hh
              clear hz
              go_wp2_with (first | (go_at_call 208; refine (isDigit_is _ false (HQ.out _) _).mono ?_; rintro e w' ⟨rfl, hw⟩; obtain rfl := hw.symm) | (go_at_call 244; refine (value_any t _ (by omega) HAll.out).mono ?_; rintro e w' ⟨rfl, hw⟩; obtain rfl := hw.symm))
              refine bodyPost_ret (v := tokV 3 t (valF 0 t) p) (by simp [results, Tryz.results209, go_sem, tokV]) rfl ⟨?_, ?_⟩
              · rw [HT.out, HV.out, HK2.out]
              · exact (Below.refl _ _).alloc (Nat.le_refl _) _
          · have HK2 : Hid (pkind t = 3) := by unfold Hid; rw [HK.out, if_neg (by intro hh; rcases hh with hh | hh; exact h4 hh; exact h1' hh.1)]
            have HV : Hid (pval t = valF 0 t) := by unfold Hid pval; rw [HK2.out, if_pos rfl]
            go_wp2_with (first | (go_at_call 208; refine (isDigit_is _ false (HQ.out _) _).mono ?_; rintro e w' ⟨rfl, hw⟩; obtain rfl := hw.symm) | (go_at_call 244; refine (value_any t _ (by omega) HAll.out).mono ?_; rintro e w' ⟨rfl, hw⟩; obtain rfl := hw.symm))
            refine bodyPost_ret (v := tokV 3 t (valF 0 t) p) (by simp [results, Tryz.results209, go_sem, tokV]) rfl ⟨?_, ?_⟩
            · rw [HT.out, HV.out, HK2.out]
            · exact (Below.refl _ _).alloc (Nat.le_refl _) _
      · clear hgo
        by_cases h4 : 4 < t.length
        · have HK2 : Hid (pkind t = 1) := by unfold Hid; rw [HK.out, if_pos (.inl h4)]
          have HV : Hid (pval t = 0) := by unfold Hid pval; rw [HK2.out, if_neg (by decide)]
          go_wp2_with (fail)
          refine bodyPost_ret (v := tokV 1 t 0 p) (by simp [results, Tryz.results209, go_sem, tokV]) rfl ⟨?_, ?_⟩
          · rw [HT.out, HV.out, HK2.out]
          · exact (Below.refl _ _).alloc (Nat.le_refl _) _
        · by_cases h1' : 1 < t.length
          · by_cases hz : l.getD p 0 = 48
            · have HK2 : Hid (pkind t = 1) := by unfold Hid; rw [HK.out, if_pos (.inr ⟨h1', by rw [HH2.out]; exact hz⟩)]
              have HV : Hid (pval t = 0) := by unfold Hid pval; rw [HK2.out, if_neg (by decide)]
              have hc : ∀ h, (((ByteArray.mk l.toArray)[p]'h).toNat : Int) = 48 := by intro h; rw [idx_int, hz]; rfl
              clear hz
              go_wp2_with (fail)
              refine bodyPost_ret (v := tokV 1 t 0 p) (by simp [results, Tryz.results209, go_sem, tokV]) rfl ⟨?_, ?_⟩
              · rw [HT.out, HV.out, HK2.out]
              · exact (Below.refl _ _).alloc (Nat.le_refl _) _
            · have HK2 : Hid (pkind t = 3) := by unfold Hid; rw [HK.out, if_neg (by intro hh; rcases hh with hh | hh; exact h4 hh; rw [HH2.out] at hh; exact hz hh.2)]
              have HV : Hid (pval t = valF 0 t) := by unfold Hid pval; rw [HK2.out, if_pos rfl]
              have hc : ∀ h, ((((ByteArray.mk l.toArray)[p]'h).toNat : Int) == 48) = false := by
                intro h; rw [Bool.eq_false_iff]; intro hh; apply hz; rw [idx_int] at hh; exact (byte_eq _ 48).1 hh
              clear hz
              go_wp2_with (go_at_call 244; refine (value_any t _ (by omega) HAll.out).mono ?_; rintro e w' ⟨rfl, hw⟩; obtain rfl := hw.symm)
              refine bodyPost_ret (v := tokV 3 t (valF 0 t) p) (by simp [results, Tryz.results209, go_sem, tokV]) rfl ⟨?_, ?_⟩
              · rw [HT.out, HV.out, HK2.out]
              · exact (Below.refl _ _).alloc (Nat.le_refl _) _
          · have HK2 : Hid (pkind t = 3) := by unfold Hid; rw [HK.out, if_neg (by intro hh; rcases hh with hh | hh; exact h4 hh; exact h1' hh.1)]
            have HV : Hid (pval t = valF 0 t) := by unfold Hid pval; rw [HK2.out, if_pos rfl]
            go_wp2_with (go_at_call 244; refine (value_any t _ (by omega) HAll.out).mono ?_; rintro e w' ⟨rfl, hw⟩; obtain rfl := hw.symm)
            refine bodyPost_ret (v := tokV 3 t (valF 0 t) p) (by simp [results, Tryz.results209, go_sem, tokV]) rfl ⟨?_, ?_⟩
            · rw [HT.out, HV.out, HK2.out]
            · exact (Below.refl _ _).alloc (Nat.le_refl _) _

end Go.Proofs.YtnbpdffdnphbeaaGreatDoor
