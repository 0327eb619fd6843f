/- What isKept, isMark and value of the program answer. -/
import Derived.Test.YtnbpdffdnphbeaaGreatPWalk
import Derived.Deep.AppendLies
namespace Go.Proofs.YtnbpdffdnphbeaaGreat
open Go.RowKit

theorem hideP2 {p : Prop} (h : p) : Hid p := h

theorem so_digit {c : UInt8} (h : so c = 2) : (48 : Int) ≤ (c.toNat : Int) ∧ (c.toNat : Int) ≤ 57 := by
  unfold so sortI at h
  split at h
  · omega
  · split at h
    · assumption
    · split at h <;> omega

set_option maxHeartbeats 1000000 in
theorem isKept_any (s : Bs) (w : World) :
    Calls Tryz.prog 93 #[.string ⟨s.toArray⟩] w fun e w' => e = .returned (.bool (isKeptB s)) ∧ w' = w := by
  by_cases c0 : s = [110, 117, 109]
  · subst c0
    have HF : Hid (isKeptB [110, 117, 109] = true) := by unfold Hid; decide
    go_enter Tryz.func93, Tryz.ntmps93
    go_wp2
    go_ret; exact ⟨ret_bool HF.out.symm, rfl⟩
  by_cases c1 : s = [102, 108, 97, 103]
  · subst c1
    have HF : Hid (isKeptB [102, 108, 97, 103] = true) := by unfold Hid; decide
    go_enter Tryz.func93, Tryz.ntmps93
    go_wp2
    go_ret; exact ⟨ret_bool HF.out.symm, rfl⟩
  by_cases c2 : s = [114, 117, 108, 101]
  · subst c2
    have HF : Hid (isKeptB [114, 117, 108, 101] = true) := by unfold Hid; decide
    go_enter Tryz.func93, Tryz.ntmps93
    go_wp2
    go_ret; exact ⟨ret_bool HF.out.symm, rfl⟩
  by_cases c3 : s = [111, 118, 101, 114]
  · subst c3
    have HF : Hid (isKeptB [111, 118, 101, 114] = true) := by unfold Hid; decide
    go_enter Tryz.func93, Tryz.ntmps93
    go_wp2
    go_ret; exact ⟨ret_bool HF.out.symm, rfl⟩
  by_cases c4 : s = [119, 104, 101, 110]
  · subst c4
    have HF : Hid (isKeptB [119, 104, 101, 110] = true) := by unfold Hid; decide
    go_enter Tryz.func93, Tryz.ntmps93
    go_wp2
    go_ret; exact ⟨ret_bool HF.out.symm, rfl⟩
  by_cases c5 : s = [111, 114]
  · subst c5
    have HF : Hid (isKeptB [111, 114] = true) := by unfold Hid; decide
    go_enter Tryz.func93, Tryz.ntmps93
    go_wp2
    go_ret; exact ⟨ret_bool HF.out.symm, rfl⟩
  by_cases c6 : s = [97, 110, 100]
  · subst c6
    have HF : Hid (isKeptB [97, 110, 100] = true) := by unfold Hid; decide
    go_enter Tryz.func93, Tryz.ntmps93
    go_wp2
    go_ret; exact ⟨ret_bool HF.out.symm, rfl⟩
  by_cases c7 : s = [110, 111, 116]
  · subst c7
    have HF : Hid (isKeptB [110, 111, 116] = true) := by unfold Hid; decide
    go_enter Tryz.func93, Tryz.ntmps93
    go_wp2
    go_ret; exact ⟨ret_bool HF.out.symm, rfl⟩
  by_cases c8 : s = [104, 97, 115]
  · subst c8
    have HF : Hid (isKeptB [104, 97, 115] = true) := by unfold Hid; decide
    go_enter Tryz.func93, Tryz.ntmps93
    go_wp2
    go_ret; exact ⟨ret_bool HF.out.symm, rfl⟩
  by_cases c9 : s = [97, 108, 119, 97, 121, 115]
  · subst c9
    have HF : Hid (isKeptB [97, 108, 119, 97, 121, 115] = true) := by unfold Hid; decide
    go_enter Tryz.func93, Tryz.ntmps93
    go_wp2
    go_ret; exact ⟨ret_bool HF.out.symm, rfl⟩
  have HF : Hid (isKeptB s = false) := by simp [Hid, isKeptB, keptL, c0, c1, c2, c3, c4, c5, c6, c7, c8, c9]
  have b0 : (s == [110, 117, 109]) = false := by simpa using c0
  have b1 : (s == [102, 108, 97, 103]) = false := by simpa using c1
  have b2 : (s == [114, 117, 108, 101]) = false := by simpa using c2
  have b3 : (s == [111, 118, 101, 114]) = false := by simpa using c3
  have b4 : (s == [119, 104, 101, 110]) = false := by simpa using c4
  have b5 : (s == [111, 114]) = false := by simpa using c5
  have b6 : (s == [97, 110, 100]) = false := by simpa using c6
  have b7 : (s == [110, 111, 116]) = false := by simpa using c7
  have b8 : (s == [104, 97, 115]) = false := by simpa using c8
  have b9 : (s == [97, 108, 119, 97, 121, 115]) = false := by simpa using c9
  clear c0 c1 c2 c3 c4 c5 c6 c7 c8 c9
  go_enter Tryz.func93, Tryz.ntmps93
  go_wp2
  go_ret; exact ⟨ret_bool HF.out.symm, rfl⟩

set_option maxHeartbeats 1000000 in
theorem isMark_any (s : Bs) (w : World) :
    Calls Tryz.prog 95 #[.string ⟨s.toArray⟩] w fun e w' => e = .returned (.bool (isMarkB s)) ∧ w' = w := by
  by_cases c0 : s = [58]
  · subst c0
    have HF : Hid (isMarkB [58] = true) := by unfold Hid; decide
    go_enter Tryz.func95, Tryz.ntmps95
    go_wp2
    go_ret; exact ⟨ret_bool HF.out.symm, rfl⟩
  by_cases c1 : s = [61]
  · subst c1
    have HF : Hid (isMarkB [61] = true) := by unfold Hid; decide
    go_enter Tryz.func95, Tryz.ntmps95
    go_wp2
    go_ret; exact ⟨ret_bool HF.out.symm, rfl⟩
  by_cases c2 : s = [46, 46]
  · subst c2
    have HF : Hid (isMarkB [46, 46] = true) := by unfold Hid; decide
    go_enter Tryz.func95, Tryz.ntmps95
    go_wp2
    go_ret; exact ⟨ret_bool HF.out.symm, rfl⟩
  by_cases c3 : s = [59]
  · subst c3
    have HF : Hid (isMarkB [59] = true) := by unfold Hid; decide
    go_enter Tryz.func95, Tryz.ntmps95
    go_wp2
    go_ret; exact ⟨ret_bool HF.out.symm, rfl⟩
  by_cases c4 : s = [40]
  · subst c4
    have HF : Hid (isMarkB [40] = true) := by unfold Hid; decide
    go_enter Tryz.func95, Tryz.ntmps95
    go_wp2
    go_ret; exact ⟨ret_bool HF.out.symm, rfl⟩
  by_cases c5 : s = [41]
  · subst c5
    have HF : Hid (isMarkB [41] = true) := by unfold Hid; decide
    go_enter Tryz.func95, Tryz.ntmps95
    go_wp2
    go_ret; exact ⟨ret_bool HF.out.symm, rfl⟩
  by_cases c6 : s = [60]
  · subst c6
    have HF : Hid (isMarkB [60] = true) := by unfold Hid; decide
    go_enter Tryz.func95, Tryz.ntmps95
    go_wp2
    go_ret; exact ⟨ret_bool HF.out.symm, rfl⟩
  by_cases c7 : s = [60, 61]
  · subst c7
    have HF : Hid (isMarkB [60, 61] = true) := by unfold Hid; decide
    go_enter Tryz.func95, Tryz.ntmps95
    go_wp2
    go_ret; exact ⟨ret_bool HF.out.symm, rfl⟩
  by_cases c8 : s = [33, 61]
  · subst c8
    have HF : Hid (isMarkB [33, 61] = true) := by unfold Hid; decide
    go_enter Tryz.func95, Tryz.ntmps95
    go_wp2
    go_ret; exact ⟨ret_bool HF.out.symm, rfl⟩
  by_cases c9 : s = [62, 61]
  · subst c9
    have HF : Hid (isMarkB [62, 61] = true) := by unfold Hid; decide
    go_enter Tryz.func95, Tryz.ntmps95
    go_wp2
    go_ret; exact ⟨ret_bool HF.out.symm, rfl⟩
  by_cases c10 : s = [62]
  · subst c10
    have HF : Hid (isMarkB [62] = true) := by unfold Hid; decide
    go_enter Tryz.func95, Tryz.ntmps95
    go_wp2
    go_ret; exact ⟨ret_bool HF.out.symm, rfl⟩
  by_cases c11 : s = [43]
  · subst c11
    have HF : Hid (isMarkB [43] = true) := by unfold Hid; decide
    go_enter Tryz.func95, Tryz.ntmps95
    go_wp2
    go_ret; exact ⟨ret_bool HF.out.symm, rfl⟩
  by_cases c12 : s = [45]
  · subst c12
    have HF : Hid (isMarkB [45] = true) := by unfold Hid; decide
    go_enter Tryz.func95, Tryz.ntmps95
    go_wp2
    go_ret; exact ⟨ret_bool HF.out.symm, rfl⟩
  by_cases c13 : s = [42]
  · subst c13
    have HF : Hid (isMarkB [42] = true) := by unfold Hid; decide
    go_enter Tryz.func95, Tryz.ntmps95
    go_wp2
    go_ret; exact ⟨ret_bool HF.out.symm, rfl⟩
  have HF : Hid (isMarkB s = false) := by simp [Hid, isMarkB, markL, c0, c1, c2, c3, c4, c5, c6, c7, c8, c9, c10, c11, c12, c13]
  have b0 : (s == [58]) = false := by simpa using c0
  have b1 : (s == [61]) = false := by simpa using c1
  have b2 : (s == [46, 46]) = false := by simpa using c2
  have b3 : (s == [59]) = false := by simpa using c3
  have b4 : (s == [40]) = false := by simpa using c4
  have b5 : (s == [41]) = false := by simpa using c5
  have b6 : (s == [60]) = false := by simpa using c6
  have b7 : (s == [60, 61]) = false := by simpa using c7
  have b8 : (s == [33, 61]) = false := by simpa using c8
  have b9 : (s == [62, 61]) = false := by simpa using c9
  have b10 : (s == [62]) = false := by simpa using c10
  have b11 : (s == [43]) = false := by simpa using c11
  have b12 : (s == [45]) = false := by simpa using c12
  have b13 : (s == [42]) = false := by simpa using c13
  clear c0 c1 c2 c3 c4 c5 c6 c7 c8 c9 c10 c11 c12 c13
  go_enter Tryz.func95, Tryz.ntmps95
  go_wp2
  go_ret; exact ⟨ret_bool HF.out.symm, rfl⟩

set_option maxHeartbeats 1000000 in
theorem value_any (s : Bs) (w : World) (hs : s.length ≤ 4) (hd : ∀ i, i < s.length → so (s.getD i 0) = 2) :
    Calls Tryz.prog 94 #[.string ⟨s.toArray⟩] w fun e w' => e = .returned (.int .i64 (valF 0 s)) ∧ w' = w := by
  have HD := hideP2 hd
  clear hd
  go_enter Tryz.func94, Tryz.ntmps94
  go_wp2
  go_loop [3, 4] (fun sv iv => ∃ (i : Nat) (a : Int), i ≤ s.length ∧ sv = .int .i64 a ∧ iv = .int .i64 i ∧ 0 ≤ a ∧ (i ≤ 0 → a ≤ 0) ∧ (i ≤ 1 → a ≤ 9) ∧ (i ≤ 2 → a ≤ 99) ∧ (i ≤ 3 → a ≤ 999) ∧ a ≤ 9999 ∧ Hid (valF a (s.drop i) = valF 0 s)) (fun _ iv => s.length - (intOf iv).toNat)
  case atStart => exact ⟨0, 0, Nat.zero_le _, rfl, rfl, by omega, by omega, by omega, by omega, by omega, by omega, rfl⟩
  case round =>
    obtain ⟨i, a, hi, rfl, rfl, ha0, k0, k1, k2, k3, k4, HI⟩ := hrel
    by_cases hlt : i < s.length
    · have hd := HD.out i hlt
      have hx := idx_int s i
      have hdc : s.drop i = s.getD i 0 :: s.drop (i + 1) := drop_cons s i hlt
      have HI2 : Hid (valF (10 * a + (((s.getD i 0).toNat : Int) - 48)) (s.drop (i + 1)) = valF 0 s) := by have := HI.out; rw [hdc, valF] at this; exact this
      have hc : (48 : Int) ≤ ((s.getD i 0).toNat : Int) ∧ ((s.getD i 0).toNat : Int) ≤ 57 := so_digit hd
      generalize ((s.getD i 0).toNat : Int) = c at *
      obtain ⟨hc1, hc2⟩ := hc
      clear hd hdc HI HD
      have k5 : a ≤ 999 := by omega
      go_wp2
      go_round
      case rel => exact ⟨i + 1, 10 * a + (c - 48), by omega, rfl, by go_num, by omega, by omega, by omega, by omega, by omega, by omega, HI2.out⟩
      case measure => simp [intOf]; omega
    · have hd : s.drop i = [] := List.drop_eq_nil_of_le (by omega)
      have HE : Hid (valF 0 s = a) := by have := HI.out; rw [hd, valF] at this; exact this.symm
      clear hd HI HD
      go_wp2
      go_ret; exact ⟨ret_int HE.out.symm, rfl⟩
end Go.Proofs.YtnbpdffdnphbeaaGreat

/- What class of the document's answer gives of a token: its class. -/
namespace Go.Proofs.YtnbpdffdnphbeaaGreat
open Go.RowKit

theorem ret_str {a b : Bs} (h : a = b) : Ending.returned (.string ⟨a.toArray⟩) = .returned (.string ⟨b.toArray⟩) := by rw [h]

theorem head_eq {l : Bs} {c : UInt8} (h : l.getD 0 0 = c) : ∀ h : 0 < l.length, (((l[0]'h).toNat : Int)) = (c.toNat : Int) := by
  intro h0; rw [← h]; simp [List.getD, h0]

end Go.Proofs.YtnbpdffdnphbeaaGreat

/- What Tokens of the document's answer gives of a text of at most 4000 bytes: its tokens, in a row of its own. -/
namespace Go.Proofs.YtnbpdffdnphbeaaGreat
open Go.RowKit

/-- The cells of a token, as the document's answer lays it. -/
def rtok (t : Nat × Bs) : List Value := [.string ⟨t.2.toArray⟩, .int .i64 t.1, .string ⟨(clsB t.2).toArray⟩]
def flatR (ts : List (Nat × Bs)) : List Value := ts.flatMap rtok

theorem flatR_len (ts : List (Nat × Bs)) : (flatR ts).length = ts.length * 3 := by
  induction ts with
  | nil => rfl
  | cons t r ih => simp [flatR, rtok] at ih ⊢; omega
theorem flatR_snoc (ts : List (Nat × Bs)) (t : Nat × Bs) : flatR (ts ++ [t]) = flatR ts ++ rtok t := by simp [flatR]

theorem ext_end (l : Bs) (p : Nat) : (ByteArray.mk l.toArray).extract p l.length = ⟨(l.drop p).toArray⟩ := by
  rw [ByteArray.extract_mk, List.take_of_length_le (by simp)]

theorem news_cells (w : World) (cs : Array Value) (T : TypeId) (l : List Value) (h : cs.toList = l) :
    ∀ j u, l[j]? = some u → (w.alloc (.cells cs T)).cell? ((⟨w.heap.size, 0, none⟩ : Addr).add j) = some u := by
  subst h
  exact World.news_of_block (heap_alloc_new w _)

end Go.Proofs.YtnbpdffdnphbeaaGreat
