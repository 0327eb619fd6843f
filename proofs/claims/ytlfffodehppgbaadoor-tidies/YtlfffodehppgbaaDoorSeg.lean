/- What outside, glued and when of the document's answer give of tokens that lie in memory. -/
import Derived.Test.YtlfffodehppgbaaDoorForm
import Derived.Test.YtlfffodehppgbaaDoorLex2
namespace Go.Proofs.YtlfffodehppgbaaDoor
open Go.RowKit

set_option maxHeartbeats 1000000 in
theorem outside_any (ts : Toks) (word : Bs) (g o cap : Nat) (w : World) (hs : SegR w g o ts) (hn : ts.length ≤ 10000) (_hc : ts.length ≤ cap) :
    Calls Tryd.prog 40 #[.slice (some ⟨g, o, none⟩) ts.length cap, .string ⟨word.toArray⟩] w fun e w' => e = .returned (.int .i64 (outB ts word)) ∧ w' = w := by
  have HS : Hid (SegR w g o ts) := hs
  clear hs
  go_enter Tryd.func40, Tryd.ntmps40
  go_wp2
  go_loop [5, 6, 7] (fun ov av iv => ∃ (i : Nat) (op at' : Int), i ≤ ts.length ∧ ov = .int .i64 op ∧ av = .int .i64 at' ∧ iv = .int .i64 i ∧ -(i : Int) ≤ op ∧ op ≤ i ∧ Hid (outG word (ts.drop i) i op at' = outB ts word)) (fun _ _ iv => ts.length - (intOf iv).toNat)
  case atStart => exact ⟨0, 0, -1, Nat.zero_le _, rfl, rfl, rfl, by omega, by omega, rfl⟩
  case round =>
    obtain ⟨i, op, at', hi, rfl, rfl, rfl, ho1, ho2, HI⟩ := hrel
    by_cases hlt : i < ts.length
    · obtain ⟨_, _, hc2⟩ := HS.out i hlt
      have HD : Hid (ts.drop i = ts.getD i (0, []) :: ts.drop (i + 1)) := drop_consT ts i hlt
      obtain ⟨cl, hcl⟩ : ∃ cl, clsB (ts.getD i (0, [])).2 = cl := ⟨_, rfl⟩
      rw [hcl] at hc2
      have HI2 : Hid (outG word (ts.drop (i + 1)) (i + 1) (opn cl op) (if opn cl op = 0 ∧ cl = word then (i : Int) else at') = outB ts word) := by
        have := HI.out; rw [HD.out, outG, hcl] at this; exact this
      clear HI HD hcl
      by_cases k1 : cl = kOpen
      · have k2 : True := trivial
        have hop : opn cl op = op + 1 := by simp [opn, k1]
        have b1 : (cl == [40]) = true := by rw [k1]; rfl
        have b2 : (cl == [41]) = false := by rw [k1]; rfl
        by_cases hz : op + 1 = 0
        · have c0 : (op + 1 == 0) = true := by simpa using hz
          by_cases hw : cl = word
          · have c1 : (cl == word) = true := by simpa using hw
            have HE : Hid (outG word (ts.drop (i + 1)) (i + 1) (op + 1) (i : Int) = outB ts word) := by have := HI2.out; rw [hop, if_pos ⟨hz, hw⟩] at this; exact this
            clear HI2 hop hz hw k1 k2
            go_wp2
            all_goals
              go_round
              case rel => exact ⟨i + 1, op + 1, i, by omega, by first | rfl | go_num, rfl, by go_num, by omega, by omega, HE.out⟩
              case measure => simp [intOf]; omega
          · have c1 : (cl == word) = false := by simpa using hw
            have HE : Hid (outG word (ts.drop (i + 1)) (i + 1) (op + 1) at' = outB ts word) := by have := HI2.out; rw [hop, if_neg (fun h => hw h.2)] at this; exact this
            clear HI2 hop hz hw k1 k2
            go_wp2
            all_goals
              go_round
              case rel => exact ⟨i + 1, op + 1, at', by omega, by first | rfl | go_num, rfl, by go_num, by omega, by omega, HE.out⟩
              case measure => simp [intOf]; omega
        · have c0 : (op + 1 == 0) = false := by simpa using hz
          have HE : Hid (outG word (ts.drop (i + 1)) (i + 1) (op + 1) at' = outB ts word) := by have := HI2.out; rw [hop, if_neg (fun h => hz h.1)] at this; exact this
          clear HI2 hop hz k1 k2
          go_wp2
          all_goals
            go_round
            case rel => exact ⟨i + 1, op + 1, at', by omega, by first | rfl | go_num, rfl, by go_num, by omega, by omega, HE.out⟩
            case measure => simp [intOf]; omega
      by_cases k2 : cl = kShut
      · have hop : opn cl op = op - 1 := by simp [opn, k2, kOpen, kShut]
        have b1 : (cl == [40]) = false := by rw [k2]; rfl
        have b2 : (cl == [41]) = true := by rw [k2]; rfl
        by_cases hz : op - 1 = 0
        · have c0 : (op - 1 == 0) = true := by simpa using hz
          by_cases hw : cl = word
          · have c1 : (cl == word) = true := by simpa using hw
            have HE : Hid (outG word (ts.drop (i + 1)) (i + 1) (op - 1) (i : Int) = outB ts word) := by have := HI2.out; rw [hop, if_pos ⟨hz, hw⟩] at this; exact this
            clear HI2 hop hz hw k1 k2
            go_wp2
            all_goals
              go_round
              case rel => exact ⟨i + 1, op - 1, i, by omega, by first | rfl | go_num, rfl, by go_num, by omega, by omega, HE.out⟩
              case measure => simp [intOf]; omega
          · have c1 : (cl == word) = false := by simpa using hw
            have HE : Hid (outG word (ts.drop (i + 1)) (i + 1) (op - 1) at' = outB ts word) := by have := HI2.out; rw [hop, if_neg (fun h => hw h.2)] at this; exact this
            clear HI2 hop hz hw k1 k2
            go_wp2
            all_goals
              go_round
              case rel => exact ⟨i + 1, op - 1, at', by omega, by first | rfl | go_num, rfl, by go_num, by omega, by omega, HE.out⟩
              case measure => simp [intOf]; omega
        · have c0 : (op - 1 == 0) = false := by simpa using hz
          have HE : Hid (outG word (ts.drop (i + 1)) (i + 1) (op - 1) at' = outB ts word) := by have := HI2.out; rw [hop, if_neg (fun h => hz h.1)] at this; exact this
          clear HI2 hop hz k1 k2
          go_wp2
          all_goals
            go_round
            case rel => exact ⟨i + 1, op - 1, at', by omega, by first | rfl | go_num, rfl, by go_num, by omega, by omega, HE.out⟩
            case measure => simp [intOf]; omega
      have hop : opn cl op = op := by simp [opn, k1, k2]
      have b1 : (cl == [40]) = false := by simpa [kOpen] using k1
      have b2 : (cl == [41]) = false := by simpa [kShut] using k2
      by_cases hz : op = 0
      · have c0 : (op == 0) = true := by simpa using hz
        by_cases hw : cl = word
        · have c1 : (cl == word) = true := by simpa using hw
          have HE : Hid (outG word (ts.drop (i + 1)) (i + 1) (op) (i : Int) = outB ts word) := by have := HI2.out; rw [hop, if_pos ⟨hz, hw⟩] at this; exact this
          clear HI2 hop hz hw k1 k2
          go_wp2
          all_goals
            go_round
            case rel => exact ⟨i + 1, op, i, by omega, by first | rfl | go_num, rfl, by go_num, by omega, by omega, HE.out⟩
            case measure => simp [intOf]; omega
        · have c1 : (cl == word) = false := by simpa using hw
          have HE : Hid (outG word (ts.drop (i + 1)) (i + 1) (op) at' = outB ts word) := by have := HI2.out; rw [hop, if_neg (fun h => hw h.2)] at this; exact this
          clear HI2 hop hz hw k1 k2
          go_wp2
          all_goals
            go_round
            case rel => exact ⟨i + 1, op, at', by omega, by first | rfl | go_num, rfl, by go_num, by omega, by omega, HE.out⟩
            case measure => simp [intOf]; omega
      · have c0 : (op == 0) = false := by simpa using hz
        have HE : Hid (outG word (ts.drop (i + 1)) (i + 1) (op) at' = outB ts word) := by have := HI2.out; rw [hop, if_neg (fun h => hz h.1)] at this; exact this
        clear HI2 hop hz k1 k2
        go_wp2
        all_goals
          go_round
          case rel => exact ⟨i + 1, op, at', by omega, by first | rfl | go_num, rfl, by go_num, by omega, by omega, HE.out⟩
          case measure => simp [intOf]; omega
    · have hd : ts.drop i = [] := List.drop_eq_nil_of_le (by omega)
      have HE : Hid (outB ts word = at') := by have := HI.out; rw [hd, outG] at this; exact this.symm
      clear hd HI
      go_wp2
      go_ret; exact ⟨ret_int HE.out.symm, rfl⟩

theorem cat_mk (a b : Bs) : (ByteArray.mk a.toArray) ++ (ByteArray.mk b.toArray) = ⟨(a ++ b).toArray⟩ := by
  apply ByteArray.ext
  simp

set_option maxHeartbeats 1000000 in
theorem glued_any (ts : Toks) (g o cap : Nat) (w : World) (hs : SegR w g o ts) (hn : szT ts ≤ 10000) (_hc : ts.length ≤ cap) :
    Calls Tryd.prog 18 #[.slice (some ⟨g, o, none⟩) ts.length cap] w fun e w' => e = .returned (.string ⟨(gluedB ts).toArray⟩) ∧ w' = w := by
  have HS : Hid (SegR w g o ts) := hs
  have hlen := szT_len ts
  clear hs
  go_enter Tryd.func18, Tryd.ntmps18
  go_wp2
  go_loop [3, 4] (fun sv iv => ∃ (i : Nat) (s : Bs), i ≤ ts.length ∧ sv = .string ⟨s.toArray⟩ ∧ iv = .int .i64 i ∧ s.length + szT (ts.drop i) ≤ szT ts ∧ Hid (gluF s i (ts.drop i) = gluedB ts)) (fun _ iv => ts.length - (intOf iv).toNat)
  case atStart => exact ⟨0, [], Nat.zero_le _, rfl, rfl, by simp, rfl⟩
  case round =>
    obtain ⟨i, s, hi, rfl, rfl, hsl, HI⟩ := hrel
    by_cases hlt : i < ts.length
    · obtain ⟨hc0, _, _⟩ := HS.out i hlt
      have HD : Hid (ts.drop i = ts.getD i (0, []) :: ts.drop (i + 1)) := drop_consT ts i hlt
      obtain ⟨x, hx⟩ : ∃ x, ts.getD i (0, []) = x := ⟨_, rfl⟩
      rw [hx] at hc0 HD
      rw [HD.out, szT] at hsl
      have HI2 : Hid (gluF ((if 0 < i then s ++ [32] else s) ++ x.2) (i + 1) (ts.drop (i + 1)) = gluedB ts) := by
        have := HI.out; rw [HD.out, gluF] at this; exact this
      obtain ⟨y, hy⟩ : ∃ y, x.2 = y := ⟨_, rfl⟩
      rw [hy] at hc0 HI2 hsl
      obtain ⟨m, hm⟩ : ∃ m, szT (ts.drop (i + 1)) = m := ⟨_, rfl⟩
      have HM : Hid (szT (ts.drop (i + 1)) = m) := hm
      rw [hm] at hsl
      clear HI HD hx hy hm
      by_cases h0 : 0 < i
      · have HE : Hid (gluF ((s ++ [32]) ++ y) (i + 1) (ts.drop (i + 1)) = gluedB ts) := by have := HI2.out; rw [if_pos h0] at this; exact this
        clear HI2
        go_wp2
        go_round
        case rel => exact ⟨i + 1, (s ++ [32]) ++ y, by omega, by rw [← cat_mk, ← cat_mk], by go_num, by rw [HM.out]; simp; omega, HE.out⟩
        case measure => simp [intOf]; omega
      · have HE : Hid (gluF (s ++ y) (i + 1) (ts.drop (i + 1)) = gluedB ts) := by have := HI2.out; rw [if_neg h0] at this; exact this
        clear HI2
        go_wp2
        go_round
        case rel => exact ⟨i + 1, s ++ y, by omega, by rw [← cat_mk], by go_num, by rw [HM.out]; simp; omega, HE.out⟩
        case measure => simp [intOf]; omega
    · have hd : ts.drop i = [] := List.drop_eq_nil_of_le (by omega)
      have HE : Hid (gluedB ts = s) := by have := HI.out; rw [hd, gluF] at this; exact this.symm
      clear hd HI
      go_wp2
      go_ret; exact ⟨ret_str HE.out.symm, rfl⟩

set_option maxHeartbeats 1000000 in
theorem when_any (ts : Toks) (g o cap : Nat) (w : World) (hs : SegR w g o ts) (hn : ts.length ≤ 10000) (_hc : ts.length ≤ cap) :
    Calls Tryd.prog 19 #[.slice (some ⟨g, o, none⟩) ts.length cap] w fun e w' => e = .returned (.int .i64 (whenB ts)) ∧ w' = w := by
  have HS : Hid (SegR w g o ts) := hs
  clear hs
  go_enter Tryd.func19, Tryd.ntmps19
  go_wp2
  go_loop [3] (fun iv => ∃ i : Nat, i ≤ ts.length ∧ iv = .int .i64 i ∧ Hid (whenG (ts.drop i) i = whenG ts 0)) (fun iv => ts.length - (intOf iv).toNat)
  case atStart => exact ⟨0, Nat.zero_le _, rfl, rfl⟩
  case round =>
    obtain ⟨i, hi, rfl, HI⟩ := hrel
    by_cases hlt : i < ts.length
    · obtain ⟨_, _, hc2⟩ := HS.out i hlt
      have HD : Hid (ts.drop i = ts.getD i (0, []) :: ts.drop (i + 1)) := drop_consT ts i hlt
      obtain ⟨cl, hcl⟩ : ∃ cl, clsB (ts.getD i (0, [])).2 = cl := ⟨_, rfl⟩
      rw [hcl] at hc2
      have HI2 : Hid ((if cl = kWhen then some i else whenG (ts.drop (i + 1)) (i + 1)) = whenG ts 0) := by have := HI.out; rw [HD.out, whenG, hcl] at this; exact this
      clear HI HD hcl
      by_cases k1 : cl = kWhen
      · have HE : Hid (whenB ts = i) := by have := HI2.out; rw [if_pos k1] at this; unfold Hid whenB; rw [← this]
        have b1 : (cl == [119, 104, 101, 110]) = true := by rw [k1]; rfl
        clear HI2 k1
        go_wp2
        go_ret; exact ⟨ret_int HE.out.symm, rfl⟩
      · have HE : Hid (whenG (ts.drop (i + 1)) (i + 1) = whenG ts 0) := by have := HI2.out; rw [if_neg k1] at this; exact this
        have b1 : (cl == [119, 104, 101, 110]) = false := by simpa [kWhen] using k1
        clear HI2 k1
        go_wp2
        go_round
        case rel => exact ⟨i + 1, by omega, by go_num, HE.out⟩
        case measure => simp [intOf]; omega
    · have hd : ts.drop i = [] := List.drop_eq_nil_of_le (by omega)
      have HE : Hid (whenB ts = (ts.length : Int) - 1) := by have := HI.out; rw [hd, whenG] at this; unfold Hid whenB; rw [← this]
      clear hd HI
      go_wp2
      go_ret; exact ⟨ret_int HE.out.symm, rfl⟩
end Go.Proofs.YtlfffodehppgbaaDoor
