/- What tidied of the document's answer gives of the tokens of a guard: the text and its kind. -/
import Derived.Test.YtnbpdffdnphbeaaGreatDoorForm
namespace Go.Proofs.YtnbpdffdnphbeaaGreatDoor
open Go.RowKit

theorem hideP {p : Prop} (h : p) : Hid p := h

theorem SegR.drop {w : World} {g o : Nat} {ts : Toks} (h : SegR w g o ts) (k : Nat) : SegR w g (o + k * 3) (ts.drop k) := by
  intro i hi
  have hi' : k + i < ts.length := by rw [List.length_drop] at hi; omega
  obtain ⟨a, b, c⟩ := h (k + i) hi'
  have e : (ts.drop k).getD i (0, []) = ts.getD (k + i) (0, []) := by simp [List.getD]
  rw [e, show o + k * 3 + i * 3 = o + (k + i) * 3 by omega]
  exact ⟨a, b, c⟩
theorem SegR.take {w : World} {g o : Nat} {ts : Toks} (h : SegR w g o ts) (k : Nat) : SegR w g o (ts.take k) := by
  intro i hi
  rw [List.length_take] at hi
  obtain ⟨a, b, c⟩ := h i (by omega)
  have e : (ts.take k).getD i (0, []) = ts.getD i (0, []) := by simp only [List.getD, List.getElem?_take]; rw [if_pos (by omega)]
  rw [e]
  exact ⟨a, b, c⟩

theorem ret_pair {a b : ByteArray} {x y : Int} (h : a = b) (k : x = y) : Ending.returned (.tuple #[.string a, .int .i64 x]) = .returned (.tuple #[.string b, .int .i64 y]) := by rw [h, k]

def TidSaid (n : Nat) : Prop := ∀ (ts : Toks) (g o cap : Nat) (w : World), SegR w g o ts → szT ts ≤ 10000 → ts.length ≤ cap → cap ≤ maxLen → goodT n ts = true →
    Calls Tryz.prog 141 #[.slice (some ⟨g, o, none⟩) ts.length cap] w fun e w' => e = .returned (.tuple #[.string ⟨(tidG n ts).1.toArray⟩, .int .i64 (tidG n ts).2]) ∧ w' = w

set_option maxHeartbeats 1000000 in
theorem tidied_or (n : Nat) (ih : TidSaid n) (ts : Toks) (g o cap : Nat) (w : World) (hs : SegR w g o ts) (hsz : szT ts ≤ 10000) (hc : ts.length ≤ cap) (hm : cap ≤ maxLen) (hg : goodT (n + 1) ts = true) (ho : 0 ≤ outB ts kOr) :
    Calls Tryz.prog 141 #[.slice (some ⟨g, o, none⟩) ts.length cap] w fun e w' => e = .returned (.tuple #[.string ⟨(tidG (n + 1) ts).1.toArray⟩, .int .i64 (tidG (n + 1) ts).2]) ∧ w' = w := by
  obtain ⟨k, hk⟩ := Int.eq_ofNat_of_zero_le ho
  have hb := outB_bound ts kOr
  have hlen := szT_len ts
  rw [goodT, if_pos ho, hk, Int.toNat_natCast, Bool.and_eq_true] at hg
  have hd := goodT_pos hg.2
  rw [List.length_drop] at hd
  have HA := ih (ts.take k) g o cap w (hs.take k) (Nat.le_trans (szT_take_le ts k) hsz) (by rw [List.length_take]; omega) hm hg.1
  have HB := ih (ts.drop (k + 1)) g (o + (k + 1) * 3) (cap - (k + 1)) w (hs.drop (k + 1)) (Nat.le_trans (szT_drop_le ts (k + 1)) hsz) (by rw [List.length_drop]; omega) (by omega) hg.2
  have la := tidG_len n (ts.take k)
  have lb := tidG_len n (ts.drop (k + 1))
  have l1 := szT_take_le ts k
  have l2 := szT_drop_le ts (k + 1)
  have HR : Hid (tidG (n + 1) ts = ((tidG n (ts.take k)).1 ++ [32, 111, 114, 32] ++ (tidG n (ts.drop (k + 1))).1, 2)) := by
    unfold Hid; rw [tidG, if_pos ho, hk, Int.toNat_natCast]
  rw [List.length_take, Nat.min_eq_left (by omega)] at HA
  rw [List.length_drop] at HB
  generalize tidG n (ts.take k) = a at *
  generalize tidG n (ts.drop (k + 1)) = b at *
  obtain ⟨a1, a2⟩ := a
  obtain ⟨b1, b2⟩ := b
  have ka : a1.length ≤ 160000 := by simp at la; omega
  have kb : b1.length ≤ 160000 := by simp at lb; omega
  simp only at HA HB HR
  have HA' := hideP HA
  have HB' := hideP HB
  have HO : Hid (outB ts kOr = k) := hk
  have hk2 : k + 1 < ts.length := by omega
  have HS : Hid (SegR w g o ts) := hs
  clear HA HB hg hs la lb l1 l2 hb hk ho ih hd
  go_enter Tryz.func141, Tryz.ntmps141
  go_wp2_with fail
  refine (outside_any ts kOr g o cap _ HS.out (by omega) hc).mono ?_
  rintro e w' ⟨rfl, hw⟩; obtain rfl := hw.symm; rw [HO.out]
  go_wp2_with fail
  refine HA'.out.mono ?_
  rintro e w' ⟨rfl, hw⟩; obtain rfl := hw.symm
  go_wp2_with fail
  refine HB'.out.mono ?_
  rintro e w' ⟨rfl, hw⟩; obtain rfl := hw.symm
  go_wp2_with fail
  go_ret2
  exact ⟨ret_pair (by rw [HR.out, ← cat_mk, ← cat_mk]) (by rw [HR.out]), rfl⟩
set_option maxHeartbeats 1000000 in
theorem tidied_and (n : Nat) (ih : TidSaid n) (ts : Toks) (g o cap : Nat) (w : World) (hs : SegR w g o ts) (hsz : szT ts ≤ 10000) (hc : ts.length ≤ cap) (hm : cap ≤ maxLen) (hg : goodT (n + 1) ts = true) (hor : ¬ 0 ≤ outB ts kOr) (ho : 0 ≤ outB ts kAnd) :
    Calls Tryz.prog 141 #[.slice (some ⟨g, o, none⟩) ts.length cap] w fun e w' => e = .returned (.tuple #[.string ⟨(tidG (n + 1) ts).1.toArray⟩, .int .i64 (tidG (n + 1) ts).2]) ∧ w' = w := by
  obtain ⟨k, hk⟩ := Int.eq_ofNat_of_zero_le ho
  have hbo := outB_bound ts kOr
  have hor1 : outB ts kOr = -1 := by omega
  have hb := outB_bound ts kAnd
  have hlen := szT_len ts
  rw [goodT, if_neg hor, if_pos ho, hk, Int.toNat_natCast, Bool.and_eq_true] at hg
  have hd := goodT_pos hg.2
  rw [List.length_drop] at hd
  have HA := ih (ts.take k) g o cap w (hs.take k) (Nat.le_trans (szT_take_le ts k) hsz) (by rw [List.length_take]; omega) hm hg.1
  have HB := ih (ts.drop (k + 1)) g (o + (k + 1) * 3) (cap - (k + 1)) w (hs.drop (k + 1)) (Nat.le_trans (szT_drop_le ts (k + 1)) hsz) (by rw [List.length_drop]; omega) (by omega) hg.2
  have la := tidG_len n (ts.take k)
  have lb := tidG_len n (ts.drop (k + 1))
  have l1 := szT_take_le ts k
  have l2 := szT_drop_le ts (k + 1)
  have HR : Hid (tidG (n + 1) ts = ((if (tidG n (ts.take k)).2 = 2 then brk (tidG n (ts.take k)).1 else (tidG n (ts.take k)).1) ++ [32, 97, 110, 100, 32] ++ (if (tidG n (ts.drop (k + 1))).2 = 2 then brk (tidG n (ts.drop (k + 1))).1 else (tidG n (ts.drop (k + 1))).1), 1)) := by
    unfold Hid; rw [tidG, if_neg hor, if_pos ho, hk, Int.toNat_natCast]
  rw [List.length_take, Nat.min_eq_left (by omega)] at HA
  rw [List.length_drop] at HB
  generalize tidG n (ts.take k) = a at *
  generalize tidG n (ts.drop (k + 1)) = b at *
  obtain ⟨a1, a2⟩ := a
  obtain ⟨b1, b2⟩ := b
  have ka : a1.length ≤ 160000 := by simp at la; omega
  have kb : b1.length ≤ 160000 := by simp at lb; omega
  simp only at HA HB HR
  have HA' := hideP HA
  have HB' := hideP HB
  have HO : Hid (outB ts kAnd = k) := hk
  have HO1 : Hid (outB ts kOr = -1) := hor1
  have hk2 : k + 1 < ts.length := by omega
  have HS : Hid (SegR w g o ts) := hs
  clear HA HB hg hs la lb l1 l2 hb hk ho ih hd hor hor1 hbo
  by_cases ka : a2 = 2
  · have ea : (a2 == 2) = true := by simpa using ka
    by_cases kb : b2 = 2
    · have eb : (b2 == 2) = true := by simpa using kb
      have HR2 : Hid (tidG (n + 1) ts = (brk a1 ++ [32, 97, 110, 100, 32] ++ brk b1, 1)) := by have h1 := HR.out; rw [if_pos ka, if_pos kb] at h1; exact h1
      clear ka kb HR
      go_enter Tryz.func141, Tryz.ntmps141
      go_wp2_with fail
      refine (outside_any ts kOr g o cap _ HS.out (by omega) hc).mono ?_
      rintro e w' ⟨rfl, hw⟩; obtain rfl := hw.symm; rw [HO1.out]
      go_wp2_with fail
      refine (outside_any ts kAnd g o cap _ HS.out (by omega) hc).mono ?_
      rintro e w' ⟨rfl, hw⟩; obtain rfl := hw.symm; rw [HO.out]
      go_wp2_with fail
      refine HA'.out.mono ?_
      rintro e w' ⟨rfl, hw⟩; obtain rfl := hw.symm
      go_wp2_with fail
      refine HB'.out.mono ?_
      rintro e w' ⟨rfl, hw⟩; obtain rfl := hw.symm
      go_wp2_with fail
      go_ret2
      exact ⟨ret_pair (by rw [HR2.out]; simp only [brk, ← cat_mk]) (by rw [HR2.out]), rfl⟩
    · have eb : (b2 == 2) = false := by simpa using kb
      have HR2 : Hid (tidG (n + 1) ts = (brk a1 ++ [32, 97, 110, 100, 32] ++ b1, 1)) := by have h1 := HR.out; rw [if_pos ka, if_neg kb] at h1; exact h1
      clear ka kb HR
      go_enter Tryz.func141, Tryz.ntmps141
      go_wp2_with fail
      refine (outside_any ts kOr g o cap _ HS.out (by omega) hc).mono ?_
      rintro e w' ⟨rfl, hw⟩; obtain rfl := hw.symm; rw [HO1.out]
      go_wp2_with fail
      refine (outside_any ts kAnd g o cap _ HS.out (by omega) hc).mono ?_
      rintro e w' ⟨rfl, hw⟩; obtain rfl := hw.symm; rw [HO.out]
      go_wp2_with fail
      refine HA'.out.mono ?_
      rintro e w' ⟨rfl, hw⟩; obtain rfl := hw.symm
      go_wp2_with fail
      refine HB'.out.mono ?_
      rintro e w' ⟨rfl, hw⟩; obtain rfl := hw.symm
      go_wp2_with fail
      go_ret2
      exact ⟨ret_pair (by rw [HR2.out]; simp only [brk, ← cat_mk]) (by rw [HR2.out]), rfl⟩
  · have ea : (a2 == 2) = false := by simpa using ka
    by_cases kb : b2 = 2
    · have eb : (b2 == 2) = true := by simpa using kb
      have HR2 : Hid (tidG (n + 1) ts = (a1 ++ [32, 97, 110, 100, 32] ++ brk b1, 1)) := by have h1 := HR.out; rw [if_neg ka, if_pos kb] at h1; exact h1
      clear ka kb HR
      go_enter Tryz.func141, Tryz.ntmps141
      go_wp2_with fail
      refine (outside_any ts kOr g o cap _ HS.out (by omega) hc).mono ?_
      rintro e w' ⟨rfl, hw⟩; obtain rfl := hw.symm; rw [HO1.out]
      go_wp2_with fail
      refine (outside_any ts kAnd g o cap _ HS.out (by omega) hc).mono ?_
      rintro e w' ⟨rfl, hw⟩; obtain rfl := hw.symm; rw [HO.out]
      go_wp2_with fail
      refine HA'.out.mono ?_
      rintro e w' ⟨rfl, hw⟩; obtain rfl := hw.symm
      go_wp2_with fail
      refine HB'.out.mono ?_
      rintro e w' ⟨rfl, hw⟩; obtain rfl := hw.symm
      go_wp2_with fail
      go_ret2
      exact ⟨ret_pair (by rw [HR2.out]; simp only [brk, ← cat_mk]) (by rw [HR2.out]), rfl⟩
    · have eb : (b2 == 2) = false := by simpa using kb
      have HR2 : Hid (tidG (n + 1) ts = (a1 ++ [32, 97, 110, 100, 32] ++ b1, 1)) := by have h1 := HR.out; rw [if_neg ka, if_neg kb] at h1; exact h1
      clear ka kb HR
      go_enter Tryz.func141, Tryz.ntmps141
      go_wp2_with fail
      refine (outside_any ts kOr g o cap _ HS.out (by omega) hc).mono ?_
      rintro e w' ⟨rfl, hw⟩; obtain rfl := hw.symm; rw [HO1.out]
      go_wp2_with fail
      refine (outside_any ts kAnd g o cap _ HS.out (by omega) hc).mono ?_
      rintro e w' ⟨rfl, hw⟩; obtain rfl := hw.symm; rw [HO.out]
      go_wp2_with fail
      refine HA'.out.mono ?_
      rintro e w' ⟨rfl, hw⟩; obtain rfl := hw.symm
      go_wp2_with fail
      refine HB'.out.mono ?_
      rintro e w' ⟨rfl, hw⟩; obtain rfl := hw.symm
      go_wp2_with fail
      go_ret2
      exact ⟨ret_pair (by rw [HR2.out]; simp only [← cat_mk]) (by rw [HR2.out]), rfl⟩


set_option maxHeartbeats 1000000 in
theorem tidied_not (n : Nat) (ih : TidSaid n) (ts : Toks) (g o cap : Nat) (w : World) (hs : SegR w g o ts) (hsz : szT ts ≤ 10000) (hc : ts.length ≤ cap) (hm : cap ≤ maxLen) (hg : goodT (n + 1) ts = true) (hor : ¬ 0 ≤ outB ts kOr) (hand : ¬ 0 ≤ outB ts kAnd) (hno : clsB (ts.getD 0 (0, [])).2 = kNot) :
    Calls Tryz.prog 141 #[.slice (some ⟨g, o, none⟩) ts.length cap] w fun e w' => e = .returned (.tuple #[.string ⟨(tidG (n + 1) ts).1.toArray⟩, .int .i64 (tidG (n + 1) ts).2]) ∧ w' = w := by
  have hbo := outB_bound ts kOr
  have hba := outB_bound ts kAnd
  have HO1 : Hid (outB ts kOr = -1) := by unfold Hid; omega
  have HO2 : Hid (outB ts kAnd = -1) := by unfold Hid; omega
  have hlen := szT_len ts
  rw [goodT, if_neg hor, if_neg hand, if_pos hno, Bool.and_eq_true] at hg
  have h0 : 0 < ts.length := by simpa using hg.1
  have hd := goodT_pos hg.2
  rw [List.length_drop] at hd
  have HA := ih (ts.drop 1) g (o + 1 * 3) (cap - 1) w (hs.drop 1) (Nat.le_trans (szT_drop_le ts 1) hsz) (by rw [List.length_drop]; omega) (by omega) hg.2
  have la := tidG_len n (ts.drop 1)
  have l2 := szT_drop_le ts 1
  have HR : Hid (tidG (n + 1) ts = ([110, 111, 116, 32] ++ (if 0 < (tidG n (ts.drop 1)).2 then brk (tidG n (ts.drop 1)).1 else (tidG n (ts.drop 1)).1), 0)) := by
    unfold Hid; rw [tidG, if_neg hor, if_neg hand, if_pos hno]
  have hkd := tidG_kind n (ts.drop 1)
  rw [List.length_drop] at HA
  generalize tidG n (ts.drop 1) = a at *
  obtain ⟨a1, a2⟩ := a
  have ka : a1.length ≤ 160000 := by have la' : a1.length ≤ 16 * szT (ts.drop 1) := la; omega
  simp only at HA HR hkd
  have HA' := hideP HA
  have hc2 := (hs 0 h0).2.2
  rw [hno] at hc2
  simp only [Nat.zero_mul, Nat.add_zero, kNot] at hc2
  have hk2 : 1 < ts.length := by omega
  have HS : Hid (SegR w g o ts) := hs
  clear HA hg hs la l2 hbo hba ih hd hor hand hno
  by_cases kz : 0 < a2
  · have HR2 : Hid (tidG (n + 1) ts = ([110, 111, 116, 32] ++ brk a1, 0)) := by have h1 := HR.out; rw [if_pos kz] at h1; exact h1
    clear HR
    go_enter Tryz.func141, Tryz.ntmps141
    go_wp2_with fail
    refine (outside_any ts kOr g o cap _ HS.out (by omega) hc).mono ?_
    rintro e w' ⟨rfl, hw⟩; obtain rfl := hw.symm; rw [HO1.out]
    go_wp2_with fail
    refine (outside_any ts kAnd g o cap _ HS.out (by omega) hc).mono ?_
    rintro e w' ⟨rfl, hw⟩; obtain rfl := hw.symm; rw [HO2.out]
    go_wp2_with fail
    refine HA'.out.mono ?_
    rintro e w' ⟨rfl, hw⟩; obtain rfl := hw.symm
    go_wp2_with fail
    go_ret2
    exact ⟨ret_pair (by rw [HR2.out]; simp only [brk, ← cat_mk]) (by rw [HR2.out]), rfl⟩
  · have HR2 : Hid (tidG (n + 1) ts = ([110, 111, 116, 32] ++ a1, 0)) := by have h1 := HR.out; rw [if_neg kz] at h1; exact h1
    clear HR
    go_enter Tryz.func141, Tryz.ntmps141
    go_wp2_with fail
    refine (outside_any ts kOr g o cap _ HS.out (by omega) hc).mono ?_
    rintro e w' ⟨rfl, hw⟩; obtain rfl := hw.symm; rw [HO1.out]
    go_wp2_with fail
    refine (outside_any ts kAnd g o cap _ HS.out (by omega) hc).mono ?_
    rintro e w' ⟨rfl, hw⟩; obtain rfl := hw.symm; rw [HO2.out]
    go_wp2_with fail
    refine HA'.out.mono ?_
    rintro e w' ⟨rfl, hw⟩; obtain rfl := hw.symm
    go_wp2_with fail
    go_ret2
    exact ⟨ret_pair (by rw [HR2.out]; simp only [← cat_mk]) (by rw [HR2.out]), rfl⟩

set_option maxHeartbeats 1000000 in
theorem tidied_open (n : Nat) (ih : TidSaid n) (ts : Toks) (g o cap : Nat) (w : World) (hs : SegR w g o ts) (hsz : szT ts ≤ 10000) (hc : ts.length ≤ cap) (hm : cap ≤ maxLen) (hg : goodT (n + 1) ts = true) (hor : ¬ 0 ≤ outB ts kOr) (hand : ¬ 0 ≤ outB ts kAnd) (hnn : ¬ clsB (ts.getD 0 (0, [])).2 = kNot) (hno : clsB (ts.getD 0 (0, [])).2 = kOpen) :
    Calls Tryz.prog 141 #[.slice (some ⟨g, o, none⟩) ts.length cap] w fun e w' => e = .returned (.tuple #[.string ⟨(tidG (n + 1) ts).1.toArray⟩, .int .i64 (tidG (n + 1) ts).2]) ∧ w' = w := by
  have hbo := outB_bound ts kOr
  have hba := outB_bound ts kAnd
  have HO1 : Hid (outB ts kOr = -1) := by unfold Hid; omega
  have HO2 : Hid (outB ts kAnd = -1) := by unfold Hid; omega
  have hlen := szT_len ts
  rw [goodT, if_neg hor, if_neg hand, if_neg hnn, if_pos hno, Bool.and_eq_true] at hg
  have h0 : 2 < ts.length := by simpa using hg.1
  have HA := ih ((ts.drop 1).take (ts.length - 2)) g (o + 1 * 3) (cap - 1) w ((hs.drop 1).take _) (Nat.le_trans (szT_take_le _ _) (Nat.le_trans (szT_drop_le ts 1) hsz)) (by rw [List.length_take, List.length_drop]; omega) (by omega) hg.2
  have HR : Hid (tidG (n + 1) ts = tidG n ((ts.drop 1).take (ts.length - 2))) := by
    unfold Hid; rw [tidG, if_neg hor, if_neg hand, if_neg hnn, if_pos hno]
  have hl2 : ((ts.drop 1).take (ts.length - 2)).length = ts.length - 2 := by rw [List.length_take, List.length_drop]; omega
  rw [hl2] at HA
  generalize tidG n ((ts.drop 1).take (ts.length - 2)) = a at *
  obtain ⟨a1, a2⟩ := a
  simp only at HA HR
  have HA' := hideP HA
  have hc2 := (hs 0 (by omega)).2.2
  rw [hno] at hc2
  simp only [Nat.zero_mul, Nat.add_zero, kOpen] at hc2
  have HS : Hid (SegR w g o ts) := hs
  clear HA hg hs hbo hba ih hor hand hno hnn hl2
  go_enter Tryz.func141, Tryz.ntmps141
  go_wp2_with fail
  refine (outside_any ts kOr g o cap _ HS.out (by omega) hc).mono ?_
  rintro e w' ⟨rfl, hw⟩; obtain rfl := hw.symm; rw [HO1.out]
  go_wp2_with fail
  refine (outside_any ts kAnd g o cap _ HS.out (by omega) hc).mono ?_
  rintro e w' ⟨rfl, hw⟩; obtain rfl := hw.symm; rw [HO2.out]
  go_wp2_with fail
  refine HA'.out.mono ?_
  rintro e w' ⟨rfl, hw⟩; obtain rfl := hw.symm
  go_wp2_with fail
  go_ret2
  exact ⟨ret_pair (by rw [HR.out]) (by rw [HR.out]), rfl⟩

set_option maxHeartbeats 1000000 in
theorem tidied_plain (n : Nat) (ts : Toks) (g o cap : Nat) (w : World) (hs : SegR w g o ts) (hsz : szT ts ≤ 10000) (hc : ts.length ≤ cap) (_hm : cap ≤ maxLen) (hg : goodT (n + 1) ts = true) (hor : ¬ 0 ≤ outB ts kOr) (hand : ¬ 0 ≤ outB ts kAnd) (hnn : ¬ clsB (ts.getD 0 (0, [])).2 = kNot) (hno : ¬ clsB (ts.getD 0 (0, [])).2 = kOpen) :
    Calls Tryz.prog 141 #[.slice (some ⟨g, o, none⟩) ts.length cap] w fun e w' => e = .returned (.tuple #[.string ⟨(tidG (n + 1) ts).1.toArray⟩, .int .i64 (tidG (n + 1) ts).2]) ∧ w' = w := by
  have hbo := outB_bound ts kOr
  have hba := outB_bound ts kAnd
  have HO1 : Hid (outB ts kOr = -1) := by unfold Hid; omega
  have HO2 : Hid (outB ts kAnd = -1) := by unfold Hid; omega
  have hlen := szT_len ts
  have h0 := goodT_pos hg
  have HR : Hid (tidG (n + 1) ts = (gluedB ts, 0)) := by
    unfold Hid; rw [tidG, if_neg hor, if_neg hand, if_neg hnn, if_neg hno]
  have hc2 := (hs 0 (by omega)).2.2
  generalize clsB (ts.getD 0 (0, [])).2 = cl at *
  simp only [Nat.zero_mul, Nat.add_zero] at hc2
  have b1 : (cl == [110, 111, 116]) = false := by simpa [kNot] using hnn
  have b2 : (cl == [40]) = false := by simpa [kOpen] using hno
  have HS : Hid (SegR w g o ts) := hs
  clear hg hs hbo hba hor hand hno hnn
  go_enter Tryz.func141, Tryz.ntmps141
  go_wp2_with fail
  refine (outside_any ts kOr g o cap _ HS.out (by omega) hc).mono ?_
  rintro e w' ⟨rfl, hw⟩; obtain rfl := hw.symm; rw [HO1.out]
  go_wp2_with fail
  refine (outside_any ts kAnd g o cap _ HS.out (by omega) hc).mono ?_
  rintro e w' ⟨rfl, hw⟩; obtain rfl := hw.symm; rw [HO2.out]
  go_wp2_with fail
  refine (glued_any ts g o cap _ HS.out hsz hc).mono ?_
  rintro e w' ⟨rfl, hw⟩; obtain rfl := hw.symm
  go_wp2_with fail
  go_ret2
  exact ⟨ret_pair (by rw [HR.out]) (by rw [HR.out]), rfl⟩

theorem tidied_any (n : Nat) : TidSaid n := by
  induction n with
  | zero => intro ts g o cap w _ _ _ _ hg; simp [goodT] at hg
  | succ n ih =>
    intro ts g o cap w hs hsz hc hm hg
    by_cases ho : 0 ≤ outB ts kOr
    · exact tidied_or n ih ts g o cap w hs hsz hc hm hg ho
    by_cases ha : 0 ≤ outB ts kAnd
    · exact tidied_and n ih ts g o cap w hs hsz hc hm hg ho ha
    by_cases hn : clsB (ts.getD 0 (0, [])).2 = kNot
    · exact tidied_not n ih ts g o cap w hs hsz hc hm hg ho ha hn
    by_cases hp : clsB (ts.getD 0 (0, [])).2 = kOpen
    · exact tidied_open n ih ts g o cap w hs hsz hc hm hg ho ha hn hp
    exact tidied_plain n ts g o cap w hs hsz hc hm hg ho ha hn hp
end Go.Proofs.YtnbpdffdnphbeaaGreatDoor
