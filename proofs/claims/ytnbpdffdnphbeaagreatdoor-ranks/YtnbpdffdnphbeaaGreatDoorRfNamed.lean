/- What fits and named of the document's answer give: are a line's names those that may stand there? -/
import Derived.Test.YtnbpdffdnphbeaaGreatDoorRfBase
import Derived.Test.YtnbpdffdnphbeaaGreatDoorTidied
import Derived.Test.YtnbpdffdnphbeaaGreatDoorPWeight
import Derived.Test.YtnbpdffdnphbeaaGreatDoorCkErr2
namespace Go.Proofs.YtnbpdffdnphbeaaGreatDoor
open Go.RowKit

def cmpW : Bs := [60, 32, 60, 61, 32, 61, 32, 33, 61, 32, 62, 61, 32, 62]
theorem among_cmp (s : Bs) : amongB cmpW s = decide (s ∈ cmpL) := by
  rw [among_iff, show wordsG cmpW (cmpW.length + 1) 0 0 = cmpL by decide]

theorem amongC_s (s : Bs) (w : World) : Calls Tryz.prog 180 #[.string ⟨#[60, 32, 60, 61, 32, 61, 32, 33, 61, 32, 62, 61, 32, 62]⟩, .string ⟨s.toArray⟩] w fun e w' => e = .returned (.bool (decide (s ∈ cmpL))) ∧ w' = w := by
  have := among_any cmpW s w (by decide)
  rw [among_cmp] at this
  exact this

set_option maxHeartbeats 2000000 in
theorem fits_s (w : World) (a : Option Addr) (c : Nat) (ls : List PLine) (us : List Toks) (u : Toks) (g o cu k w0 : Nat) (h : RowL w a us) (hA : AllLT ls us) (hs : SegR w g o u) (hsm : u.length ≤ 10000) (hcu : u.length ≤ cu) (hk1 : 1 ≤ k) (hk : k < u.length) (hw0 : whenB u = w0) :
    Calls Tryz.prog 192 #[.slice a us.length c, .slice (some ⟨g, o, none⟩) u.length cu, .int .i64 k] w fun e w' => e = .returned (.bool (fitsR us u k)) ∧ w' = w := by
  have HN := hideP2 (isNum_s w a c ls us (tA u k) h hA)
  have HF := hideP2 (isFlag_s w a c ls us (tA u k) h hA)
  have HH := hideP2 (isHead_s w a c ls us (tA u k) h hA)
  have HW := hideP2 (when_any u g o cu w hs hsm hcu)
  rw [hw0] at HW
  have hwA : wA' u = w0 := by unfold wA'; rw [hw0]; rfl
  obtain ⟨k', rfl⟩ : ∃ k', k = k' + 1 := ⟨k - 1, by omega⟩
  have hck := (hs.tok hk).1
  have hcp := (hs.tok (show k' < u.length by omega)).2
  have HCn := hideP2 (fun h1 : k' + 1 + 1 < u.length => (hs.tok h1).2)
  have ikl : ((k' : Int) + 1) < (u.length : Int) := by omega
  have ikl2 : (k' : Int) < (u.length : Int) := by omega
  by_cases kw : k' + 1 < w0
  · have HR : Hid (fitsR us u (k' + 1) = (isNumR us (tA u (k' + 1)) || isHeadR us (tA u (k' + 1)))) := by unfold Hid fitsR kindAt; rw [hwA, if_pos kw]; rfl
    clear h hA hs hw0 hwA HF HCn hcp
    generalize isNumR us (tA u (k' + 1)) = p at *
    generalize isHeadR us (tA u (k' + 1)) = q at *
    generalize tA u (k' + 1) = tt at *
    cases p
    · go_enter Tryz.func192, Tryz.ntmps192
      go_wp2_with fail
      refine HW.out.mono ?_
      rintro e w1 ⟨rfl, hw⟩; obtain rfl := hw.symm
      go_wp2_with fail
      refine HN.out.mono ?_
      rintro e w1 ⟨rfl, hw⟩; obtain rfl := hw.symm
      go_wp2_with fail
      refine HH.out.mono ?_
      rintro e w1 ⟨rfl, hw⟩; obtain rfl := hw.symm
      go_wp2_with fail
      go_ret
      exact ⟨ret_bool HR.out.symm, rfl⟩
    · go_enter Tryz.func192, Tryz.ntmps192
      go_wp2_with fail
      refine HW.out.mono ?_
      rintro e w1 ⟨rfl, hw⟩; obtain rfl := hw.symm
      go_wp2_with fail
      refine HN.out.mono ?_
      rintro e w1 ⟨rfl, hw⟩; obtain rfl := hw.symm
      go_wp2_with fail
      go_ret
      exact ⟨ret_bool HR.out.symm, rfl⟩
  have HR0 : Hid (fitsR us u (k' + 1) = okR us (needK (cA u k') (nxA u (k' + 1)), tA u (k' + 1))) := by unfold Hid fitsR kindAt; rw [hwA, if_neg kw]; rfl
  clear h hA hs hw0 hwA
  generalize hcl : cA u k' = cl at *
  clear hcl
  by_cases kh : cl = [104, 97, 115]
  · subst kh
    have HR : Hid (fitsR us u (k' + 1) = isHeadR us (tA u (k' + 1))) := by unfold Hid; rw [HR0.out, show needK [104, 97, 115] (nxA u (k' + 1)) = 1 from if_pos rfl]; rfl
    clear HR0 HN HF HCn
    generalize isHeadR us (tA u (k' + 1)) = q at *
    generalize tA u (k' + 1) = tt at *
    go_enter Tryz.func192, Tryz.ntmps192
    go_wp2_with fail
    refine HW.out.mono ?_
    rintro e w1 ⟨rfl, hw⟩; obtain rfl := hw.symm
    go_wp2_with fail
    refine HH.out.mono ?_
    rintro e w1 ⟨rfl, hw⟩; obtain rfl := hw.symm
    go_wp2_with fail
    go_ret
    exact ⟨ret_bool HR.out.symm, rfl⟩
  have bh : (cl == [104, 97, 115]) = false := by simpa using kh
  have HA1 := hideP2 (amongC_s cl w)
  by_cases kc : cl ∈ cmpL
  · have HR : Hid (fitsR us u (k' + 1) = isNumR us (tA u (k' + 1))) := by unfold Hid; rw [HR0.out, needK_2 kh (.inl kc)]; rfl
    rw [decide_eq_true kc] at HA1
    clear HR0 HH HF HCn kh kc
    generalize isNumR us (tA u (k' + 1)) = q at *
    generalize tA u (k' + 1) = tt at *
    go_enter Tryz.func192, Tryz.ntmps192
    go_wp2_with fail
    refine HW.out.mono ?_
    rintro e w1 ⟨rfl, hw⟩; obtain rfl := hw.symm
    go_wp2_with fail
    refine HA1.out.mono ?_
    rintro e w1 ⟨rfl, hw⟩; obtain rfl := hw.symm
    go_wp2_with fail
    refine HN.out.mono ?_
    rintro e w1 ⟨rfl, hw⟩; obtain rfl := hw.symm
    go_wp2_with fail
    go_ret
    exact ⟨ret_bool HR.out.symm, rfl⟩
  rw [decide_eq_false kc] at HA1
  by_cases kn : k' + 1 + 1 < u.length
  · have hcn := HCn.out kn
    have hnx : nxA u (k' + 1) = cA u (k' + 1 + 1) := by unfold nxA; rw [if_pos kn]
    rw [hnx] at HR0
    have HA2 := hideP2 (amongC_s (cA u (k' + 1 + 1)) w)
    have ikn : ((k' : Int) + 1 + 1) < (u.length : Int) := by omega
    generalize hcl2 : cA u (k' + 1 + 1) = cl2 at *
    clear hcl2 hnx HCn
    by_cases kc2 : cl2 ∈ cmpL
    · have HR : Hid (fitsR us u (k' + 1) = isNumR us (tA u (k' + 1))) := by unfold Hid; rw [HR0.out, needK_2 kh (.inr kc2)]; rfl
      rw [decide_eq_true kc2] at HA2
      clear HR0 HH HF kh kc kc2
      generalize isNumR us (tA u (k' + 1)) = q at *
      generalize tA u (k' + 1) = tt at *
      go_enter Tryz.func192, Tryz.ntmps192
      go_wp2_with fail
      refine HW.out.mono ?_
      rintro e w1 ⟨rfl, hw⟩; obtain rfl := hw.symm
      go_wp2_with fail
      refine HA1.out.mono ?_
      rintro e w1 ⟨rfl, hw⟩; obtain rfl := hw.symm
      go_wp2_with fail
      refine HA2.out.mono ?_
      rintro e w1 ⟨rfl, hw⟩; obtain rfl := hw.symm
      go_wp2_with fail
      refine HN.out.mono ?_
      rintro e w1 ⟨rfl, hw⟩; obtain rfl := hw.symm
      go_wp2_with fail
      go_ret
      exact ⟨ret_bool HR.out.symm, rfl⟩
    · have HR : Hid (fitsR us u (k' + 1) = isFlagR us (tA u (k' + 1))) := by unfold Hid; rw [HR0.out, needK_3 ⟨kh, kc⟩ kc2]; rfl
      rw [decide_eq_false kc2] at HA2
      clear HR0 HH HN kh kc kc2
      generalize isFlagR us (tA u (k' + 1)) = q at *
      generalize tA u (k' + 1) = tt at *
      go_enter Tryz.func192, Tryz.ntmps192
      go_wp2_with fail
      refine HW.out.mono ?_
      rintro e w1 ⟨rfl, hw⟩; obtain rfl := hw.symm
      go_wp2_with fail
      refine HA1.out.mono ?_
      rintro e w1 ⟨rfl, hw⟩; obtain rfl := hw.symm
      go_wp2_with fail
      refine HA2.out.mono ?_
      rintro e w1 ⟨rfl, hw⟩; obtain rfl := hw.symm
      go_wp2_with fail
      refine HF.out.mono ?_
      rintro e w1 ⟨rfl, hw⟩; obtain rfl := hw.symm
      go_wp2_with fail
      go_ret
      exact ⟨ret_bool HR.out.symm, rfl⟩
  · have hnx : nxA u (k' + 1) = [] := by unfold nxA; rw [if_neg kn]
    have HR : Hid (fitsR us u (k' + 1) = isFlagR us (tA u (k' + 1))) := by unfold Hid; rw [HR0.out, hnx, needK_3 ⟨kh, kc⟩ (by decide)]; rfl
    have ikn : (u.length : Int) ≤ (k' : Int) + 1 + 1 := by omega
    clear HR0 HH HN kh kc HCn hnx
    generalize isFlagR us (tA u (k' + 1)) = q at *
    generalize tA u (k' + 1) = tt at *
    go_enter Tryz.func192, Tryz.ntmps192
    go_wp2_with fail
    refine HW.out.mono ?_
    rintro e w1 ⟨rfl, hw⟩; obtain rfl := hw.symm
    go_wp2_with fail
    refine HA1.out.mono ?_
    rintro e w1 ⟨rfl, hw⟩; obtain rfl := hw.symm
    go_wp2_with fail
    refine HF.out.mono ?_
    rintro e w1 ⟨rfl, hw⟩; obtain rfl := hw.symm
    go_wp2_with fail
    go_ret
    exact ⟨ret_bool HR.out.symm, rfl⟩
end Go.Proofs.YtnbpdffdnphbeaaGreatDoor

/- What weight of the document's answer gives of the tokens of a guard: its tests and its depth. -/
namespace Go.Proofs.YtnbpdffdnphbeaaGreatDoor
open Go.RowKit

theorem ret_ints {a b c d : Int} (h : a = c) (k : b = d) : Ending.returned (.tuple #[.int .i64 a, .int .i64 b]) = .returned (.tuple #[.int .i64 c, .int .i64 d]) := by rw [h, k]

def WtSaid (n : Nat) : Prop := ∀ (ts : Toks) (g o cap : Nat) (w : World), SegR w g o ts → ts.length ≤ 10000 → ts.length ≤ cap → cap ≤ maxLen → goodT n ts = true →
    Calls Tryz.prog 131 #[.slice (some ⟨g, o, none⟩) ts.length cap] w fun e w' => e = .returned (.tuple #[.int .i64 (weightG n ts).1, .int .i64 (weightG n ts).2]) ∧ w' = w

set_option maxHeartbeats 1000000 in
theorem weight_or (n : Nat) (ih : WtSaid n) (ts : Toks) (g o cap : Nat) (w : World) (hs : SegR w g o ts) (hsz : ts.length ≤ 10000) (hc : ts.length ≤ cap) (hm : cap ≤ maxLen) (hg : goodT (n + 1) ts = true) (ho : 0 ≤ outB ts kOr) :
    Calls Tryz.prog 131 #[.slice (some ⟨g, o, none⟩) ts.length cap] w fun e w' => e = .returned (.tuple #[.int .i64 (weightG (n + 1) ts).1, .int .i64 (weightG (n + 1) ts).2]) ∧ w' = w := by
  obtain ⟨k, hk⟩ := Int.eq_ofNat_of_zero_le ho
  have hb := outB_bound ts kOr
  rw [goodT, if_pos ho, hk, Int.toNat_natCast, Bool.and_eq_true] at hg
  have hd := goodT_pos hg.2
  rw [List.length_drop] at hd
  have HA := ih (ts.take k) g o cap w (hs.take k) (by rw [List.length_take]; omega) (by rw [List.length_take]; omega) hm hg.1
  have HB := ih (ts.drop (k + 1)) g (o + (k + 1) * 3) (cap - (k + 1)) w (hs.drop (k + 1)) (by rw [List.length_drop]; omega) (by rw [List.length_drop]; omega) (by omega) hg.2
  have la := weightG_bound n (ts.take k)
  have lb := weightG_bound n (ts.drop (k + 1))
  have HR : Hid (weightG (n + 1) ts = wtJoin (weightG n (ts.take k)) (weightG n (ts.drop (k + 1)))) := by
    unfold Hid; rw [weightG, if_pos ho, hk, Int.toNat_natCast]
  rw [List.length_take, Nat.min_eq_left (by omega)] at HA la
  rw [List.length_drop] at HB lb
  generalize weightG n (ts.take k) = a at *
  generalize weightG n (ts.drop (k + 1)) = b at *
  obtain ⟨a1, a2⟩ := a
  obtain ⟨b1, b2⟩ := b
  simp only [wtJoin] at HA HB HR la lb
  have HA' := hideP HA
  have HB' := hideP HB
  have HO : Hid (outB ts kOr = k) := hk
  have hk2 : k + 1 < ts.length := by omega
  have HS : Hid (SegR w g o ts) := hs
  have i1 : -20000 ≤ a1 + b1 := by omega
  have i2 : a1 + b1 ≤ 20002 := by omega
  clear HA HB hg hs hb hk ho ih hd la lb
  by_cases kz : a2 < b2
  · have HR2 : Hid (weightG (n + 1) ts = (a1 + b1, b2)) := by have h1 := HR.out; rw [if_pos kz] at h1; exact h1
    clear HR
    go_enter Tryz.func131, Tryz.ntmps131
    go_wp2_with fail
    refine (outside_any ts kOr g o cap _ HS.out (by omega) hc).mono ?_
    rintro e w' ⟨rfl, hw⟩; obtain rfl := hw.symm; rw [HO.out]
    go_wp2_with fail
    refine HA'.out.mono ?_
    rintro e w' ⟨rfl, hw⟩; obtain rfl := hw.symm
    go_wp2_with fail
    refine HB'.out.mono ?_
    rintro e w' ⟨rfl, hw⟩; obtain rfl := hw.symm
    go_wp2_with fail
    go_ret2
    exact ⟨ret_ints (by rw [HR2.out]) (by rw [HR2.out]), rfl⟩
  · have HR2 : Hid (weightG (n + 1) ts = (a1 + b1, a2)) := by have h1 := HR.out; rw [if_neg kz] at h1; exact h1
    clear HR
    go_enter Tryz.func131, Tryz.ntmps131
    go_wp2_with fail
    refine (outside_any ts kOr g o cap _ HS.out (by omega) hc).mono ?_
    rintro e w' ⟨rfl, hw⟩; obtain rfl := hw.symm; rw [HO.out]
    go_wp2_with fail
    refine HA'.out.mono ?_
    rintro e w' ⟨rfl, hw⟩; obtain rfl := hw.symm
    go_wp2_with fail
    refine HB'.out.mono ?_
    rintro e w' ⟨rfl, hw⟩; obtain rfl := hw.symm
    go_wp2_with fail
    go_ret2
    exact ⟨ret_ints (by rw [HR2.out]) (by rw [HR2.out]), rfl⟩

set_option maxHeartbeats 1000000 in
theorem weight_and (n : Nat) (ih : WtSaid n) (ts : Toks) (g o cap : Nat) (w : World) (hs : SegR w g o ts) (hsz : ts.length ≤ 10000) (hc : ts.length ≤ cap) (hm : cap ≤ maxLen) (hg : goodT (n + 1) ts = true) (hor : ¬ 0 ≤ outB ts kOr) (ho : 0 ≤ outB ts kAnd) :
    Calls Tryz.prog 131 #[.slice (some ⟨g, o, none⟩) ts.length cap] w fun e w' => e = .returned (.tuple #[.int .i64 (weightG (n + 1) ts).1, .int .i64 (weightG (n + 1) ts).2]) ∧ w' = w := by
  obtain ⟨k, hk⟩ := Int.eq_ofNat_of_zero_le ho
  have hb := outB_bound ts kAnd
  have hbo := outB_bound ts kOr
  have HO1 : Hid (outB ts kOr = -1) := by unfold Hid; omega
  rw [goodT, if_neg hor, if_pos ho, hk, Int.toNat_natCast, Bool.and_eq_true] at hg
  have hd := goodT_pos hg.2
  rw [List.length_drop] at hd
  have HA := ih (ts.take k) g o cap w (hs.take k) (by rw [List.length_take]; omega) (by rw [List.length_take]; omega) hm hg.1
  have HB := ih (ts.drop (k + 1)) g (o + (k + 1) * 3) (cap - (k + 1)) w (hs.drop (k + 1)) (by rw [List.length_drop]; omega) (by rw [List.length_drop]; omega) (by omega) hg.2
  have la := weightG_bound n (ts.take k)
  have lb := weightG_bound n (ts.drop (k + 1))
  have HR : Hid (weightG (n + 1) ts = wtJoin (weightG n (ts.take k)) (weightG n (ts.drop (k + 1)))) := by
    unfold Hid; rw [weightG, if_neg hor, if_pos ho, hk, Int.toNat_natCast]
  rw [List.length_take, Nat.min_eq_left (by omega)] at HA la
  rw [List.length_drop] at HB lb
  generalize weightG n (ts.take k) = a at *
  generalize weightG n (ts.drop (k + 1)) = b at *
  obtain ⟨a1, a2⟩ := a
  obtain ⟨b1, b2⟩ := b
  simp only [wtJoin] at HA HB HR la lb
  have HA' := hideP HA
  have HB' := hideP HB
  have HO : Hid (outB ts kAnd = k) := hk
  have hk2 : k + 1 < ts.length := by omega
  have HS : Hid (SegR w g o ts) := hs
  have i1 : -20000 ≤ a1 + b1 := by omega
  have i2 : a1 + b1 ≤ 20002 := by omega
  clear HA HB hg hs hb hbo hk ho hor ih hd la lb
  by_cases kz : a2 < b2
  · have HR2 : Hid (weightG (n + 1) ts = (a1 + b1, b2)) := by have h1 := HR.out; rw [if_pos kz] at h1; exact h1
    clear HR
    go_enter Tryz.func131, Tryz.ntmps131
    go_wp2_with fail
    refine (outside_any ts kOr g o cap _ HS.out (by omega) hc).mono ?_
    rintro e w' ⟨rfl, hw⟩; obtain rfl := hw.symm; rw [HO1.out]
    go_wp2_with fail
    refine (outside_any ts kAnd g o cap _ HS.out (by omega) hc).mono ?_
    rintro e w' ⟨rfl, hw⟩; obtain rfl := hw.symm; rw [HO.out]
    go_wp2_with fail
    refine HA'.out.mono ?_
    rintro e w' ⟨rfl, hw⟩; obtain rfl := hw.symm
    go_wp2_with fail
    refine HB'.out.mono ?_
    rintro e w' ⟨rfl, hw⟩; obtain rfl := hw.symm
    go_wp2_with fail
    go_ret2
    exact ⟨ret_ints (by rw [HR2.out]) (by rw [HR2.out]), rfl⟩
  · have HR2 : Hid (weightG (n + 1) ts = (a1 + b1, a2)) := by have h1 := HR.out; rw [if_neg kz] at h1; exact h1
    clear HR
    go_enter Tryz.func131, Tryz.ntmps131
    go_wp2_with fail
    refine (outside_any ts kOr g o cap _ HS.out (by omega) hc).mono ?_
    rintro e w' ⟨rfl, hw⟩; obtain rfl := hw.symm; rw [HO1.out]
    go_wp2_with fail
    refine (outside_any ts kAnd g o cap _ HS.out (by omega) hc).mono ?_
    rintro e w' ⟨rfl, hw⟩; obtain rfl := hw.symm; rw [HO.out]
    go_wp2_with fail
    refine HA'.out.mono ?_
    rintro e w' ⟨rfl, hw⟩; obtain rfl := hw.symm
    go_wp2_with fail
    refine HB'.out.mono ?_
    rintro e w' ⟨rfl, hw⟩; obtain rfl := hw.symm
    go_wp2_with fail
    go_ret2
    exact ⟨ret_ints (by rw [HR2.out]) (by rw [HR2.out]), rfl⟩

set_option maxHeartbeats 1000000 in
theorem weight_one (n : Nat) (ih : WtSaid n) (ts : Toks) (g o cap : Nat) (w : World) (hs : SegR w g o ts) (hsz : ts.length ≤ 10000) (hc : ts.length ≤ cap) (hm : cap ≤ maxLen) (hg : goodT (n + 1) ts = true) (hor : ¬ 0 ≤ outB ts kOr) (hand : ¬ 0 ≤ outB ts kAnd) :
    Calls Tryz.prog 131 #[.slice (some ⟨g, o, none⟩) ts.length cap] w fun e w' => e = .returned (.tuple #[.int .i64 (weightG (n + 1) ts).1, .int .i64 (weightG (n + 1) ts).2]) ∧ w' = w := by
  have hbo := outB_bound ts kOr
  have hba := outB_bound ts kAnd
  have HO1 : Hid (outB ts kOr = -1) := by unfold Hid; omega
  have HO2 : Hid (outB ts kAnd = -1) := by unfold Hid; omega
  have hpos := goodT_pos hg
  by_cases hno : clsB (ts.getD 0 (0, [])).2 = kNot
  · rw [goodT, if_neg hor, if_neg hand, if_pos hno, Bool.and_eq_true] at hg
    have hd := goodT_pos hg.2
    rw [List.length_drop] at hd
    have HA := ih (ts.drop 1) g (o + 1 * 3) (cap - 1) w (hs.drop 1) (by rw [List.length_drop]; omega) (by rw [List.length_drop]; omega) (by omega) hg.2
    have la := weightG_bound n (ts.drop 1)
    have HR : Hid (weightG (n + 1) ts = ((weightG n (ts.drop 1)).1, (weightG n (ts.drop 1)).2 + 1)) := by
      unfold Hid; rw [weightG, if_neg hor, if_neg hand, if_pos hno]
    rw [List.length_drop] at HA la
    generalize weightG n (ts.drop 1) = a at *
    obtain ⟨a1, a2⟩ := a
    simp only at HA HR la
    have HA' := hideP HA
    have hc2 := (hs 0 hpos).2.2
    rw [hno] at hc2
    simp only [Nat.zero_mul, Nat.add_zero, kNot] at hc2
    have hk2 : 1 < ts.length := by omega
    have HS : Hid (SegR w g o ts) := hs
    clear HA hg hs hbo hba ih hd hor hand hno
    go_enter Tryz.func131, Tryz.ntmps131
    go_wp2_with fail
    refine (outside_any ts kOr g o cap _ HS.out (by omega) hc).mono ?_
    rintro e w' ⟨rfl, hw⟩; obtain rfl := hw.symm; rw [HO1.out]
    go_wp2_with fail
    refine (outside_any ts kAnd g o cap _ HS.out (by omega) hc).mono ?_
    rintro e w' ⟨rfl, hw⟩; obtain rfl := hw.symm; rw [HO2.out]
    go_wp2_with fail
    refine HA'.out.mono ?_
    rintro e w' ⟨rfl, hw⟩; obtain rfl := hw.symm
    go_wp2_with fail
    go_ret2
    exact ⟨ret_ints (by rw [HR.out]) (by rw [HR.out]), rfl⟩
  by_cases hop : clsB (ts.getD 0 (0, [])).2 = kOpen
  · rw [goodT, if_neg hor, if_neg hand, if_neg hno, if_pos hop, Bool.and_eq_true] at hg
    have h0 : 2 < ts.length := by simpa using hg.1
    have hl2 : ((ts.drop 1).take (ts.length - 2)).length = ts.length - 2 := by rw [List.length_take, List.length_drop]; omega
    have HA := ih ((ts.drop 1).take (ts.length - 2)) g (o + 1 * 3) (cap - 1) w ((hs.drop 1).take _) (by rw [hl2]; omega) (by rw [hl2]; omega) (by omega) hg.2
    have la := weightG_bound n ((ts.drop 1).take (ts.length - 2))
    have HR : Hid (weightG (n + 1) ts = ((weightG n ((ts.drop 1).take (ts.length - 2))).1, (weightG n ((ts.drop 1).take (ts.length - 2))).2 + 1)) := by
      unfold Hid; rw [weightG, if_neg hor, if_neg hand, if_neg hno, if_pos hop]
    rw [hl2] at HA la
    generalize weightG n ((ts.drop 1).take (ts.length - 2)) = a at *
    obtain ⟨a1, a2⟩ := a
    simp only at HA HR la
    have HA' := hideP HA
    have hc2 := (hs 0 hpos).2.2
    rw [hop] at hc2
    simp only [Nat.zero_mul, Nat.add_zero, kOpen] at hc2
    have HS : Hid (SegR w g o ts) := hs
    clear HA hg hs hbo hba ih hor hand hno hop hl2
    go_enter Tryz.func131, Tryz.ntmps131
    go_wp2_with fail
    refine (outside_any ts kOr g o cap _ HS.out (by omega) hc).mono ?_
    rintro e w' ⟨rfl, hw⟩; obtain rfl := hw.symm; rw [HO1.out]
    go_wp2_with fail
    refine (outside_any ts kAnd g o cap _ HS.out (by omega) hc).mono ?_
    rintro e w' ⟨rfl, hw⟩; obtain rfl := hw.symm; rw [HO2.out]
    go_wp2_with fail
    refine HA'.out.mono ?_
    rintro e w' ⟨rfl, hw⟩; obtain rfl := hw.symm
    go_wp2_with fail
    go_ret2
    exact ⟨ret_ints (by rw [HR.out]) (by rw [HR.out]), rfl⟩
  · have HR : Hid (weightG (n + 1) ts = (1, 0)) := by
      unfold Hid; rw [weightG, if_neg hor, if_neg hand, if_neg hno, if_neg hop]
    have hc2 := (hs 0 hpos).2.2
    generalize clsB (ts.getD 0 (0, [])).2 = cl at *
    simp only [Nat.zero_mul, Nat.add_zero] at hc2
    have b1 : (cl == [110, 111, 116]) = false := by simpa [kNot] using hno
    have b2 : (cl == [40]) = false := by simpa [kOpen] using hop
    have HS : Hid (SegR w g o ts) := hs
    clear hg hs hbo hba hor hand hno hop ih
    go_enter Tryz.func131, Tryz.ntmps131
    go_wp2_with fail
    refine (outside_any ts kOr g o cap _ HS.out (by omega) hc).mono ?_
    rintro e w' ⟨rfl, hw⟩; obtain rfl := hw.symm; rw [HO1.out]
    go_wp2_with fail
    refine (outside_any ts kAnd g o cap _ HS.out (by omega) hc).mono ?_
    rintro e w' ⟨rfl, hw⟩; obtain rfl := hw.symm; rw [HO2.out]
    go_wp2_with fail
    go_ret2
    exact ⟨ret_ints (by rw [HR.out]) (by rw [HR.out]), rfl⟩

theorem weight_any (n : Nat) : WtSaid n := by
  induction n with
  | zero => intro ts g o cap w _ _ _ _ hg; simp [goodT] at hg
  | succ n ih =>
    intro ts g o cap w hs hsz hc hm hg
    by_cases ho : 0 ≤ outB ts kOr
    · exact weight_or n ih ts g o cap w hs hsz hc hm hg ho
    · by_cases ha : 0 ≤ outB ts kAnd
      · exact weight_and n ih ts g o cap w hs hsz hc hm hg ho ha
      · exact weight_one n ih ts g o cap w hs hsz hc hm hg ho ha
end Go.Proofs.YtnbpdffdnphbeaaGreatDoor

/- What crowded of the document's answer gives: is a line one more than there may be, or is there too much in it? -/
namespace Go.Proofs.YtnbpdffdnphbeaaGreatDoor
open Go.RowKit

theorem cls_num_len {s : Bs} (h : clsB s = numberB) : s.length ≤ 4 := by
  rcases Nat.lt_or_ge 4 s.length with h1 | h1
  · exfalso
    have hk := (cls_number s).2 h
    unfold pkind at hk
    split at hk
    · split at hk
      · omega
      · split at hk <;> omega
    · split at hk
      · rw [if_pos (.inl h1)] at hk; omega
      · split at hk <;> omega
  · exact h1

theorem cntR_drop (c : Bs) (us : List Toks) (i k : Nat) (hi : i < us.length) (hk : k ≤ i) : cntR c ((us.take (i + 1)).drop k) = (if cA (uA us k) 0 = c then 1 else 0) + cntR c ((us.take (i + 1)).drop (k + 1)) := by
  have hl : k < (us.take (i + 1)).length := by rw [List.length_take]; omega
  rw [List.drop_eq_getElem_cons hl, cntR]
  have e : (us.take (i + 1))[k] = uA us k := by
    rw [List.getElem_take]; unfold uA; rw [List.getD, List.getElem?_eq_getElem (by omega)]; rfl
  rw [e]
theorem cntR_le (c : Bs) (us : List Toks) : cntR c us ≤ us.length := by
  induction us with
  | nil => exact Nat.le_refl _
  | cons u r ih => rw [cntR, List.length_cons]; split <;> omega

/-- The text of the token ahead. -/
def prevT (u : Toks) (k : Nat) : Bs := if k = 0 then [] else tA u (k - 1)
theorem prevT_succ (u : Toks) (k : Nat) : prevT u (k + 1) = tA u k := by unfold prevT; rw [if_neg (by omega)]; rfl
theorem take_drop_cons (u : Toks) (w k : Nat) (hk : k < w) (hw : w ≤ u.length) : (u.take w).drop k = u.getD k (0, []) :: (u.take w).drop (k + 1) := by
  have hl : k < (u.take w).length := by rw [List.length_take]; omega
  rw [drop_consT (u.take w) k hl]
  congr 1
  rw [List.getD, List.getD, List.getElem?_take_of_lt hk]
theorem cntPM_le (u : Toks) : cntPM u ≤ u.length := by
  induction u with
  | nil => exact Nat.le_refl _
  | cons t r ih => rw [cntPM, List.length_cons]; split <;> omega

theorem big_step (u : Toks) (w k : Nat) (hk : k < w) (hw : w ≤ u.length) : bigG (prevT u k) ((u.take w).drop k) = ((decide (cA u k = [42]) && decide (9 < valF 0 (prevT u k))) || bigG (prevT u (k + 1)) ((u.take w).drop (k + 1))) := by
  rw [take_drop_cons u w k hk hw, bigG, prevT_succ]; rfl
theorem pm_step (u : Toks) (w k : Nat) (hk : k < w) (hw : w ≤ u.length) : cntPM ((u.take w).drop k) = (if cA u k = [43] ∨ cA u k = [45] then 1 else 0) + cntPM ((u.take w).drop (k + 1)) := by
  rw [take_drop_cons u w k hk hw, cntPM]; rfl

/-- How many lines of a class there are, up to one: the loop's answer, in any world. -/
theorem crowdR_no {us : List Toks} {i : Nat} (h : ¬ limR (cA (uA us i) 0) < (cntR (cA (uA us i) 0) (us.take (i + 1)) : Int)) (hk : ¬ cA (uA us i) 0 = kRule) : crowdR us i = false := by
  unfold crowdR; rw [decide_eq_false h, decide_eq_false hk]; rfl
theorem crowdR_rule {us : List Toks} {i : Nat} (h : ¬ limR (cA (uA us i) 0) < (cntR (cA (uA us i) 0) (us.take (i + 1)) : Int)) (hk : cA (uA us i) 0 = kRule) : crowdR us i = manyU (uA us i) := by
  unfold crowdR; rw [decide_eq_false h, decide_eq_true hk]; rfl

set_option maxHeartbeats 4000000 in
theorem crowded_s (w : World) (a : Option Addr) (c : Nat) (ls : List PLine) (us : List Toks) (i : Nat) (hi : i < us.length) (h : RowL w a us) (hA : AllLT ls us) :
    Calls Tryz.prog 75 #[.slice a us.length c, .int .i64 i] w fun e w' => e = .returned (.bool (crowdR us i)) ∧ Below w.heap.size w w' := by
  have HR := hideP2 h
  have hfew := h.few
  have HP : Hid (∀ k, k < us.length → 0 < (uA us k).length) := fun k hk => by have := (hA.get k hk).two; omega
  have HLT := hideP2 (hA.get i hi)
  have hcl := cntR_le (cA (uA us i) 0) (us.take (i + 1))
  rw [List.length_take] at hcl
  have hlim : 0 ≤ limR (cA (uA us i) 0) ∧ limR (cA (uA us i) 0) ≤ 28 := by unfold limR; repeat' split <;> omega
  clear h hA
  go_enter Tryz.func75, Tryz.ntmps75
  go_wp2_with fail
  go_loopw [5, 6] (fun nv kv wr => ∃ (n k : Nat), k ≤ i + 1 ∧ n ≤ k ∧ nv = .int .i64 n ∧ kv = .int .i64 k ∧ Hid (Below w.heap.size w wr) ∧ Hid (n + cntR (cA (uA us i) 0) ((us.take (i + 1)).drop k) = cntR (cA (uA us i) 0) (us.take (i + 1)))) (fun _ kv _ => i + 1 - (intOf kv).toNat)
  case atStart => exact ⟨0, 0, by omega, Nat.le_refl _, rfl, rfl, hideP2 (Below.refl _ _), hideP2 (by simp)⟩
  case round =>
    obtain ⟨n, k, hk, hn, rfl, rfl, HB, HE⟩ := hrel
    by_cases hki : k ≤ i
    · have hRr := HR.out.below HB.out
      obtain ⟨gl, g, o, cu, rfl, hcell, hseg, hlc, hcm, hsm⟩ := hRr.at (show k < us.length by omega)
      obtain ⟨gl', g', o', cu', hgg, hcell', hseg', hlc', hcm', hsm'⟩ := hRr.at hi
      obtain rfl : gl = gl' := by simpa using hgg
      have hp := HP.out k (by omega)
      have hp' := HP.out i hi
      have hc0 := (hseg.tok hp).2
      have hc0' := (hseg'.tok hp').2
      rw [Nat.zero_mul, Nat.add_zero] at hc0 hc0'
      have hE := HE.out
      rw [cntR_drop _ us i k hi hki] at hE
      have HE2 := hideP2 hE
      have ik : (k : Int) < (us.length : Int) := by omega
      have ii : (i : Int) < (us.length : Int) := by omega
      have il : (0 : Int) < ((uA us k).length : Int) := by omega
      have il' : (0 : Int) < ((uA us i).length : Int) := by omega
      clear HE hE hseg hseg' hgg hRr hcl hlim
      by_cases k1 : cA (uA us k) 0 = cA (uA us i) 0
      · have HE3 : Hid (n + 1 + cntR (cA (uA us i) 0) ((us.take (i + 1)).drop (k + 1)) = cntR (cA (uA us i) 0) (us.take (i + 1))) := by have := HE2.out; rw [if_pos k1] at this; unfold Hid; omega
        have b1 : (cA (uA us k) 0 == cA (uA us i) 0) = true := by simpa using k1
        clear HE2 k1
        go_wp2_with fail
        go_quiet (fail)
        go_wp2_with fail
        go_roundw
        case rel => exact ⟨n + 1, k + 1, by omega, by omega, by go_num, by go_num, hideP2 (below_drewN HB.out _), HE3⟩
        case measure => simp [intOf]; omega
      · have HE3 : Hid (n + cntR (cA (uA us i) 0) ((us.take (i + 1)).drop (k + 1)) = cntR (cA (uA us i) 0) (us.take (i + 1))) := by have := HE2.out; rw [if_neg k1] at this; unfold Hid; omega
        have b1 : (cA (uA us k) 0 == cA (uA us i) 0) = false := by simpa using k1
        clear HE2 k1
        go_wp2_with fail
        go_quiet (fail)
        go_wp2_with fail
        go_roundw
        case rel => exact ⟨n, k + 1, by omega, by omega, rfl, by go_num, hideP2 (below_drewN HB.out _), HE3⟩
        case measure => simp [intOf]; omega
    · have HN : Hid (n = cntR (cA (uA us i) 0) (us.take (i + 1))) := by
        have := HE.out; rw [List.drop_eq_nil_of_le (by rw [List.length_take]; omega)] at this; exact this
      have hRr := HR.out.below HB.out
      obtain ⟨gl, g, o, cu, rfl, hcell, hseg, hlc, hcm, hsm⟩ := hRr.at hi
      have hp := HP.out i hi
      have hc0 := (hseg.tok hp).2
      rw [Nat.zero_mul, Nat.add_zero] at hc0
      have il : (0 : Int) < ((uA us i).length : Int) := by omega
      have HSg := hideP2 hseg
      have HLim := hideP2 (fun w' => limitR_s (cA (uA us i) 0) w')
      have HC0 := hideP2 (fun h1 => crowdR_no (us := us) (i := i) h1)
      have HC1 := hideP2 (fun h1 => crowdR_rule (us := us) (i := i) h1)
      have HCt : Hid (limR (cA (uA us i) 0) < (cntR (cA (uA us i) 0) (us.take (i + 1)) : Int) → crowdR us i = true) := fun h1 => by unfold crowdR; rw [decide_eq_true h1]; rfl
      obtain ⟨n', hn'⟩ : ∃ n', n' = cntR (cA (uA us i) 0) (us.take (i + 1)) := ⟨_, rfl⟩
      rw [← hn'] at HC0 HC1 HCt hcl HN
      obtain rfl : n = n' := HN.out
      have HRl := hideP2 (fun hk => HLT.out.rule hk)
      have HTo := hideP2 HLT.out.toks
      clear HE hn' HN hRr hseg HP HLT
      generalize hu : uA us i = u at *
      have HU := hideP2 hu
      clear hu
      generalize hlm : limR (cA u 0) = lm at *
      by_cases hm : lm < (n : Int)
      · have HF := hideP2 (HCt.out hm)
        clear HC0 HC1 HCt hlm
        generalize cA u 0 = cl at *
        go_wp2_with fail
        refine (HLim.out _).mono ?_
        rintro e w1 ⟨rfl, hw⟩; obtain rfl := hw.symm
        go_wp2_with fail
        go_ret
        exact ⟨ret_bool HF.out.symm, HB.out⟩
      · by_cases hkr : cA u 0 = kRule
        · have HF := hideP2 (HC1.out hm hkr)
          obtain ⟨w0, hw0⟩ := HRl.out hkr
          have HW0 := hideP2 hw0
          clear HC0 HC1 HCt hlm HRl
          have hwlo := hw0.wlo
          have hwhi := hw0.whi
          have HWn := hideP2 hw0.wB
          have HWt := hideP2 (weight_any (u.length + 1) (u.drop (w0 + 1)) g (o + (w0 + 1) * 3) (cu - (w0 + 1)) wr (HSg.out.drop (w0 + 1)) (by rw [List.length_drop]; omega) (by rw [List.length_drop]; omega) (by omega) (hw0.good _ (by omega)))
          rw [List.length_drop] at HWt
          have HMU : Hid (manyU u = (bigG [] (u.take w0) || (decide (4 < (cntPM (u.take w0) : Int) + 1) || (decide (6 < (weightG (u.length + 1) (u.drop (w0 + 1))).1) || decide (4 < (weightG (u.length + 1) (u.drop (w0 + 1))).2))))) := by unfold Hid manyU; rw [hw0.wAt]
          have hpm := cntPM_le (u.take w0)
          rw [List.length_take] at hpm
          rw [hkr] at hc0 HLim
          simp only [kRule] at hc0
          have HLim2 : Hid (∀ w' : World, Calls Tryz.prog 129 #[.string ⟨#[114, 117, 108, 101]⟩] w' fun e w'' => e = .returned (.int .i64 lm) ∧ w'' = w') := HLim
          clear hw0 hkr HLim
          generalize weightG (u.length + 1) (u.drop (w0 + 1)) = wt at *
          obtain ⟨wt1, wt2⟩ := wt
          simp only at HWt HMU
          go_wp2_with fail
          refine (HLim2.out _).mono ?_
          rintro e w1 ⟨rfl, hw⟩; obtain rfl := hw.symm
          go_wp2_with fail
          refine (when_any u g o cu _ HSg.out (by omega) hlc).mono ?_
          rintro e w1 ⟨rfl, hw⟩; obtain rfl := hw.symm; rw [HWn.out]
          go_wp2_with fail
          go_loop [8, 9] (fun pv kv => ∃ (p k : Nat), k ≤ w0 ∧ p ≤ k ∧ pv = .int .i64 ((p : Int) + 1) ∧ kv = .int .i64 k ∧ Hid (bigG (prevT u k) ((u.take w0).drop k) = bigG [] (u.take w0)) ∧ Hid (p + cntPM ((u.take w0).drop k) = cntPM (u.take w0))) (fun _ kv => w0 - (intOf kv).toNat)
          case atStart => exact ⟨0, 0, Nat.zero_le _, Nat.le_refl _, rfl, rfl, hideP2 rfl, hideP2 (by simp)⟩
          case round =>
            obtain ⟨p, k, hk, hpk, rfl, rfl, HBg, HPm⟩ := hrel
            by_cases hkw : k < w0
            · have hE := HBg.out
              have hP := HPm.out
              rw [big_step u w0 k hkw (by omega)] at hE
              rw [pm_step u w0 k hkw (by omega)] at hP
              have hck := (HSg.out.tok (show k < u.length by omega)).2
              have hst := HW0.out.stars k hkw
              have HT1 := hideP2 (fun hk1 : 0 < k => (HSg.out.tok (show k - 1 < u.length by omega)).1)
              have ikl : (k : Int) < (u.length : Int) := by omega
              have HE2 := hideP2 hE
              have HP2 := hideP2 hP
              have HSt := hideP2 hst
              clear HBg HPm hE hP hst
              obtain ⟨cl, hcl2⟩ : ∃ cl, cA u k = cl := ⟨_, rfl⟩
              rw [hcl2] at HE2 HP2 HSt hck
              clear hcl2
              by_cases k1 : cl = [43]
              · subst k1
                have HE3 : Hid (bigG (prevT u (k + 1)) ((u.take w0).drop (k + 1)) = bigG [] (u.take w0)) := HE2.out
                have HP3 : Hid (p + 1 + cntPM ((u.take w0).drop (k + 1)) = cntPM (u.take w0)) := by have := HP2.out; rw [if_pos (.inl rfl)] at this; unfold Hid; omega
                clear HE2 HP2
                go_wp2_with fail
                go_round
                case rel => exact ⟨p + 1, k + 1, by omega, by omega, by go_num, by go_num, HE3, HP3⟩
                case measure => simp [intOf]; omega
              by_cases k2 : cl = [45]
              · subst k2
                have HE3 : Hid (bigG (prevT u (k + 1)) ((u.take w0).drop (k + 1)) = bigG [] (u.take w0)) := HE2.out
                have HP3 : Hid (p + 1 + cntPM ((u.take w0).drop (k + 1)) = cntPM (u.take w0)) := by have := HP2.out; rw [if_pos (.inr rfl)] at this; unfold Hid; omega
                clear HE2 HP2 k1
                go_wp2_with fail
                go_round
                case rel => exact ⟨p + 1, k + 1, by omega, by omega, by go_num, by go_num, HE3, HP3⟩
                case measure => simp [intOf]; omega
              have HP3 : Hid (p + cntPM ((u.take w0).drop (k + 1)) = cntPM (u.take w0)) := by have := HP2.out; rw [if_neg (by rintro (e | e); exact k1 e; exact k2 e)] at this; unfold Hid; omega
              clear HP2
              by_cases k3 : cl = [42]
              · subst k3
                obtain ⟨hk1, hnum⟩ := HSt.out rfl
                have ht1 := HT1.out hk1
                have hlen4 := cls_num_len hnum
                have e1 : prevT u k = tA u (k - 1) := by unfold prevT; rw [if_neg (by omega)]
                rw [e1] at HE2
                have HNm := hideP2 (numberR_s (tA u (k - 1)) wr hlen4)
                obtain ⟨k', rfl⟩ : ∃ k', k = k' + 1 := ⟨k - 1, by omega⟩
                rw [show k' + 1 - 1 = k' by omega] at ht1 HE2 HNm
                clear k1 k2 HSt HT1 hnum hlen4 e1
                generalize tA u k' = tt at *
                by_cases k9 : 9 < valF 0 tt
                · have HT : Hid (crowdR us i = true) := by
                    unfold Hid; rw [HF.out, HMU.out, ← HE2.out, decide_eq_true k9]; rfl
                  clear HE2
                  generalize valF 0 tt = vv at *
                  go_wp2_with fail
                  refine HNm.out.mono ?_
                  rintro e w1 ⟨rfl, hw⟩; obtain rfl := hw.symm
                  go_wp2_with fail
                  go_ret
                  exact ⟨ret_bool HT.out.symm, HB.out⟩
                · have HE3 : Hid (bigG (prevT u (k' + 1 + 1)) ((u.take w0).drop (k' + 1 + 1)) = bigG [] (u.take w0)) := by have := HE2.out; rw [decide_eq_false k9, Bool.and_false, Bool.false_or] at this; exact this
                  clear HE2
                  generalize valF 0 tt = vv at *
                  go_wp2_with fail
                  refine HNm.out.mono ?_
                  rintro e w1 ⟨rfl, hw⟩; obtain rfl := hw.symm
                  go_wp2_with fail
                  go_round
                  case rel => exact ⟨p, k' + 1 + 1, by omega, by omega, rfl, by go_num, HE3, HP3⟩
                  case measure => simp [intOf]; omega
              · have HE3 : Hid (bigG (prevT u (k + 1)) ((u.take w0).drop (k + 1)) = bigG [] (u.take w0)) := by have := HE2.out; rw [decide_eq_false k3, Bool.false_and, Bool.false_or] at this; exact this
                have b1 : (cl == [43]) = false := by simpa using k1
                have b2 : (cl == [45]) = false := by simpa using k2
                have b3 : (cl == [42]) = false := by simpa using k3
                clear HE2 k1 k2 k3 HSt HT1
                go_wp2_with fail
                go_round
                case rel => exact ⟨p, k + 1, by omega, by omega, rfl, by go_num, HE3, HP3⟩
                case measure => simp [intOf]; omega
            · obtain rfl : k = w0 := by omega
              have HF2 : Hid (crowdR us i = (decide (4 < (p : Int) + 1) || (decide (6 < wt1) || decide (4 < wt2)))) := by
                have h1 := HBg.out
                have h2 := HPm.out
                rw [List.drop_eq_nil_of_le (by rw [List.length_take]; omega)] at h1 h2
                have h3 : bigG [] (u.take k) = false := h1.symm
                have h4 : cntPM (u.take k) = p := h2.symm
                unfold Hid; rw [HF.out, HMU.out, h3, h4]; rfl
              clear HBg HPm HF HMU
              by_cases j1 : 4 < (p : Int) + 1
              · have HF3 : Hid (crowdR us i = true) := by unfold Hid; rw [HF2.out, decide_eq_true j1]; rfl
                clear HF2
                go_wp2_with fail
                refine HWt.out.mono ?_
                rintro e w1 ⟨rfl, hw⟩; obtain rfl := hw.symm
                go_wp2_with fail
                go_ret
                exact ⟨ret_bool HF3.out.symm, HB.out⟩
              by_cases j2 : 6 < wt1
              · have HF3 : Hid (crowdR us i = true) := by unfold Hid; rw [HF2.out, decide_eq_true j2, Bool.true_or, Bool.or_true]
                clear HF2
                go_wp2_with fail
                refine HWt.out.mono ?_
                rintro e w1 ⟨rfl, hw⟩; obtain rfl := hw.symm
                go_wp2_with fail
                go_ret
                exact ⟨ret_bool HF3.out.symm, HB.out⟩
              have HF3 : Hid (crowdR us i = decide (4 < wt2)) := by unfold Hid; rw [HF2.out, decide_eq_false j1, decide_eq_false j2]; rfl
              clear HF2
              go_wp2_with fail
              refine HWt.out.mono ?_
              rintro e w1 ⟨rfl, hw⟩; obtain rfl := hw.symm
              go_wp2_with fail
              go_ret
              exact ⟨ret_bool (by rw [HF3.out, decide_eq_false (show ¬ 4 < (p : Int) + 1 by omega), decide_eq_false (show ¬ 6 < wt1 by omega)]; rfl), HB.out⟩
        · have HF := hideP2 (HC0.out hm hkr)
          clear HC0 HC1 HCt hlm HRl
          generalize cA u 0 = cl at *
          have b1 : (cl == [114, 117, 108, 101]) = false := by simpa [kRule] using hkr
          clear hkr
          go_wp2_with fail
          refine (HLim.out _).mono ?_
          rintro e w1 ⟨rfl, hw⟩; obtain rfl := hw.symm
          go_wp2_with fail
          go_ret
          exact ⟨ret_bool HF.out.symm, HB.out⟩
end Go.Proofs.YtnbpdffdnphbeaaGreatDoor
