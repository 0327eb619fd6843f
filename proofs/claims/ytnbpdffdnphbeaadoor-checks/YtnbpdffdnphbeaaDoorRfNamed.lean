/- What fits and named of the document's answer give: are a line's names those that may stand there? -/
import Derived.Test.YtnbpdffdnphbeaaDoorRfBase
import Derived.Test.YtnbpdffdnphbeaaDoorTidied
import Derived.Test.YtnbpdffdnphbeaaDoorPWeight
namespace Go.Proofs.YtnbpdffdnphbeaaDoor
open Go.RowKit

def cmpW : Bs := [60, 32, 60, 61, 32, 61, 32, 33, 61, 32, 62, 61, 32, 62]
theorem among_cmp (s : Bs) : amongB cmpW s = decide (s ∈ cmpL) := by
  rw [among_iff, show wordsG cmpW (cmpW.length + 1) 0 0 = cmpL by decide]

theorem amongC_s (s : Bs) (w : World) : Calls Tryd.prog 98 #[.string ⟨#[60, 32, 60, 61, 32, 61, 32, 33, 61, 32, 62, 61, 32, 62]⟩, .string ⟨s.toArray⟩] w fun e w' => e = .returned (.bool (decide (s ∈ cmpL))) ∧ w' = w := by
  have := among_any cmpW s w (by decide)
  rw [among_cmp] at this
  exact this

set_option maxHeartbeats 2000000 in
theorem fits_s (w : World) (a : Option Addr) (c : Nat) (ls : List PLine) (us : List Toks) (u : Toks) (g o cu k w0 : Nat) (h : RowL w a us) (hA : AllLT ls us) (hs : SegR w g o u) (hsm : u.length ≤ 10000) (hcu : u.length ≤ cu) (hk1 : 1 ≤ k) (hk : k < u.length) (hw0 : whenB u = w0) :
    Calls Tryd.prog 75 #[.slice a us.length c, .slice (some ⟨g, o, none⟩) u.length cu, .int .i64 k] w fun e w' => e = .returned (.bool (fitsR us u k)) ∧ w' = w := by
  have HN := hideP2 (isNum_s w a c ls us (tA u k) h hA)
  have HF := hideP2 (isFlag_s w a c ls us (tA u k) h hA)
  have HH := hideP2 (isHead_s w a c ls us (tA u k) h hA)
  have HW := hideP2 (when_any u g o cu w hs hsm hcu)
  rw [hw0] at HW
  have hwA : wA' u = w0 := by unfold wA'; rw [hw0]; rfl
  obtain ⟨k', rfl⟩ : ∃ k', k = k' + 1 := ⟨k - 1, by omega⟩
  have hck := (hs.tok hk).1
  have hcp := (hs.tok (show k' < u.length by omega)).2
  have HCn := hideP2 (fun h1 : k' + 1 + 1 < u.length => (hs.tok h1).2)
  have ikl : ((k' : Int) + 1) < (u.length : Int) := by omega
  have ikl2 : (k' : Int) < (u.length : Int) := by omega
  by_cases kw : k' + 1 < w0
  · have HR : Hid (fitsR us u (k' + 1) = (isNumR us (tA u (k' + 1)) || isHeadR us (tA u (k' + 1)))) := by unfold Hid fitsR kindAt; rw [hwA, if_pos kw]; rfl
    clear h hA hs hw0 hwA HF HCn hcp
    generalize isNumR us (tA u (k' + 1)) = p at *
    generalize isHeadR us (tA u (k' + 1)) = q at *
    generalize tA u (k' + 1) = tt at *
    cases p
    · go_enter Tryd.func75, Tryd.ntmps75
      go_wp2_with fail
      refine HW.out.mono ?_
      rintro e w1 ⟨rfl, hw⟩; obtain rfl := hw.symm
      go_wp2_with fail
      refine HN.out.mono ?_
      rintro e w1 ⟨rfl, hw⟩; obtain rfl := hw.symm
      go_wp2_with fail
      refine HH.out.mono ?_
      rintro e w1 ⟨rfl, hw⟩; obtain rfl := hw.symm
      go_wp2_with fail
      go_ret
      exact ⟨ret_bool HR.out.symm, rfl⟩
    · go_enter Tryd.func75, Tryd.ntmps75
      go_wp2_with fail
      refine HW.out.mono ?_
      rintro e w1 ⟨rfl, hw⟩; obtain rfl := hw.symm
      go_wp2_with fail
      refine HN.out.mono ?_
      rintro e w1 ⟨rfl, hw⟩; obtain rfl := hw.symm
      go_wp2_with fail
      go_ret
      exact ⟨ret_bool HR.out.symm, rfl⟩
  have HR0 : Hid (fitsR us u (k' + 1) = okR us (needK (cA u k') (nxA u (k' + 1)), tA u (k' + 1))) := by unfold Hid fitsR kindAt; rw [hwA, if_neg kw]; rfl
  clear h hA hs hw0 hwA
  generalize hcl : cA u k' = cl at *
  clear hcl
  by_cases kh : cl = [104, 97, 115]
  · subst kh
    have HR : Hid (fitsR us u (k' + 1) = isHeadR us (tA u (k' + 1))) := by unfold Hid; rw [HR0.out, show needK [104, 97, 115] (nxA u (k' + 1)) = 1 from if_pos rfl]; rfl
    clear HR0 HN HF HCn
    generalize isHeadR us (tA u (k' + 1)) = q at *
    generalize tA u (k' + 1) = tt at *
    go_enter Tryd.func75, Tryd.ntmps75
    go_wp2_with fail
    refine HW.out.mono ?_
    rintro e w1 ⟨rfl, hw⟩; obtain rfl := hw.symm
    go_wp2_with fail
    refine HH.out.mono ?_
    rintro e w1 ⟨rfl, hw⟩; obtain rfl := hw.symm
    go_wp2_with fail
    go_ret
    exact ⟨ret_bool HR.out.symm, rfl⟩
  have bh : (cl == [104, 97, 115]) = false := by simpa using kh
  have HA1 := hideP2 (amongC_s cl w)
  by_cases kc : cl ∈ cmpL
  · have HR : Hid (fitsR us u (k' + 1) = isNumR us (tA u (k' + 1))) := by unfold Hid; rw [HR0.out, needK_2 kh (.inl kc)]; rfl
    rw [decide_eq_true kc] at HA1
    clear HR0 HH HF HCn kh kc
    generalize isNumR us (tA u (k' + 1)) = q at *
    generalize tA u (k' + 1) = tt at *
    go_enter Tryd.func75, Tryd.ntmps75
    go_wp2_with fail
    refine HW.out.mono ?_
    rintro e w1 ⟨rfl, hw⟩; obtain rfl := hw.symm
    go_wp2_with fail
    refine HA1.out.mono ?_
    rintro e w1 ⟨rfl, hw⟩; obtain rfl := hw.symm
    go_wp2_with fail
    refine HN.out.mono ?_
    rintro e w1 ⟨rfl, hw⟩; obtain rfl := hw.symm
    go_wp2_with fail
    go_ret
    exact ⟨ret_bool HR.out.symm, rfl⟩
  rw [decide_eq_false kc] at HA1
  by_cases kn : k' + 1 + 1 < u.length
  · have hcn := HCn.out kn
    have hnx : nxA u (k' + 1) = cA u (k' + 1 + 1) := by unfold nxA; rw [if_pos kn]
    rw [hnx] at HR0
    have HA2 := hideP2 (amongC_s (cA u (k' + 1 + 1)) w)
    have ikn : ((k' : Int) + 1 + 1) < (u.length : Int) := by omega
    generalize hcl2 : cA u (k' + 1 + 1) = cl2 at *
    clear hcl2 hnx HCn
    by_cases kc2 : cl2 ∈ cmpL
    · have HR : Hid (fitsR us u (k' + 1) = isNumR us (tA u (k' + 1))) := by unfold Hid; rw [HR0.out, needK_2 kh (.inr kc2)]; rfl
      rw [decide_eq_true kc2] at HA2
      clear HR0 HH HF kh kc kc2
      generalize isNumR us (tA u (k' + 1)) = q at *
      generalize tA u (k' + 1) = tt at *
      go_enter Tryd.func75, Tryd.ntmps75
      go_wp2_with fail
      refine HW.out.mono ?_
      rintro e w1 ⟨rfl, hw⟩; obtain rfl := hw.symm
      go_wp2_with fail
      refine HA1.out.mono ?_
      rintro e w1 ⟨rfl, hw⟩; obtain rfl := hw.symm
      go_wp2_with fail
      refine HA2.out.mono ?_
      rintro e w1 ⟨rfl, hw⟩; obtain rfl := hw.symm
      go_wp2_with fail
      refine HN.out.mono ?_
      rintro e w1 ⟨rfl, hw⟩; obtain rfl := hw.symm
      go_wp2_with fail
      go_ret
      exact ⟨ret_bool HR.out.symm, rfl⟩
    · have HR : Hid (fitsR us u (k' + 1) = isFlagR us (tA u (k' + 1))) := by unfold Hid; rw [HR0.out, needK_3 ⟨kh, kc⟩ kc2]; rfl
      rw [decide_eq_false kc2] at HA2
      clear HR0 HH HN kh kc kc2
      generalize isFlagR us (tA u (k' + 1)) = q at *
      generalize tA u (k' + 1) = tt at *
      go_enter Tryd.func75, Tryd.ntmps75
      go_wp2_with fail
      refine HW.out.mono ?_
      rintro e w1 ⟨rfl, hw⟩; obtain rfl := hw.symm
      go_wp2_with fail
      refine HA1.out.mono ?_
      rintro e w1 ⟨rfl, hw⟩; obtain rfl := hw.symm
      go_wp2_with fail
      refine HA2.out.mono ?_
      rintro e w1 ⟨rfl, hw⟩; obtain rfl := hw.symm
      go_wp2_with fail
      refine HF.out.mono ?_
      rintro e w1 ⟨rfl, hw⟩; obtain rfl := hw.symm
      go_wp2_with fail
      go_ret
      exact ⟨ret_bool HR.out.symm, rfl⟩
  · have hnx : nxA u (k' + 1) = [] := by unfold nxA; rw [if_neg kn]
    have HR : Hid (fitsR us u (k' + 1) = isFlagR us (tA u (k' + 1))) := by unfold Hid; rw [HR0.out, hnx, needK_3 ⟨kh, kc⟩ (by decide)]; rfl
    have ikn : (u.length : Int) ≤ (k' : Int) + 1 + 1 := by omega
    clear HR0 HH HN kh kc HCn hnx
    generalize isFlagR us (tA u (k' + 1)) = q at *
    generalize tA u (k' + 1) = tt at *
    go_enter Tryd.func75, Tryd.ntmps75
    go_wp2_with fail
    refine HW.out.mono ?_
    rintro e w1 ⟨rfl, hw⟩; obtain rfl := hw.symm
    go_wp2_with fail
    refine HA1.out.mono ?_
    rintro e w1 ⟨rfl, hw⟩; obtain rfl := hw.symm
    go_wp2_with fail
    refine HF.out.mono ?_
    rintro e w1 ⟨rfl, hw⟩; obtain rfl := hw.symm
    go_wp2_with fail
    go_ret
    exact ⟨ret_bool HR.out.symm, rfl⟩
end Go.Proofs.YtnbpdffdnphbeaaDoor

/- What weight of the document's answer gives of the tokens of a guard: its tests and its depth. -/
namespace Go.Proofs.YtnbpdffdnphbeaaDoor
open Go.RowKit

theorem ret_ints {a b c d : Int} (h : a = c) (k : b = d) : Ending.returned (.tuple #[.int .i64 a, .int .i64 b]) = .returned (.tuple #[.int .i64 c, .int .i64 d]) := by rw [h, k]

def WtSaid (n : Nat) : Prop := ∀ (ts : Toks) (g o cap : Nat) (w : World), SegR w g o ts → ts.length ≤ 10000 → ts.length ≤ cap → cap ≤ maxLen → goodT n ts = true →
    Calls Tryd.prog 38 #[.slice (some ⟨g, o, none⟩) ts.length cap] w fun e w' => e = .returned (.tuple #[.int .i64 (weightG n ts).1, .int .i64 (weightG n ts).2]) ∧ w' = w

set_option maxHeartbeats 1000000 in
theorem weight_or (n : Nat) (ih : WtSaid n) (ts : Toks) (g o cap : Nat) (w : World) (hs : SegR w g o ts) (hsz : ts.length ≤ 10000) (hc : ts.length ≤ cap) (hm : cap ≤ maxLen) (hg : goodT (n + 1) ts = true) (ho : 0 ≤ outB ts kOr) :
    Calls Tryd.prog 38 #[.slice (some ⟨g, o, none⟩) ts.length cap] w fun e w' => e = .returned (.tuple #[.int .i64 (weightG (n + 1) ts).1, .int .i64 (weightG (n + 1) ts).2]) ∧ w' = w := by
  obtain ⟨k, hk⟩ := Int.eq_ofNat_of_zero_le ho
  have hb := outB_bound ts kOr
  rw [goodT, if_pos ho, hk, Int.toNat_natCast, Bool.and_eq_true] at hg
  have hd := goodT_pos hg.2
  rw [List.length_drop] at hd
  have HA := ih (ts.take k) g o cap w (hs.take k) (by rw [List.length_take]; omega) (by rw [List.length_take]; omega) hm hg.1
  have HB := ih (ts.drop (k + 1)) g (o + (k + 1) * 3) (cap - (k + 1)) w (hs.drop (k + 1)) (by rw [List.length_drop]; omega) (by rw [List.length_drop]; omega) (by omega) hg.2
  have la := weightG_bound n (ts.take k)
  have lb := weightG_bound n (ts.drop (k + 1))
  have HR : Hid (weightG (n + 1) ts = wtJoin (weightG n (ts.take k)) (weightG n (ts.drop (k + 1)))) := by
    unfold Hid; rw [weightG, if_pos ho, hk, Int.toNat_natCast]
  rw [List.length_take, Nat.min_eq_left (by omega)] at HA la
  rw [List.length_drop] at HB lb
  generalize weightG n (ts.take k) = a at *
  generalize weightG n (ts.drop (k + 1)) = b at *
  obtain ⟨a1, a2⟩ := a
  obtain ⟨b1, b2⟩ := b
  simp only [wtJoin] at HA HB HR la lb
  have HA' := hideP HA
  have HB' := hideP HB
  have HO : Hid (outB ts kOr = k) := hk
  have hk2 : k + 1 < ts.length := by omega
  have HS : Hid (SegR w g o ts) := hs
  have i1 : -20000 ≤ a1 + b1 := by omega
  have i2 : a1 + b1 ≤ 20002 := by omega
  clear HA HB hg hs hb hk ho ih hd la lb
  by_cases kz : a2 < b2
  · have HR2 : Hid (weightG (n + 1) ts = (a1 + b1, b2)) := by have h1 := HR.out; rw [if_pos kz] at h1; exact h1
    clear HR
    go_enter Tryd.func38, Tryd.ntmps38
    go_wp2_with fail
    refine (outside_any ts kOr g o cap _ HS.out (by omega) hc).mono ?_
    rintro e w' ⟨rfl, hw⟩; obtain rfl := hw.symm; rw [HO.out]
    go_wp2_with fail
    refine HA'.out.mono ?_
    rintro e w' ⟨rfl, hw⟩; obtain rfl := hw.symm
    go_wp2_with fail
    refine HB'.out.mono ?_
    rintro e w' ⟨rfl, hw⟩; obtain rfl := hw.symm
    go_wp2_with fail
    go_ret2
    exact ⟨ret_ints (by rw [HR2.out]) (by rw [HR2.out]), rfl⟩
  · have HR2 : Hid (weightG (n + 1) ts = (a1 + b1, a2)) := by have h1 := HR.out; rw [if_neg kz] at h1; exact h1
    clear HR
    go_enter Tryd.func38, Tryd.ntmps38
    go_wp2_with fail
    refine (outside_any ts kOr g o cap _ HS.out (by omega) hc).mono ?_
    rintro e w' ⟨rfl, hw⟩; obtain rfl := hw.symm; rw [HO.out]
    go_wp2_with fail
    refine HA'.out.mono ?_
    rintro e w' ⟨rfl, hw⟩; obtain rfl := hw.symm
    go_wp2_with fail
    refine HB'.out.mono ?_
    rintro e w' ⟨rfl, hw⟩; obtain rfl := hw.symm
    go_wp2_with fail
    go_ret2
    exact ⟨ret_ints (by rw [HR2.out]) (by rw [HR2.out]), rfl⟩

set_option maxHeartbeats 1000000 in
theorem weight_and (n : Nat) (ih : WtSaid n) (ts : Toks) (g o cap : Nat) (w : World) (hs : SegR w g o ts) (hsz : ts.length ≤ 10000) (hc : ts.length ≤ cap) (hm : cap ≤ maxLen) (hg : goodT (n + 1) ts = true) (hor : ¬ 0 ≤ outB ts kOr) (ho : 0 ≤ outB ts kAnd) :
    Calls Tryd.prog 38 #[.slice (some ⟨g, o, none⟩) ts.length cap] w fun e w' => e = .returned (.tuple #[.int .i64 (weightG (n + 1) ts).1, .int .i64 (weightG (n + 1) ts).2]) ∧ w' = w := by
  obtain ⟨k, hk⟩ := Int.eq_ofNat_of_zero_le ho
  have hb := outB_bound ts kAnd
  have hbo := outB_bound ts kOr
  have HO1 : Hid (outB ts kOr = -1) := by unfold Hid; omega
  rw [goodT, if_neg hor, if_pos ho, hk, Int.toNat_natCast, Bool.and_eq_true] at hg
  have hd := goodT_pos hg.2
  rw [List.length_drop] at hd
  have HA := ih (ts.take k) g o cap w (hs.take k) (by rw [List.length_take]; omega) (by rw [List.length_take]; omega) hm hg.1
  have HB := ih (ts.drop (k + 1)) g (o + (k + 1) * 3) (cap - (k + 1)) w (hs.drop (k + 1)) (by rw [List.length_drop]; omega) (by rw [List.length_drop]; omega) (by omega) hg.2
  have la := weightG_bound n (ts.take k)
  have lb := weightG_bound n (ts.drop (k + 1))
  have HR : Hid (weightG (n + 1) ts = wtJoin (weightG n (ts.take k)) (weightG n (ts.drop (k + 1)))) := by
    unfold Hid; rw [weightG, if_neg hor, if_pos ho, hk, Int.toNat_natCast]
  rw [List.length_take, Nat.min_eq_left (by omega)] at HA la
  rw [List.length_drop] at HB lb
  generalize weightG n (ts.take k) = a at *
  generalize weightG n (ts.drop (k + 1)) = b at *
  obtain ⟨a1, a2⟩ := a
  obtain ⟨b1, b2⟩ := b
  simp only [wtJoin] at HA HB HR la lb
  have HA' := hideP HA
  have HB' := hideP HB
  have HO : Hid (outB ts kAnd = k) := hk
  have hk2 : k + 1 < ts.length := by omega
  have HS : Hid (SegR w g o ts) := hs
  have i1 : -20000 ≤ a1 + b1 := by omega
  have i2 : a1 + b1 ≤ 20002 := by omega
  clear HA HB hg hs hb hbo hk ho hor ih hd la lb
  by_cases kz : a2 < b2
  · have HR2 : Hid (weightG (n + 1) ts = (a1 + b1, b2)) := by have h1 := HR.out; rw [if_pos kz] at h1; exact h1
    clear HR
    go_enter Tryd.func38, Tryd.ntmps38
    go_wp2_with fail
    refine (outside_any ts kOr g o cap _ HS.out (by omega) hc).mono ?_
    rintro e w' ⟨rfl, hw⟩; obtain rfl := hw.symm; rw [HO1.out]
    go_wp2_with fail
    refine (outside_any ts kAnd g o cap _ HS.out (by omega) hc).mono ?_
    rintro e w' ⟨rfl, hw⟩; obtain rfl := hw.symm; rw [HO.out]
    go_wp2_with fail
    refine HA'.out.mono ?_
    rintro e w' ⟨rfl, hw⟩; obtain rfl := hw.symm
    go_wp2_with fail
    refine HB'.out.mono ?_
    rintro e w' ⟨rfl, hw⟩; obtain rfl := hw.symm
    go_wp2_with fail
    go_ret2
    exact ⟨ret_ints (by rw [HR2.out]) (by rw [HR2.out]), rfl⟩
  · have HR2 : Hid (weightG (n + 1) ts = (a1 + b1, a2)) := by have h1 := HR.out; rw [if_neg kz] at h1; exact h1
    clear HR
    go_enter Tryd.func38, Tryd.ntmps38
    go_wp2_with fail
    refine (outside_any ts kOr g o cap _ HS.out (by omega) hc).mono ?_
    rintro e w' ⟨rfl, hw⟩; obtain rfl := hw.symm; rw [HO1.out]
    go_wp2_with fail
    refine (outside_any ts kAnd g o cap _ HS.out (by omega) hc).mono ?_
    rintro e w' ⟨rfl, hw⟩; obtain rfl := hw.symm; rw [HO.out]
    go_wp2_with fail
    refine HA'.out.mono ?_
    rintro e w' ⟨rfl, hw⟩; obtain rfl := hw.symm
    go_wp2_with fail
    refine HB'.out.mono ?_
    rintro e w' ⟨rfl, hw⟩; obtain rfl := hw.symm
    go_wp2_with fail
    go_ret2
    exact ⟨ret_ints (by rw [HR2.out]) (by rw [HR2.out]), rfl⟩

set_option maxHeartbeats 1000000 in
theorem weight_one (n : Nat) (ih : WtSaid n) (ts : Toks) (g o cap : Nat) (w : World) (hs : SegR w g o ts) (hsz : ts.length ≤ 10000) (hc : ts.length ≤ cap) (hm : cap ≤ maxLen) (hg : goodT (n + 1) ts = true) (hor : ¬ 0 ≤ outB ts kOr) (hand : ¬ 0 ≤ outB ts kAnd) :
    Calls Tryd.prog 38 #[.slice (some ⟨g, o, none⟩) ts.length cap] w fun e w' => e = .returned (.tuple #[.int .i64 (weightG (n + 1) ts).1, .int .i64 (weightG (n + 1) ts).2]) ∧ w' = w := by
  have hbo := outB_bound ts kOr
  have hba := outB_bound ts kAnd
  have HO1 : Hid (outB ts kOr = -1) := by unfold Hid; omega
  have HO2 : Hid (outB ts kAnd = -1) := by unfold Hid; omega
  have hpos := goodT_pos hg
  by_cases hno : clsB (ts.getD 0 (0, [])).2 = kNot
  · rw [goodT, if_neg hor, if_neg hand, if_pos hno, Bool.and_eq_true] at hg
    have hd := goodT_pos hg.2
    rw [List.length_drop] at hd
    have HA := ih (ts.drop 1) g (o + 1 * 3) (cap - 1) w (hs.drop 1) (by rw [List.length_drop]; omega) (by rw [List.length_drop]; omega) (by omega) hg.2
    have la := weightG_bound n (ts.drop 1)
    have HR : Hid (weightG (n + 1) ts = ((weightG n (ts.drop 1)).1, (weightG n (ts.drop 1)).2 + 1)) := by
      unfold Hid; rw [weightG, if_neg hor, if_neg hand, if_pos hno]
    rw [List.length_drop] at HA la
    generalize weightG n (ts.drop 1) = a at *
    obtain ⟨a1, a2⟩ := a
    simp only at HA HR la
    have HA' := hideP HA
    have hc2 := (hs 0 hpos).2.2
    rw [hno] at hc2
    simp only [Nat.zero_mul, Nat.add_zero, kNot] at hc2
    have hk2 : 1 < ts.length := by omega
    have HS : Hid (SegR w g o ts) := hs
    clear HA hg hs hbo hba ih hd hor hand hno
    go_enter Tryd.func38, Tryd.ntmps38
    go_wp2_with fail
    refine (outside_any ts kOr g o cap _ HS.out (by omega) hc).mono ?_
    rintro e w' ⟨rfl, hw⟩; obtain rfl := hw.symm; rw [HO1.out]
    go_wp2_with fail
    refine (outside_any ts kAnd g o cap _ HS.out (by omega) hc).mono ?_
    rintro e w' ⟨rfl, hw⟩; obtain rfl := hw.symm; rw [HO2.out]
    go_wp2_with fail
    refine HA'.out.mono ?_
    rintro e w' ⟨rfl, hw⟩; obtain rfl := hw.symm
    go_wp2_with fail
    go_ret2
    exact ⟨ret_ints (by rw [HR.out]) (by rw [HR.out]), rfl⟩
  by_cases hop : clsB (ts.getD 0 (0, [])).2 = kOpen
  · rw [goodT, if_neg hor, if_neg hand, if_neg hno, if_pos hop, Bool.and_eq_true] at hg
    have h0 : 2 < ts.length := by simpa using hg.1
    have hl2 : ((ts.drop 1).take (ts.length - 2)).length = ts.length - 2 := by rw [List.length_take, List.length_drop]; omega
    have HA := ih ((ts.drop 1).take (ts.length - 2)) g (o + 1 * 3) (cap - 1) w ((hs.drop 1).take _) (by rw [hl2]; omega) (by rw [hl2]; omega) (by omega) hg.2
    have la := weightG_bound n ((ts.drop 1).take (ts.length - 2))
    have HR : Hid (weightG (n + 1) ts = ((weightG n ((ts.drop 1).take (ts.length - 2))).1, (weightG n ((ts.drop 1).take (ts.length - 2))).2 + 1)) := by
      unfold Hid; rw [weightG, if_neg hor, if_neg hand, if_neg hno, if_pos hop]
    rw [hl2] at HA la
    generalize weightG n ((ts.drop 1).take (ts.length - 2)) = a at *
    obtain ⟨a1, a2⟩ := a
    simp only at HA HR la
    have HA' := hideP HA
    have hc2 := (hs 0 hpos).2.2
    rw [hop] at hc2
    simp only [Nat.zero_mul, Nat.add_zero, kOpen] at hc2
    have HS : Hid (SegR w g o ts) := hs
    clear HA hg hs hbo hba ih hor hand hno hop hl2
    go_enter Tryd.func38, Tryd.ntmps38
    go_wp2_with fail
    refine (outside_any ts kOr g o cap _ HS.out (by omega) hc).mono ?_
    rintro e w' ⟨rfl, hw⟩; obtain rfl := hw.symm; rw [HO1.out]
    go_wp2_with fail
    refine (outside_any ts kAnd g o cap _ HS.out (by omega) hc).mono ?_
    rintro e w' ⟨rfl, hw⟩; obtain rfl := hw.symm; rw [HO2.out]
    go_wp2_with fail
    refine HA'.out.mono ?_
    rintro e w' ⟨rfl, hw⟩; obtain rfl := hw.symm
    go_wp2_with fail
    go_ret2
    exact ⟨ret_ints (by rw [HR.out]) (by rw [HR.out]), rfl⟩
  · have HR : Hid (weightG (n + 1) ts = (1, 0)) := by
      unfold Hid; rw [weightG, if_neg hor, if_neg hand, if_neg hno, if_neg hop]
    have hc2 := (hs 0 hpos).2.2
    generalize clsB (ts.getD 0 (0, [])).2 = cl at *
    simp only [Nat.zero_mul, Nat.add_zero] at hc2
    have b1 : (cl == [110, 111, 116]) = false := by simpa [kNot] using hno
    have b2 : (cl == [40]) = false := by simpa [kOpen] using hop
    have HS : Hid (SegR w g o ts) := hs
    clear hg hs hbo hba hor hand hno hop ih
    go_enter Tryd.func38, Tryd.ntmps38
    go_wp2_with fail
    refine (outside_any ts kOr g o cap _ HS.out (by omega) hc).mono ?_
    rintro e w' ⟨rfl, hw⟩; obtain rfl := hw.symm; rw [HO1.out]
    go_wp2_with fail
    refine (outside_any ts kAnd g o cap _ HS.out (by omega) hc).mono ?_
    rintro e w' ⟨rfl, hw⟩; obtain rfl := hw.symm; rw [HO2.out]
    go_wp2_with fail
    go_ret2
    exact ⟨ret_ints (by rw [HR.out]) (by rw [HR.out]), rfl⟩

theorem weight_any (n : Nat) : WtSaid n := by
  induction n with
  | zero => intro ts g o cap w _ _ _ _ hg; simp [goodT] at hg
  | succ n ih =>
    intro ts g o cap w hs hsz hc hm hg
    by_cases ho : 0 ≤ outB ts kOr
    · exact weight_or n ih ts g o cap w hs hsz hc hm hg ho
    · by_cases ha : 0 ≤ outB ts kAnd
      · exact weight_and n ih ts g o cap w hs hsz hc hm hg ho ha
      · exact weight_one n ih ts g o cap w hs hsz hc hm hg ho ha
end Go.Proofs.YtnbpdffdnphbeaaDoor
