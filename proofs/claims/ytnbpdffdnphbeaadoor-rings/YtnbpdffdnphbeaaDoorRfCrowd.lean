/- What crowded of the document's answer gives: is a line one more than there may be, or is there too much in it? -/
import Derived.Test.YtnbpdffdnphbeaaDoorRfBase
import Derived.Test.YtnbpdffdnphbeaaDoorRfNamed
import Derived.Test.YtnbpdffdnphbeaaDoorCkErr2
namespace Go.Proofs.YtnbpdffdnphbeaaDoor
open Go.RowKit

theorem cls_num_len {s : Bs} (h : clsB s = numberB) : s.length ≤ 4 := by
  rcases Nat.lt_or_ge 4 s.length with h1 | h1
  · exfalso
    have hk := (cls_number s).2 h
    unfold pkind at hk
    split at hk
    · split at hk
      · omega
      · split at hk <;> omega
    · split at hk
      · rw [if_pos (.inl h1)] at hk; omega
      · split at hk <;> omega
  · exact h1

theorem cntR_drop (c : Bs) (us : List Toks) (i k : Nat) (hi : i < us.length) (hk : k ≤ i) : cntR c ((us.take (i + 1)).drop k) = (if cA (uA us k) 0 = c then 1 else 0) + cntR c ((us.take (i + 1)).drop (k + 1)) := by
  have hl : k < (us.take (i + 1)).length := by rw [List.length_take]; omega
  rw [List.drop_eq_getElem_cons hl, cntR]
  have e : (us.take (i + 1))[k] = uA us k := by
    rw [List.getElem_take]; unfold uA; rw [List.getD, List.getElem?_eq_getElem (by omega)]; rfl
  rw [e]
theorem cntR_le (c : Bs) (us : List Toks) : cntR c us ≤ us.length := by
  induction us with
  | nil => exact Nat.le_refl _
  | cons u r ih => rw [cntR, List.length_cons]; split <;> omega

/-- The text of the token ahead. -/
def prevT (u : Toks) (k : Nat) : Bs := if k = 0 then [] else tA u (k - 1)
theorem prevT_succ (u : Toks) (k : Nat) : prevT u (k + 1) = tA u k := by unfold prevT; rw [if_neg (by omega)]; rfl
theorem take_drop_cons (u : Toks) (w k : Nat) (hk : k < w) (hw : w ≤ u.length) : (u.take w).drop k = u.getD k (0, []) :: (u.take w).drop (k + 1) := by
  have hl : k < (u.take w).length := by rw [List.length_take]; omega
  rw [drop_consT (u.take w) k hl]
  congr 1
  rw [List.getD, List.getD, List.getElem?_take_of_lt hk]
theorem cntPM_le (u : Toks) : cntPM u ≤ u.length := by
  induction u with
  | nil => exact Nat.le_refl _
  | cons t r ih => rw [cntPM, List.length_cons]; split <;> omega

theorem big_step (u : Toks) (w k : Nat) (hk : k < w) (hw : w ≤ u.length) : bigG (prevT u k) ((u.take w).drop k) = ((decide (cA u k = [42]) && decide (9 < valF 0 (prevT u k))) || bigG (prevT u (k + 1)) ((u.take w).drop (k + 1))) := by
  rw [take_drop_cons u w k hk hw, bigG, prevT_succ]; rfl
theorem pm_step (u : Toks) (w k : Nat) (hk : k < w) (hw : w ≤ u.length) : cntPM ((u.take w).drop k) = (if cA u k = [43] ∨ cA u k = [45] then 1 else 0) + cntPM ((u.take w).drop (k + 1)) := by
  rw [take_drop_cons u w k hk hw, cntPM]; rfl

/-- How many lines of a class there are, up to one: the loop's answer, in any world. -/
theorem crowdR_no {us : List Toks} {i : Nat} (h : ¬ limR (cA (uA us i) 0) < (cntR (cA (uA us i) 0) (us.take (i + 1)) : Int)) (hk : ¬ cA (uA us i) 0 = kRule) : crowdR us i = false := by
  unfold crowdR; rw [decide_eq_false h, decide_eq_false hk]; rfl
theorem crowdR_rule {us : List Toks} {i : Nat} (h : ¬ limR (cA (uA us i) 0) < (cntR (cA (uA us i) 0) (us.take (i + 1)) : Int)) (hk : cA (uA us i) 0 = kRule) : crowdR us i = manyU (uA us i) := by
  unfold crowdR; rw [decide_eq_false h, decide_eq_true hk]; rfl

set_option maxHeartbeats 4000000 in
theorem crowded_s (w : World) (a : Option Addr) (c : Nat) (ls : List PLine) (us : List Toks) (i : Nat) (hi : i < us.length) (h : RowL w a us) (hA : AllLT ls us) :
    Calls Tryd.prog 17 #[.slice a us.length c, .int .i64 i] w fun e w' => e = .returned (.bool (crowdR us i)) ∧ Below w.heap.size w w' := by
  have HR := hideP2 h
  have hfew := h.few
  have HP : Hid (∀ k, k < us.length → 0 < (uA us k).length) := fun k hk => by have := (hA.get k hk).two; omega
  have HLT := hideP2 (hA.get i hi)
  have hcl := cntR_le (cA (uA us i) 0) (us.take (i + 1))
  rw [List.length_take] at hcl
  have hlim : 0 ≤ limR (cA (uA us i) 0) ∧ limR (cA (uA us i) 0) ≤ 28 := by unfold limR; repeat' split <;> omega
  clear h hA
  go_enter Tryd.func17, Tryd.ntmps17
  go_wp2_with fail
  go_loopw [5, 6] (fun nv kv wr => ∃ (n k : Nat), k ≤ i + 1 ∧ n ≤ k ∧ nv = .int .i64 n ∧ kv = .int .i64 k ∧ Hid (Below w.heap.size w wr) ∧ Hid (n + cntR (cA (uA us i) 0) ((us.take (i + 1)).drop k) = cntR (cA (uA us i) 0) (us.take (i + 1)))) (fun _ kv _ => i + 1 - (intOf kv).toNat)
  case atStart => exact ⟨0, 0, by omega, Nat.le_refl _, rfl, rfl, hideP2 (Below.refl _ _), hideP2 (by simp)⟩
  case round =>
    obtain ⟨n, k, hk, hn, rfl, rfl, HB, HE⟩ := hrel
    by_cases hki : k ≤ i
    · have hRr := HR.out.below HB.out
      obtain ⟨gl, g, o, cu, rfl, hcell, hseg, hlc, hcm, hsm⟩ := hRr.at (show k < us.length by omega)
      obtain ⟨gl', g', o', cu', hgg, hcell', hseg', hlc', hcm', hsm'⟩ := hRr.at hi
      obtain rfl : gl = gl' := by simpa using hgg
      have hp := HP.out k (by omega)
      have hp' := HP.out i hi
      have hc0 := (hseg.tok hp).2
      have hc0' := (hseg'.tok hp').2
      rw [Nat.zero_mul, Nat.add_zero] at hc0 hc0'
      have hE := HE.out
      rw [cntR_drop _ us i k hi hki] at hE
      have HE2 := hideP2 hE
      have ik : (k : Int) < (us.length : Int) := by omega
      have ii : (i : Int) < (us.length : Int) := by omega
      have il : (0 : Int) < ((uA us k).length : Int) := by omega
      have il' : (0 : Int) < ((uA us i).length : Int) := by omega
      clear HE hE hseg hseg' hgg hRr hcl hlim
      by_cases k1 : cA (uA us k) 0 = cA (uA us i) 0
      · have HE3 : Hid (n + 1 + cntR (cA (uA us i) 0) ((us.take (i + 1)).drop (k + 1)) = cntR (cA (uA us i) 0) (us.take (i + 1))) := by have := HE2.out; rw [if_pos k1] at this; unfold Hid; omega
        have b1 : (cA (uA us k) 0 == cA (uA us i) 0) = true := by simpa using k1
        clear HE2 k1
        go_wp2_with fail
        go_quiet (fail)
        go_wp2_with fail
        go_roundw
        case rel => exact ⟨n + 1, k + 1, by omega, by omega, by go_num, by go_num, hideP2 (below_drewN HB.out _), HE3⟩
        case measure => simp [intOf]; omega
      · have HE3 : Hid (n + cntR (cA (uA us i) 0) ((us.take (i + 1)).drop (k + 1)) = cntR (cA (uA us i) 0) (us.take (i + 1))) := by have := HE2.out; rw [if_neg k1] at this; unfold Hid; omega
        have b1 : (cA (uA us k) 0 == cA (uA us i) 0) = false := by simpa using k1
        clear HE2 k1
        go_wp2_with fail
        go_quiet (fail)
        go_wp2_with fail
        go_roundw
        case rel => exact ⟨n, k + 1, by omega, by omega, rfl, by go_num, hideP2 (below_drewN HB.out _), HE3⟩
        case measure => simp [intOf]; omega
    · have HN : Hid (n = cntR (cA (uA us i) 0) (us.take (i + 1))) := by
        have := HE.out; rw [List.drop_eq_nil_of_le (by rw [List.length_take]; omega)] at this; exact this
      have hRr := HR.out.below HB.out
      obtain ⟨gl, g, o, cu, rfl, hcell, hseg, hlc, hcm, hsm⟩ := hRr.at hi
      have hp := HP.out i hi
      have hc0 := (hseg.tok hp).2
      rw [Nat.zero_mul, Nat.add_zero] at hc0
      have il : (0 : Int) < ((uA us i).length : Int) := by omega
      have HSg := hideP2 hseg
      have HLim := hideP2 (fun w' => limitR_s (cA (uA us i) 0) w')
      have HC0 := hideP2 (fun h1 => crowdR_no (us := us) (i := i) h1)
      have HC1 := hideP2 (fun h1 => crowdR_rule (us := us) (i := i) h1)
      have HCt : Hid (limR (cA (uA us i) 0) < (cntR (cA (uA us i) 0) (us.take (i + 1)) : Int) → crowdR us i = true) := fun h1 => by unfold crowdR; rw [decide_eq_true h1]; rfl
      obtain ⟨n', hn'⟩ : ∃ n', n' = cntR (cA (uA us i) 0) (us.take (i + 1)) := ⟨_, rfl⟩
      rw [← hn'] at HC0 HC1 HCt hcl HN
      obtain rfl : n = n' := HN.out
      have HRl := hideP2 (fun hk => HLT.out.rule hk)
      have HTo := hideP2 HLT.out.toks
      clear HE hn' HN hRr hseg HP HLT
      generalize hu : uA us i = u at *
      have HU := hideP2 hu
      clear hu
      generalize hlm : limR (cA u 0) = lm at *
      by_cases hm : lm < (n : Int)
      · have HF := hideP2 (HCt.out hm)
        clear HC0 HC1 HCt hlm
        generalize cA u 0 = cl at *
        go_wp2_with fail
        refine (HLim.out _).mono ?_
        rintro e w1 ⟨rfl, hw⟩; obtain rfl := hw.symm
        go_wp2_with fail
        go_ret
        exact ⟨ret_bool HF.out.symm, HB.out⟩
      · by_cases hkr : cA u 0 = kRule
        · have HF := hideP2 (HC1.out hm hkr)
          obtain ⟨w0, hw0⟩ := HRl.out hkr
          have HW0 := hideP2 hw0
          clear HC0 HC1 HCt hlm HRl
          have hwlo := hw0.wlo
          have hwhi := hw0.whi
          have HWn := hideP2 hw0.wB
          have HWt := hideP2 (weight_any (u.length + 1) (u.drop (w0 + 1)) g (o + (w0 + 1) * 3) (cu - (w0 + 1)) wr (HSg.out.drop (w0 + 1)) (by rw [List.length_drop]; omega) (by rw [List.length_drop]; omega) (by omega) (hw0.good _ (by omega)))
          rw [List.length_drop] at HWt
          have HMU : Hid (manyU u = (bigG [] (u.take w0) || (decide (4 < (cntPM (u.take w0) : Int) + 1) || (decide (6 < (weightG (u.length + 1) (u.drop (w0 + 1))).1) || decide (4 < (weightG (u.length + 1) (u.drop (w0 + 1))).2))))) := by unfold Hid manyU; rw [hw0.wAt]
          have hpm := cntPM_le (u.take w0)
          rw [List.length_take] at hpm
          rw [hkr] at hc0 HLim
          simp only [kRule] at hc0
          have HLim2 : Hid (∀ w' : World, Calls Tryd.prog 36 #[.string ⟨#[114, 117, 108, 101]⟩] w' fun e w'' => e = .returned (.int .i64 lm) ∧ w'' = w') := HLim
          clear hw0 hkr HLim
          generalize weightG (u.length + 1) (u.drop (w0 + 1)) = wt at *
          obtain ⟨wt1, wt2⟩ := wt
          simp only at HWt HMU
          go_wp2_with fail
          refine (HLim2.out _).mono ?_
          rintro e w1 ⟨rfl, hw⟩; obtain rfl := hw.symm
          go_wp2_with fail
          refine (when_any u g o cu _ HSg.out (by omega) hlc).mono ?_
          rintro e w1 ⟨rfl, hw⟩; obtain rfl := hw.symm; rw [HWn.out]
          go_wp2_with fail
          go_loop [8, 9] (fun pv kv => ∃ (p k : Nat), k ≤ w0 ∧ p ≤ k ∧ pv = .int .i64 ((p : Int) + 1) ∧ kv = .int .i64 k ∧ Hid (bigG (prevT u k) ((u.take w0).drop k) = bigG [] (u.take w0)) ∧ Hid (p + cntPM ((u.take w0).drop k) = cntPM (u.take w0))) (fun _ kv => w0 - (intOf kv).toNat)
          case atStart => exact ⟨0, 0, Nat.zero_le _, Nat.le_refl _, rfl, rfl, hideP2 rfl, hideP2 (by simp)⟩
          case round =>
            obtain ⟨p, k, hk, hpk, rfl, rfl, HBg, HPm⟩ := hrel
            by_cases hkw : k < w0
            · have hE := HBg.out
              have hP := HPm.out
              rw [big_step u w0 k hkw (by omega)] at hE
              rw [pm_step u w0 k hkw (by omega)] at hP
              have hck := (HSg.out.tok (show k < u.length by omega)).2
              have hst := HW0.out.stars k hkw
              have HT1 := hideP2 (fun hk1 : 0 < k => (HSg.out.tok (show k - 1 < u.length by omega)).1)
              have ikl : (k : Int) < (u.length : Int) := by omega
              have HE2 := hideP2 hE
              have HP2 := hideP2 hP
              have HSt := hideP2 hst
              clear HBg HPm hE hP hst
              obtain ⟨cl, hcl2⟩ : ∃ cl, cA u k = cl := ⟨_, rfl⟩
              rw [hcl2] at HE2 HP2 HSt hck
              clear hcl2
              by_cases k1 : cl = [43]
              · subst k1
                have HE3 : Hid (bigG (prevT u (k + 1)) ((u.take w0).drop (k + 1)) = bigG [] (u.take w0)) := HE2.out
                have HP3 : Hid (p + 1 + cntPM ((u.take w0).drop (k + 1)) = cntPM (u.take w0)) := by have := HP2.out; rw [if_pos (.inl rfl)] at this; unfold Hid; omega
                clear HE2 HP2
                go_wp2_with fail
                go_round
                case rel => exact ⟨p + 1, k + 1, by omega, by omega, by go_num, by go_num, HE3, HP3⟩
                case measure => simp [intOf]; omega
              by_cases k2 : cl = [45]
              · subst k2
                have HE3 : Hid (bigG (prevT u (k + 1)) ((u.take w0).drop (k + 1)) = bigG [] (u.take w0)) := HE2.out
                have HP3 : Hid (p + 1 + cntPM ((u.take w0).drop (k + 1)) = cntPM (u.take w0)) := by have := HP2.out; rw [if_pos (.inr rfl)] at this; unfold Hid; omega
                clear HE2 HP2 k1
                go_wp2_with fail
                go_round
                case rel => exact ⟨p + 1, k + 1, by omega, by omega, by go_num, by go_num, HE3, HP3⟩
                case measure => simp [intOf]; omega
              have HP3 : Hid (p + cntPM ((u.take w0).drop (k + 1)) = cntPM (u.take w0)) := by have := HP2.out; rw [if_neg (by rintro (e | e); exact k1 e; exact k2 e)] at this; unfold Hid; omega
              clear HP2
              by_cases k3 : cl = [42]
              · subst k3
                obtain ⟨hk1, hnum⟩ := HSt.out rfl
                have ht1 := HT1.out hk1
                have hlen4 := cls_num_len hnum
                have e1 : prevT u k = tA u (k - 1) := by unfold prevT; rw [if_neg (by omega)]
                rw [e1] at HE2
                have HNm := hideP2 (numberR_s (tA u (k - 1)) wr hlen4)
                obtain ⟨k', rfl⟩ : ∃ k', k = k' + 1 := ⟨k - 1, by omega⟩
                rw [show k' + 1 - 1 = k' by omega] at ht1 HE2 HNm
                clear k1 k2 HSt HT1 hnum hlen4 e1
                generalize tA u k' = tt at *
                by_cases k9 : 9 < valF 0 tt
                · have HT : Hid (crowdR us i = true) := by
                    unfold Hid; rw [HF.out, HMU.out, ← HE2.out, decide_eq_true k9]; rfl
                  clear HE2
                  generalize valF 0 tt = vv at *
                  go_wp2_with fail
                  refine HNm.out.mono ?_
                  rintro e w1 ⟨rfl, hw⟩; obtain rfl := hw.symm
                  go_wp2_with fail
                  go_ret
                  exact ⟨ret_bool HT.out.symm, HB.out⟩
                · have HE3 : Hid (bigG (prevT u (k' + 1 + 1)) ((u.take w0).drop (k' + 1 + 1)) = bigG [] (u.take w0)) := by have := HE2.out; rw [decide_eq_false k9, Bool.and_false, Bool.false_or] at this; exact this
                  clear HE2
                  generalize valF 0 tt = vv at *
                  go_wp2_with fail
                  refine HNm.out.mono ?_
                  rintro e w1 ⟨rfl, hw⟩; obtain rfl := hw.symm
                  go_wp2_with fail
                  go_round
                  case rel => exact ⟨p, k' + 1 + 1, by omega, by omega, rfl, by go_num, HE3, HP3⟩
                  case measure => simp [intOf]; omega
              · have HE3 : Hid (bigG (prevT u (k + 1)) ((u.take w0).drop (k + 1)) = bigG [] (u.take w0)) := by have := HE2.out; rw [decide_eq_false k3, Bool.false_and, Bool.false_or] at this; exact this
                have b1 : (cl == [43]) = false := by simpa using k1
                have b2 : (cl == [45]) = false := by simpa using k2
                have b3 : (cl == [42]) = false := by simpa using k3
                clear HE2 k1 k2 k3 HSt HT1
                go_wp2_with fail
                go_round
                case rel => exact ⟨p, k + 1, by omega, by omega, rfl, by go_num, HE3, HP3⟩
                case measure => simp [intOf]; omega
            · obtain rfl : k = w0 := by omega
              have HF2 : Hid (crowdR us i = (decide (4 < (p : Int) + 1) || (decide (6 < wt1) || decide (4 < wt2)))) := by
                have h1 := HBg.out
                have h2 := HPm.out
                rw [List.drop_eq_nil_of_le (by rw [List.length_take]; omega)] at h1 h2
                have h3 : bigG [] (u.take k) = false := h1.symm
                have h4 : cntPM (u.take k) = p := h2.symm
                unfold Hid; rw [HF.out, HMU.out, h3, h4]; rfl
              clear HBg HPm HF HMU
              by_cases j1 : 4 < (p : Int) + 1
              · have HF3 : Hid (crowdR us i = true) := by unfold Hid; rw [HF2.out, decide_eq_true j1]; rfl
                clear HF2
                go_wp2_with fail
                refine HWt.out.mono ?_
                rintro e w1 ⟨rfl, hw⟩; obtain rfl := hw.symm
                go_wp2_with fail
                go_ret
                exact ⟨ret_bool HF3.out.symm, HB.out⟩
              by_cases j2 : 6 < wt1
              · have HF3 : Hid (crowdR us i = true) := by unfold Hid; rw [HF2.out, decide_eq_true j2, Bool.true_or, Bool.or_true]
                clear HF2
                go_wp2_with fail
                refine HWt.out.mono ?_
                rintro e w1 ⟨rfl, hw⟩; obtain rfl := hw.symm
                go_wp2_with fail
                go_ret
                exact ⟨ret_bool HF3.out.symm, HB.out⟩
              have HF3 : Hid (crowdR us i = decide (4 < wt2)) := by unfold Hid; rw [HF2.out, decide_eq_false j1, decide_eq_false j2]; rfl
              clear HF2
              go_wp2_with fail
              refine HWt.out.mono ?_
              rintro e w1 ⟨rfl, hw⟩; obtain rfl := hw.symm
              go_wp2_with fail
              go_ret
              exact ⟨ret_bool (by rw [HF3.out, decide_eq_false (show ¬ 4 < (p : Int) + 1 by omega), decide_eq_false (show ¬ 6 < wt1 by omega)]; rfl), HB.out⟩
        · have HF := hideP2 (HC0.out hm hkr)
          clear HC0 HC1 HCt hlm HRl
          generalize cA u 0 = cl at *
          have b1 : (cl == [114, 117, 108, 101]) = false := by simpa [kRule] using hkr
          clear hkr
          go_wp2_with fail
          refine (HLim.out _).mono ?_
          rintro e w1 ⟨rfl, hw⟩; obtain rfl := hw.symm
          go_wp2_with fail
          go_ret
          exact ⟨ret_bool HF.out.symm, HB.out⟩
end Go.Proofs.YtnbpdffdnphbeaaDoor
