/- What Heads and Labels of the document's answer give: the conclusions in order, the labels of all rules. -/
import Derived.Test.YtnbpdffdnphbeaaDoorRfBase
import Derived.Test.YtnbpdffdnphbeaaDoorPRing
namespace Go.Proofs.YtnbpdffdnphbeaaDoor
open Go.RowKit

theorem headsR_step (us : List Toks) (i : Nat) (acc : List Bs) (h : i < us.length) : headsR us (us.length - i) i acc = headsR us (us.length - (i + 1)) (i + 1) (if cA (uA us i) 0 = kRule ∧ firstB us kRule 3 (tA (uA us i) 3) = (i : Int) then acc ++ [tA (uA us i) 3] else acc) := by
  rw [show us.length - i = (us.length - (i + 1)) + 1 by omega, headsR]
theorem labsR_step (us : List Toks) (i : Nat) (acc : List Bs) (h : i < us.length) : labsR us (us.length - i) i acc = labsR us (us.length - (i + 1)) (i + 1) (if cA (uA us i) 0 = kRule then acc ++ [tA (uA us i) 1] else acc) := by
  rw [show us.length - i = (us.length - (i + 1)) + 1 by omega, labsR]

set_option maxHeartbeats 2000000 in
theorem Heads_s (w : World) (a : Option Addr) (c : Nat) (ls : List PLine) (us : List Toks) (h : RowL w a us) (hA : AllLT ls us) :
    Calls Tryd.prog 41 #[.slice a us.length c] w fun e w' => ∃ v, e = .returned v ∧ w'.ownsRow w.heap.size 9 1 v (headsU us).length (strC (headsU us)) ∧ (headsU us).length ≤ us.length ∧ Below w.heap.size w w' := by
  obtain ⟨i0, hi0, hz0, hz1, hz2⟩ := info_parts infoStr
  have HR := hideP2 h
  have hfew := h.few
  have HA := hideP2 hA
  obtain ⟨B, hB⟩ : ∃ B, B = w.heap.size := ⟨_, rfl⟩
  have HB0 := hideP2 hB
  clear h hA hB
  go_enter Tryd.func41, Tryd.ntmps41
  go_wp2_with fail
  go_loopw [3, 4] (fun ov iv wr => ∃ (i : Nat) (acc : List Bs), i ≤ us.length ∧ acc.length ≤ i ∧ iv = .int .i64 i ∧ Hid (wr.ownsRow B 9 1 ov acc.length (strC acc)) ∧ Hid (Below B w wr) ∧ Hid (headsR us (us.length - i) i acc = headsU us)) (fun _ iv _ => us.length - (intOf iv).toNat)
  case atStart => exact ⟨0, [], Nat.zero_le _, Nat.le_refl _, rfl, hideP2 (World.ownsRow_nil _ _ _ _), hideP2 (Below.refl _ _), hideP2 rfl⟩
  case round =>
    obtain ⟨i, acc, hi, hacc, rfl, HO, HB, HE⟩ := hrel
    by_cases hlt : i < us.length
    · have hRr := HR.out.below (by have := HB.out; rwa [HB0.out] at this)
      have HF := hideP2 (fun nm => first3_s wr a c ls us nm hRr HA.out)
      obtain ⟨gl, g, o, cu, rfl, hcell, hseg, hlc, hcm, hsm⟩ := hRr.at hlt
      have hx := HA.out.get i hlt
      have h2 := hx.two
      have hc0 := (hseg.tok (show 0 < (uA us i).length by omega)).2
      rw [Nat.zero_mul, Nat.add_zero] at hc0
      have il0 : (0 : Int) < ((uA us i).length : Int) := by omega
      have hE := HE.out
      rw [headsR_step us i acc hlt] at hE
      have HE2 := hideP2 hE
      have hsz : B ≤ wr.heap.size := by have := HB.out.size; have h2 := HB0.out; omega
      have HLn := hideP2 (fun hk => hx.len hk)
      have HSg := hideP2 hseg
      clear HE hE hRr hx hseg
      by_cases k1 : cA (uA us i) 0 = kRule
      · have h6 := HLn.out k1
        have hc3 := (HSg.out.tok (show 3 < (uA us i).length by omega)).1
        rw [show 3 * 3 = 9 from rfl] at hc3
        rw [k1] at hc0 HE2
        simp only [kRule] at hc0
        have il3 : (3 : Int) < ((uA us i).length : Int) := by omega
        have HF2 : Hid (∀ nm : Bs, Calls Tryd.prog 40 #[.slice (some ⟨gl, 0, none⟩) us.length c, .string ⟨#[114, 117, 108, 101]⟩, .int .i64 3, .string ⟨nm.toArray⟩] wr fun e w' => e = .returned (.int .i64 (firstB us kRule 3 nm)) ∧ w' = wr) := HF
        clear HF k1 HLn HSg
        generalize tA (uA us i) 3 = cc at *
        have HF3 := hideP2 (HF2.out cc)
        clear HF2
        generalize firstB us kRule 3 cc = f at *
        by_cases k2 : f = (i : Int)
        · have HE3 : Hid (headsR us (us.length - (i + 1)) (i + 1) (acc ++ [cc]) = headsU us) := by have := HE2.out; rw [if_pos ⟨rfl, k2⟩] at this; exact this
          subst k2
          clear HE2
          go_wp2_with fail
          refine HF3.out.mono ?_
          rintro e w1 ⟨rfl, hw⟩; obtain rfl := hw.symm
          go_wp2_with (at_builtin; refine wpList_append_own _ rfl _ _ 33 rfl B 9 i0 _ 1 16 Tryd.underlying33 hi0 hz0 hz1 hz2 rfl (by decide) _ _ _ rfl (HO.out.alloc _) ⟨wr.heap.size, 0, none⟩ 1 1 [.string ⟨cc.toArray⟩] rfl rfl ?c1 ?c2 ?c3 ?c4 ?c5 ?_)
          case c1 => exact news_cells _ _ _ _ rfl
          case c2 => intro u hu; simp at hu; subst hu; rfl
          case c3 => unfold maxLen; omega
          case c4 => omega
          case c5 => simp; omega
          intro v' w2 hown1 hgrow _
          have HB2 : Hid (Below B w w2) := (HB.out.alloc hsz _).grown hgrow (by simp; omega) (own_block_le HO.out)
          have HO2 : Hid (w2.ownsRow B 9 1 v' (acc ++ [cc]).length (strC (acc ++ [cc]))) := by unfold Hid; rw [strC_snoc]; simpa using hown1
          clear hgrow hown1
          go_wp2_with fail
          go_roundw
          case rel => exact ⟨i + 1, acc ++ [cc], by omega, by simp; omega, by go_num, HO2, HB2, HE3⟩
          case measure => simp [intOf]; omega
        · have HE3 : Hid (headsR us (us.length - (i + 1)) (i + 1) acc = headsU us) := by have := HE2.out; rw [if_neg (fun h => k2 h.2)] at this; exact this
          have b2 : (f == (i : Int)) = false := by simpa using k2
          clear HE2 k2
          go_wp2_with fail
          refine HF3.out.mono ?_
          rintro e w1 ⟨rfl, hw⟩; obtain rfl := hw.symm
          go_wp2_with fail
          go_roundw
          case rel => exact ⟨i + 1, acc, by omega, by omega, by go_num, HO, HB, HE3⟩
          case measure => simp [intOf]; omega
      · have HE3 : Hid (headsR us (us.length - (i + 1)) (i + 1) acc = headsU us) := by have := HE2.out; rw [if_neg (fun h => k1 h.1)] at this; exact this
        have b1 : (cA (uA us i) 0 == [114, 117, 108, 101]) = false := by simpa [kRule] using k1
        clear HE2 k1 HF HLn HSg
        generalize cA (uA us i) 0 = cl at *
        go_wp2_with fail
        go_roundw
        case rel => exact ⟨i + 1, acc, by omega, by omega, by go_num, HO, HB, HE3⟩
        case measure => simp [intOf]; omega
    · have HE3 : Hid (acc = headsU us) := by have := HE.out; rw [show us.length - i = 0 by omega] at this; exact this
      clear HE
      go_wp2_with fail
      go_ret
      exact ⟨_, rfl, by rw [← HE3.out, ← HB0.out]; exact HO.out, by rw [← HE3.out]; omega, by rw [← HB0.out]; exact HB.out⟩

set_option maxHeartbeats 2000000 in
theorem Labels_s (w : World) (a : Option Addr) (c : Nat) (ls : List PLine) (us : List Toks) (h : RowL w a us) (hA : AllLT ls us) :
    Calls Tryd.prog 42 #[.slice a us.length c] w fun e w' => ∃ v, e = .returned v ∧ w'.ownsRow w.heap.size 9 1 v (labsU us).length (strC (labsU us)) ∧ (labsU us).length ≤ us.length ∧ Below w.heap.size w w' := by
  obtain ⟨i0, hi0, hz0, hz1, hz2⟩ := info_parts infoStr
  have HR := hideP2 h
  have hfew := h.few
  have HA := hideP2 hA
  obtain ⟨B, hB⟩ : ∃ B, B = w.heap.size := ⟨_, rfl⟩
  have HB0 := hideP2 hB
  clear h hA hB
  go_enter Tryd.func42, Tryd.ntmps42
  go_wp2_with fail
  go_loopw [3, 4] (fun ov iv wr => ∃ (i : Nat) (acc : List Bs), i ≤ us.length ∧ acc.length ≤ i ∧ iv = .int .i64 i ∧ Hid (wr.ownsRow B 9 1 ov acc.length (strC acc)) ∧ Hid (Below B w wr) ∧ Hid (labsR us (us.length - i) i acc = labsU us)) (fun _ iv _ => us.length - (intOf iv).toNat)
  case atStart => exact ⟨0, [], Nat.zero_le _, Nat.le_refl _, rfl, hideP2 (World.ownsRow_nil _ _ _ _), hideP2 (Below.refl _ _), hideP2 rfl⟩
  case round =>
    obtain ⟨i, acc, hi, hacc, rfl, HO, HB, HE⟩ := hrel
    by_cases hlt : i < us.length
    · have hRr := HR.out.below (by have := HB.out; rwa [HB0.out] at this)
      obtain ⟨gl, g, o, cu, rfl, hcell, hseg, hlc, hcm, hsm⟩ := hRr.at hlt
      have hx := HA.out.get i hlt
      have h2 := hx.two
      have hc0 := (hseg.tok (show 0 < (uA us i).length by omega)).2
      have hc1 := (hseg.tok (show 1 < (uA us i).length by omega)).1
      rw [Nat.zero_mul, Nat.add_zero] at hc0
      rw [Nat.one_mul] at hc1
      have il0 : (0 : Int) < ((uA us i).length : Int) := by omega
      have il1 : (1 : Int) < ((uA us i).length : Int) := by omega
      have hE := HE.out
      rw [labsR_step us i acc hlt] at hE
      have HE2 := hideP2 hE
      have hsz : B ≤ wr.heap.size := by have := HB.out.size; have h2 := HB0.out; omega
      clear HE hE hRr hx hseg
      by_cases k1 : cA (uA us i) 0 = kRule
      · rw [k1] at hc0
        simp only [kRule] at hc0
        have HE3 : Hid (labsR us (us.length - (i + 1)) (i + 1) (acc ++ [tA (uA us i) 1]) = labsU us) := by have := HE2.out; rw [if_pos k1] at this; exact this
        clear k1 HE2
        generalize tA (uA us i) 1 = cc at *
        go_wp2_with (at_builtin; refine wpList_append_own _ rfl _ _ 33 rfl B 9 i0 _ 1 16 Tryd.underlying33 hi0 hz0 hz1 hz2 rfl (by decide) _ _ _ rfl (HO.out.alloc _) ⟨wr.heap.size, 0, none⟩ 1 1 [.string ⟨cc.toArray⟩] rfl rfl ?c1 ?c2 ?c3 ?c4 ?c5 ?_)
        case c1 => exact news_cells _ _ _ _ rfl
        case c2 => intro u hu; simp at hu; subst hu; rfl
        case c3 => unfold maxLen; omega
        case c4 => omega
        case c5 => simp; omega
        intro v' w2 hown1 hgrow _
        have HB2 : Hid (Below B w w2) := (HB.out.alloc hsz _).grown hgrow (by simp; omega) (own_block_le HO.out)
        have HO2 : Hid (w2.ownsRow B 9 1 v' (acc ++ [cc]).length (strC (acc ++ [cc]))) := by unfold Hid; rw [strC_snoc]; simpa using hown1
        clear hgrow hown1
        go_wp2_with fail
        go_roundw
        case rel => exact ⟨i + 1, acc ++ [cc], by omega, by simp; omega, by go_num, HO2, HB2, HE3⟩
        case measure => simp [intOf]; omega
      · have HE3 : Hid (labsR us (us.length - (i + 1)) (i + 1) acc = labsU us) := by have := HE2.out; rw [if_neg k1] at this; exact this
        have b1 : (cA (uA us i) 0 == [114, 117, 108, 101]) = false := by simpa [kRule] using k1
        clear HE2 k1
        generalize cA (uA us i) 0 = cl at *
        go_wp2_with fail
        go_roundw
        case rel => exact ⟨i + 1, acc, by omega, by omega, by go_num, HO, HB, HE3⟩
        case measure => simp [intOf]; omega
    · have HE3 : Hid (acc = labsU us) := by have := HE.out; rw [show us.length - i = 0 by omega] at this; exact this
      clear HE
      go_wp2_with fail
      go_ret
      exact ⟨_, rfl, by rw [← HE3.out, ← HB0.out]; exact HO.out, by rw [← HE3.out]; omega, by rw [← HB0.out]; exact HB.out⟩
end Go.Proofs.YtnbpdffdnphbeaaDoor

/- What Names, Over and step of the document's answer give: from which name to which there is a step. -/
namespace Go.Proofs.YtnbpdffdnphbeaaDoor
open Go.RowKit

theorem any_dropU (p : Toks → Bool) (us : List Toks) (i : Nat) (h : i < us.length) : (us.drop i).any p = (p (uA us i) || (us.drop (i + 1)).any p) := by
  rw [List.drop_eq_getElem_cons h, List.any_cons]; simp [uA, List.getD, h]
theorem nmI_step (u : Toks) (d : Bs) (k : Nat) (h : k < u.length) : nmI u d (u.length - k) k = (nmAt u d k || nmI u d (u.length - (k + 1)) (k + 1)) := by
  rw [show u.length - k = (u.length - (k + 1)) + 1 by omega, nmI]

set_option maxHeartbeats 4000000 in
theorem Names_s (w : World) (a : Option Addr) (cp : Nat) (ls : List PLine) (us : List Toks) (c d : Bs) (h : RowL w a us) (hA : AllLT ls us) :
    Calls Tryd.prog 51 #[.slice a us.length cp, .string ⟨c.toArray⟩, .string ⟨d.toArray⟩] w fun e w' => e = .returned (.bool (namesR us c d)) ∧ w' = w := by
  have HR := hideP2 h
  have hfew := h.few
  have HA := hideP2 hA
  clear h hA
  go_enter Tryd.func51, Tryd.ntmps51
  go_wp2_with fail
  go_loop [7] (fun iv => ∃ (i : Nat), i ≤ us.length ∧ iv = .int .i64 i ∧ Hid ((us.drop i).any (nmL c d) = namesR us c d)) (fun iv => us.length - (intOf iv).toNat)
  case atStart => exact ⟨0, Nat.zero_le _, rfl, hideP2 rfl⟩
  case round =>
    obtain ⟨i, hi, rfl, HE⟩ := hrel
    by_cases hlt : i < us.length
    · obtain ⟨gl, g, o, cu, rfl, hcell, hseg, hlc, hcm, hsm⟩ := HR.out.at hlt
      have hx := HA.out.get i hlt
      have h2 := hx.two
      have hc0 := (hseg.tok (show 0 < (uA us i).length by omega)).2
      rw [Nat.zero_mul, Nat.add_zero] at hc0
      have il0 : (0 : Int) < ((uA us i).length : Int) := by omega
      have hE := HE.out
      rw [any_dropU _ us i hlt] at hE
      have HE2 := hideP2 hE
      have HRl := hideP2 (fun hk => hx.rule hk)
      have HSg := hideP2 hseg
      clear HE hE hx hseg
      generalize uA us i = u at *
      by_cases k1 : cA u 0 = kRule
      · obtain ⟨w0, hw⟩ := HRl.out k1
        have hwlo := hw.wlo
        have hwhi := hw.whi
        have HWn := hideP2 hw.wB
        have HWA := hideP2 hw.wAt
        have hc3 := (HSg.out.tok (show 3 < u.length by omega)).1
        rw [show 3 * 3 = 9 from rfl] at hc3
        have il3 : (3 : Int) < (u.length : Int) := by omega
        by_cases k2 : tA u 3 = c
        · have HE3 : Hid ((nmI u d (u.length - 5) 5 || (us.drop (i + 1)).any (nmL c d)) = namesR us c d) := by have := HE2.out; unfold nmL at this; rw [decide_eq_true k1, decide_eq_true k2] at this; exact this
          rw [k1] at hc0
          simp only [kRule] at hc0
          rw [k2] at hc3
          clear HE2 k1 k2 HRl hw
          go_wp2_with fail
          refine (when_any u g o cu _ HSg.out (by omega) hlc).mono ?_
          rintro e w1 ⟨rfl, hw⟩; obtain rfl := hw.symm; rw [HWn.out]
          go_wp2_with fail
          go_loop [10] (fun kv => ∃ (k : Nat), 5 ≤ k ∧ k ≤ u.length ∧ kv = .int .i64 k ∧ Hid (nmI u d (u.length - k) k = nmI u d (u.length - 5) 5)) (fun kv => u.length - (intOf kv).toNat)
          case atStart => exact ⟨5, Nat.le_refl _, by omega, rfl, hideP2 rfl⟩
          case round =>
            obtain ⟨k, hk5, hk, rfl, HEk⟩ := hrel
            by_cases hltk : k < u.length
            · have hck := (HSg.out.tok hltk).2
              have htk := (HSg.out.tok hltk).1
              obtain ⟨k', rfl⟩ : ∃ k', k = k' + 1 := ⟨k - 1, by omega⟩
              have hcp := (HSg.out.tok (show k' < u.length by omega)).2
              have ikl : ((k' : Int) + 1) < (u.length : Int) := by omega
              have ikp : (k' : Int) < (u.length : Int) := by omega
              have hE := HEk.out
              rw [nmI_step u d (k' + 1) hltk] at hE
              unfold nmAt at hE
              rw [HWA.out, show k' + 1 - 1 = k' by omega] at hE
              have HE4 := hideP2 hE
              clear HEk hE
              generalize cA u (k' + 1) = cl at *
              generalize tA u (k' + 1) = tt at *
              generalize cA u k' = clp at *
              by_cases j1 : cl = nameB
              · have b1 : (cl == [78, 65, 77, 69]) = true := by simpa [nameB] using j1
                by_cases j2 : tt = d
                · have b2 : (tt == d) = true := by simpa using j2
                  by_cases j3 : k' + 1 < w0
                  · have HF : Hid (namesR us c d = true) := by unfold Hid; rw [← HE3.out, ← HE4.out, decide_eq_true j1, decide_eq_true j2, decide_eq_true j3]; rfl
                    have i3 : ((k' : Int) + 1) < (w0 : Int) := by omega
                    clear HE4 j1 j2
                    go_wp2_with fail
                    go_ret
                    exact ⟨ret_bool HF.out.symm, rfl⟩
                  · have i3 : decide (((k' : Int) + 1) < (w0 : Int)) = false := decide_eq_false (by omega)
                    by_cases j4 : clp = [104, 97, 115]
                    · have HF : Hid (namesR us c d = true) := by unfold Hid; rw [← HE3.out, ← HE4.out, decide_eq_true j1, decide_eq_true j2, decide_eq_true j4, Bool.or_true]; rfl
                      have b4 : (clp == [104, 97, 115]) = true := by simpa using j4
                      clear HE4 j1 j2 j4
                      go_wp2_with fail
                      go_ret
                      exact ⟨ret_bool HF.out.symm, rfl⟩
                    · have HE5 : Hid (nmI u d (u.length - (k' + 1 + 1)) (k' + 1 + 1) = nmI u d (u.length - 5) 5) := by have := HE4.out; rw [decide_eq_false j3, decide_eq_false j4, Bool.false_or, Bool.and_false, Bool.and_false, Bool.false_or] at this; exact this
                      have b4 : (clp == [104, 97, 115]) = false := by simpa using j4
                      clear HE4 j1 j2 j4
                      go_wp2_with fail
                      go_round
                      case rel => exact ⟨k' + 1 + 1, by omega, by omega, by go_num, HE5⟩
                      case measure => simp [intOf]; omega
                · have HE5 : Hid (nmI u d (u.length - (k' + 1 + 1)) (k' + 1 + 1) = nmI u d (u.length - 5) 5) := by have := HE4.out; rw [decide_eq_false j2, Bool.false_and, Bool.and_false, Bool.false_or] at this; exact this
                  have b2 : (tt == d) = false := by simpa using j2
                  clear HE4 j1 j2
                  go_wp2_with fail
                  go_round
                  case rel => exact ⟨k' + 1 + 1, by omega, by omega, by go_num, HE5⟩
                  case measure => simp [intOf]; omega
              · have HE5 : Hid (nmI u d (u.length - (k' + 1 + 1)) (k' + 1 + 1) = nmI u d (u.length - 5) 5) := by have := HE4.out; rw [decide_eq_false j1, Bool.false_and, Bool.false_or] at this; exact this
                have b1 : (cl == [78, 65, 77, 69]) = false := by simpa [nameB] using j1
                clear HE4 j1
                go_wp2_with fail
                go_round
                case rel => exact ⟨k' + 1 + 1, by omega, by omega, by go_num, HE5⟩
                case measure => simp [intOf]; omega
            · have HE5 : Hid ((us.drop (i + 1)).any (nmL c d) = namesR us c d) := by
                have h1 := HEk.out; rw [show u.length - k = 0 by omega] at h1
                have h2 := HE3.out; rw [← h1] at h2; exact h2
              clear HEk HE3
              go_wp2_with fail
              go_round
              case rel => exact ⟨i + 1, by omega, by go_num, HE5⟩
              case measure => simp [intOf]; omega
        · have HE3 : Hid ((us.drop (i + 1)).any (nmL c d) = namesR us c d) := by have := HE2.out; unfold nmL at this; rw [decide_eq_false k2, Bool.false_and, Bool.and_false, Bool.false_or] at this; exact this
          have b2 : (tA u 3 == c) = false := by simpa using k2
          rw [k1] at hc0
          simp only [kRule] at hc0
          clear HE2 k1 k2 HRl hw
          generalize tA u 3 = tt at *
          go_wp2_with fail
          go_round
          case rel => exact ⟨i + 1, by omega, by go_num, HE3⟩
          case measure => simp [intOf]; omega
      · have HE3 : Hid ((us.drop (i + 1)).any (nmL c d) = namesR us c d) := by have := HE2.out; unfold nmL at this; rw [decide_eq_false k1, Bool.false_and, Bool.false_or] at this; exact this
        have b1 : (cA u 0 == [114, 117, 108, 101]) = false := by simpa [kRule] using k1
        clear HE2 k1 HRl
        generalize cA u 0 = cl at *
        go_wp2_with fail
        go_round
        case rel => exact ⟨i + 1, by omega, by go_num, HE3⟩
        case measure => simp [intOf]; omega
    · have HE3 : Hid (namesR us c d = false) := by have := HE.out; rw [List.drop_eq_nil_of_le (by omega)] at this; exact this.symm
      clear HE
      go_wp2_with fail
      go_ret
      exact ⟨ret_bool HE3.out.symm, rfl⟩
end Go.Proofs.YtnbpdffdnphbeaaDoor
