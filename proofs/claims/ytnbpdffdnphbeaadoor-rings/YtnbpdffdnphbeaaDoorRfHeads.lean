/- What Heads and Labels of the document's answer give: the conclusions in order, the labels of all rules. -/
import Derived.Test.YtnbpdffdnphbeaaDoorRfBase
import Derived.Test.YtnbpdffdnphbeaaDoorPRing
import Derived.Deep.OwnRows
import Derived.Deep.RegionWith
import Derived.Deep.CutRange
namespace Go.Proofs.YtnbpdffdnphbeaaDoor
open Go.RowKit

theorem headsR_step (us : List Toks) (i : Nat) (acc : List Bs) (h : i < us.length) : headsR us (us.length - i) i acc = headsR us (us.length - (i + 1)) (i + 1) (if cA (uA us i) 0 = kRule ∧ firstB us kRule 3 (tA (uA us i) 3) = (i : Int) then acc ++ [tA (uA us i) 3] else acc) := by
  rw [show us.length - i = (us.length - (i + 1)) + 1 by omega, headsR]
theorem labsR_step (us : List Toks) (i : Nat) (acc : List Bs) (h : i < us.length) : labsR us (us.length - i) i acc = labsR us (us.length - (i + 1)) (i + 1) (if cA (uA us i) 0 = kRule then acc ++ [tA (uA us i) 1] else acc) := by
  rw [show us.length - i = (us.length - (i + 1)) + 1 by omega, labsR]

set_option maxHeartbeats 2000000 in
theorem Heads_s (w : World) (a : Option Addr) (c : Nat) (ls : List PLine) (us : List Toks) (h : RowL w a us) (hA : AllLT ls us) :
    Calls Tryd.prog 41 #[.slice a us.length c] w fun e w' => ∃ v, e = .returned v ∧ w'.ownsRow w.heap.size 9 1 v (headsU us).length (strC (headsU us)) ∧ (headsU us).length ≤ us.length ∧ Below w.heap.size w w' := by
  obtain ⟨i0, hi0, hz0, hz1, hz2⟩ := info_parts infoStr
  have HR := hideP2 h
  have hfew := h.few
  have HA := hideP2 hA
  obtain ⟨B, hB⟩ : ∃ B, B = w.heap.size := ⟨_, rfl⟩
  have HB0 := hideP2 hB
  clear h hA hB
  go_enter Tryd.func41, Tryd.ntmps41
  go_wp2_with fail
  go_loopw [3, 4] (fun ov iv wr => ∃ (i : Nat) (acc : List Bs), i ≤ us.length ∧ acc.length ≤ i ∧ iv = .int .i64 i ∧ Hid (wr.ownsRow B 9 1 ov acc.length (strC acc)) ∧ Hid (Below B w wr) ∧ Hid (headsR us (us.length - i) i acc = headsU us)) (fun _ iv _ => us.length - (intOf iv).toNat)
  case atStart => exact ⟨0, [], Nat.zero_le _, Nat.le_refl _, rfl, hideP2 (World.ownsRow_nil _ _ _ _), hideP2 (Below.refl _ _), hideP2 rfl⟩
  case round =>
    obtain ⟨i, acc, hi, hacc, rfl, HO, HB, HE⟩ := hrel
    by_cases hlt : i < us.length
    · have hRr := HR.out.below (by have := HB.out; rwa [HB0.out] at this)
      have HF := hideP2 (fun nm => first3_s wr a c ls us nm hRr HA.out)
      obtain ⟨gl, g, o, cu, rfl, hcell, hseg, hlc, hcm, hsm⟩ := hRr.at hlt
      have hx := HA.out.get i hlt
      have h2 := hx.two
      have hc0 := (hseg.tok (show 0 < (uA us i).length by omega)).2
      rw [Nat.zero_mul, Nat.add_zero] at hc0
      have il0 : (0 : Int) < ((uA us i).length : Int) := by omega
      have hE := HE.out
      rw [headsR_step us i acc hlt] at hE
      have HE2 := hideP2 hE
      have hsz : B ≤ wr.heap.size := by have := HB.out.size; have h2 := HB0.out; omega
      have HLn := hideP2 (fun hk => hx.len hk)
      have HSg := hideP2 hseg
      clear HE hE hRr hx hseg
      by_cases k1 : cA (uA us i) 0 = kRule
      · have h6 := HLn.out k1
        have hc3 := (HSg.out.tok (show 3 < (uA us i).length by omega)).1
        rw [show 3 * 3 = 9 from rfl] at hc3
        rw [k1] at hc0 HE2
        simp only [kRule] at hc0
        have il3 : (3 : Int) < ((uA us i).length : Int) := by omega
        have HF2 : Hid (∀ nm : Bs, Calls Tryd.prog 40 #[.slice (some ⟨gl, 0, none⟩) us.length c, .string ⟨#[114, 117, 108, 101]⟩, .int .i64 3, .string ⟨nm.toArray⟩] wr fun e w' => e = .returned (.int .i64 (firstB us kRule 3 nm)) ∧ w' = wr) := HF
        clear HF k1 HLn HSg
        generalize tA (uA us i) 3 = cc at *
        have HF3 := hideP2 (HF2.out cc)
        clear HF2
        generalize firstB us kRule 3 cc = f at *
        by_cases k2 : f = (i : Int)
        · have HE3 : Hid (headsR us (us.length - (i + 1)) (i + 1) (acc ++ [cc]) = headsU us) := by have := HE2.out; rw [if_pos ⟨rfl, k2⟩] at this; exact this
          subst k2
          clear HE2
          go_wp2_with fail
          refine HF3.out.mono ?_
          rintro e w1 ⟨rfl, hw⟩; obtain rfl := hw.symm
          go_wp2_with (at_builtin; refine wpList_append_own _ rfl _ _ 33 rfl B 9 i0 _ 1 16 Tryd.underlying33 hi0 hz0 hz1 hz2 rfl (by decide) _ _ _ rfl (HO.out.alloc _) ⟨wr.heap.size, 0, none⟩ 1 1 [.string ⟨cc.toArray⟩] rfl rfl ?c1 ?c2 ?c3 ?c4 ?c5 ?_)
          case c1 => exact news_cells _ _ _ _ rfl
          case c2 => intro u hu; simp at hu; subst hu; rfl
          case c3 => unfold maxLen; omega
          case c4 => omega
          case c5 => simp; omega
          intro v' w2 hown1 hgrow _
          have HB2 : Hid (Below B w w2) := (HB.out.alloc hsz _).grown hgrow (by simp; omega) (own_block_le HO.out)
          have HO2 : Hid (w2.ownsRow B 9 1 v' (acc ++ [cc]).length (strC (acc ++ [cc]))) := by unfold Hid; rw [strC_snoc]; simpa using hown1
          clear hgrow hown1
          go_wp2_with fail
          go_roundw
          case rel => exact ⟨i + 1, acc ++ [cc], by omega, by simp; omega, by go_num, HO2, HB2, HE3⟩
          case measure => simp [intOf]; omega
        · have HE3 : Hid (headsR us (us.length - (i + 1)) (i + 1) acc = headsU us) := by have := HE2.out; rw [if_neg (fun h => k2 h.2)] at this; exact this
          have b2 : (f == (i : Int)) = false := by simpa using k2
          clear HE2 k2
          go_wp2_with fail
          refine HF3.out.mono ?_
          rintro e w1 ⟨rfl, hw⟩; obtain rfl := hw.symm
          go_wp2_with fail
          go_roundw
          case rel => exact ⟨i + 1, acc, by omega, by omega, by go_num, HO, HB, HE3⟩
          case measure => simp [intOf]; omega
      · have HE3 : Hid (headsR us (us.length - (i + 1)) (i + 1) acc = headsU us) := by have := HE2.out; rw [if_neg (fun h => k1 h.1)] at this; exact this
        have b1 : (cA (uA us i) 0 == [114, 117, 108, 101]) = false := by simpa [kRule] using k1
        clear HE2 k1 HF HLn HSg
        generalize cA (uA us i) 0 = cl at *
        go_wp2_with fail
        go_roundw
        case rel => exact ⟨i + 1, acc, by omega, by omega, by go_num, HO, HB, HE3⟩
        case measure => simp [intOf]; omega
    · have HE3 : Hid (acc = headsU us) := by have := HE.out; rw [show us.length - i = 0 by omega] at this; exact this
      clear HE
      go_wp2_with fail
      go_ret
      exact ⟨_, rfl, by rw [← HE3.out, ← HB0.out]; exact HO.out, by rw [← HE3.out]; omega, by rw [← HB0.out]; exact HB.out⟩

set_option maxHeartbeats 2000000 in
theorem Labels_s (w : World) (a : Option Addr) (c : Nat) (ls : List PLine) (us : List Toks) (h : RowL w a us) (hA : AllLT ls us) :
    Calls Tryd.prog 42 #[.slice a us.length c] w fun e w' => ∃ v, e = .returned v ∧ w'.ownsRow w.heap.size 9 1 v (labsU us).length (strC (labsU us)) ∧ (labsU us).length ≤ us.length ∧ Below w.heap.size w w' := by
  obtain ⟨i0, hi0, hz0, hz1, hz2⟩ := info_parts infoStr
  have HR := hideP2 h
  have hfew := h.few
  have HA := hideP2 hA
  obtain ⟨B, hB⟩ : ∃ B, B = w.heap.size := ⟨_, rfl⟩
  have HB0 := hideP2 hB
  clear h hA hB
  go_enter Tryd.func42, Tryd.ntmps42
  go_wp2_with fail
  go_loopw [3, 4] (fun ov iv wr => ∃ (i : Nat) (acc : List Bs), i ≤ us.length ∧ acc.length ≤ i ∧ iv = .int .i64 i ∧ Hid (wr.ownsRow B 9 1 ov acc.length (strC acc)) ∧ Hid (Below B w wr) ∧ Hid (labsR us (us.length - i) i acc = labsU us)) (fun _ iv _ => us.length - (intOf iv).toNat)
  case atStart => exact ⟨0, [], Nat.zero_le _, Nat.le_refl _, rfl, hideP2 (World.ownsRow_nil _ _ _ _), hideP2 (Below.refl _ _), hideP2 rfl⟩
  case round =>
    obtain ⟨i, acc, hi, hacc, rfl, HO, HB, HE⟩ := hrel
    by_cases hlt : i < us.length
    · have hRr := HR.out.below (by have := HB.out; rwa [HB0.out] at this)
      obtain ⟨gl, g, o, cu, rfl, hcell, hseg, hlc, hcm, hsm⟩ := hRr.at hlt
      have hx := HA.out.get i hlt
      have h2 := hx.two
      have hc0 := (hseg.tok (show 0 < (uA us i).length by omega)).2
      have hc1 := (hseg.tok (show 1 < (uA us i).length by omega)).1
      rw [Nat.zero_mul, Nat.add_zero] at hc0
      rw [Nat.one_mul] at hc1
      have il0 : (0 : Int) < ((uA us i).length : Int) := by omega
      have il1 : (1 : Int) < ((uA us i).length : Int) := by omega
      have hE := HE.out
      rw [labsR_step us i acc hlt] at hE
      have HE2 := hideP2 hE
      have hsz : B ≤ wr.heap.size := by have := HB.out.size; have h2 := HB0.out; omega
      clear HE hE hRr hx hseg
      by_cases k1 : cA (uA us i) 0 = kRule
      · rw [k1] at hc0
        simp only [kRule] at hc0
        have HE3 : Hid (labsR us (us.length - (i + 1)) (i + 1) (acc ++ [tA (uA us i) 1]) = labsU us) := by have := HE2.out; rw [if_pos k1] at this; exact this
        clear k1 HE2
        generalize tA (uA us i) 1 = cc at *
        go_wp2_with (at_builtin; refine wpList_append_own _ rfl _ _ 33 rfl B 9 i0 _ 1 16 Tryd.underlying33 hi0 hz0 hz1 hz2 rfl (by decide) _ _ _ rfl (HO.out.alloc _) ⟨wr.heap.size, 0, none⟩ 1 1 [.string ⟨cc.toArray⟩] rfl rfl ?c1 ?c2 ?c3 ?c4 ?c5 ?_)
        case c1 => exact news_cells _ _ _ _ rfl
        case c2 => intro u hu; simp at hu; subst hu; rfl
        case c3 => unfold maxLen; omega
        case c4 => omega
        case c5 => simp; omega
        intro v' w2 hown1 hgrow _
        have HB2 : Hid (Below B w w2) := (HB.out.alloc hsz _).grown hgrow (by simp; omega) (own_block_le HO.out)
        have HO2 : Hid (w2.ownsRow B 9 1 v' (acc ++ [cc]).length (strC (acc ++ [cc]))) := by unfold Hid; rw [strC_snoc]; simpa using hown1
        clear hgrow hown1
        go_wp2_with fail
        go_roundw
        case rel => exact ⟨i + 1, acc ++ [cc], by omega, by simp; omega, by go_num, HO2, HB2, HE3⟩
        case measure => simp [intOf]; omega
      · have HE3 : Hid (labsR us (us.length - (i + 1)) (i + 1) acc = labsU us) := by have := HE2.out; rw [if_neg k1] at this; exact this
        have b1 : (cA (uA us i) 0 == [114, 117, 108, 101]) = false := by simpa [kRule] using k1
        clear HE2 k1
        generalize cA (uA us i) 0 = cl at *
        go_wp2_with fail
        go_roundw
        case rel => exact ⟨i + 1, acc, by omega, by omega, by go_num, HO, HB, HE3⟩
        case measure => simp [intOf]; omega
    · have HE3 : Hid (acc = labsU us) := by have := HE.out; rw [show us.length - i = 0 by omega] at this; exact this
      clear HE
      go_wp2_with fail
      go_ret
      exact ⟨_, rfl, by rw [← HE3.out, ← HB0.out]; exact HO.out, by rw [← HE3.out]; omega, by rw [← HB0.out]; exact HB.out⟩
end Go.Proofs.YtnbpdffdnphbeaaDoor

/- What Names, Over and step of the document's answer give: from which name to which there is a step. -/
namespace Go.Proofs.YtnbpdffdnphbeaaDoor
open Go.RowKit

theorem any_dropU (p : Toks → Bool) (us : List Toks) (i : Nat) (h : i < us.length) : (us.drop i).any p = (p (uA us i) || (us.drop (i + 1)).any p) := by
  rw [List.drop_eq_getElem_cons h, List.any_cons]; simp [uA, List.getD, h]
theorem nmI_step (u : Toks) (d : Bs) (k : Nat) (h : k < u.length) : nmI u d (u.length - k) k = (nmAt u d k || nmI u d (u.length - (k + 1)) (k + 1)) := by
  rw [show u.length - k = (u.length - (k + 1)) + 1 by omega, nmI]

set_option maxHeartbeats 4000000 in
theorem Names_s (w : World) (a : Option Addr) (cp : Nat) (ls : List PLine) (us : List Toks) (c d : Bs) (h : RowL w a us) (hA : AllLT ls us) :
    Calls Tryd.prog 51 #[.slice a us.length cp, .string ⟨c.toArray⟩, .string ⟨d.toArray⟩] w fun e w' => e = .returned (.bool (namesR us c d)) ∧ w' = w := by
  have HR := hideP2 h
  have hfew := h.few
  have HA := hideP2 hA
  clear h hA
  go_enter Tryd.func51, Tryd.ntmps51
  go_wp2_with fail
  go_loop [7] (fun iv => ∃ (i : Nat), i ≤ us.length ∧ iv = .int .i64 i ∧ Hid ((us.drop i).any (nmL c d) = namesR us c d)) (fun iv => us.length - (intOf iv).toNat)
  case atStart => exact ⟨0, Nat.zero_le _, rfl, hideP2 rfl⟩
  case round =>
    obtain ⟨i, hi, rfl, HE⟩ := hrel
    by_cases hlt : i < us.length
    · obtain ⟨gl, g, o, cu, rfl, hcell, hseg, hlc, hcm, hsm⟩ := HR.out.at hlt
      have hx := HA.out.get i hlt
      have h2 := hx.two
      have hc0 := (hseg.tok (show 0 < (uA us i).length by omega)).2
      rw [Nat.zero_mul, Nat.add_zero] at hc0
      have il0 : (0 : Int) < ((uA us i).length : Int) := by omega
      have hE := HE.out
      rw [any_dropU _ us i hlt] at hE
      have HE2 := hideP2 hE
      have HRl := hideP2 (fun hk => hx.rule hk)
      have HSg := hideP2 hseg
      clear HE hE hx hseg
      generalize uA us i = u at *
      by_cases k1 : cA u 0 = kRule
      · obtain ⟨w0, hw⟩ := HRl.out k1
        have hwlo := hw.wlo
        have hwhi := hw.whi
        have HWn := hideP2 hw.wB
        have HWA := hideP2 hw.wAt
        have hc3 := (HSg.out.tok (show 3 < u.length by omega)).1
        rw [show 3 * 3 = 9 from rfl] at hc3
        have il3 : (3 : Int) < (u.length : Int) := by omega
        by_cases k2 : tA u 3 = c
        · have HE3 : Hid ((nmI u d (u.length - 5) 5 || (us.drop (i + 1)).any (nmL c d)) = namesR us c d) := by have := HE2.out; unfold nmL at this; rw [decide_eq_true k1, decide_eq_true k2] at this; exact this
          rw [k1] at hc0
          simp only [kRule] at hc0
          rw [k2] at hc3
          clear HE2 k1 k2 HRl hw
          go_wp2_with fail
          refine (when_any u g o cu _ HSg.out (by omega) hlc).mono ?_
          rintro e w1 ⟨rfl, hw⟩; obtain rfl := hw.symm; rw [HWn.out]
          go_wp2_with fail
          go_loop [10] (fun kv => ∃ (k : Nat), 5 ≤ k ∧ k ≤ u.length ∧ kv = .int .i64 k ∧ Hid (nmI u d (u.length - k) k = nmI u d (u.length - 5) 5)) (fun kv => u.length - (intOf kv).toNat)
          case atStart => exact ⟨5, Nat.le_refl _, by omega, rfl, hideP2 rfl⟩
          case round =>
            obtain ⟨k, hk5, hk, rfl, HEk⟩ := hrel
            by_cases hltk : k < u.length
            · have hck := (HSg.out.tok hltk).2
              have htk := (HSg.out.tok hltk).1
              obtain ⟨k', rfl⟩ : ∃ k', k = k' + 1 := ⟨k - 1, by omega⟩
              have hcp := (HSg.out.tok (show k' < u.length by omega)).2
              have ikl : ((k' : Int) + 1) < (u.length : Int) := by omega
              have ikp : (k' : Int) < (u.length : Int) := by omega
              have hE := HEk.out
              rw [nmI_step u d (k' + 1) hltk] at hE
              unfold nmAt at hE
              rw [HWA.out, show k' + 1 - 1 = k' by omega] at hE
              have HE4 := hideP2 hE
              clear HEk hE
              generalize cA u (k' + 1) = cl at *
              generalize tA u (k' + 1) = tt at *
              generalize cA u k' = clp at *
              by_cases j1 : cl = nameB
              · have b1 : (cl == [78, 65, 77, 69]) = true := by simpa [nameB] using j1
                by_cases j2 : tt = d
                · have b2 : (tt == d) = true := by simpa using j2
                  by_cases j3 : k' + 1 < w0
                  · have HF : Hid (namesR us c d = true) := by unfold Hid; rw [← HE3.out, ← HE4.out, decide_eq_true j1, decide_eq_true j2, decide_eq_true j3]; rfl
                    have i3 : ((k' : Int) + 1) < (w0 : Int) := by omega
                    clear HE4 j1 j2
                    go_wp2_with fail
                    go_ret
                    exact ⟨ret_bool HF.out.symm, rfl⟩
                  · have i3 : decide (((k' : Int) + 1) < (w0 : Int)) = false := decide_eq_false (by omega)
                    by_cases j4 : clp = [104, 97, 115]
                    · have HF : Hid (namesR us c d = true) := by unfold Hid; rw [← HE3.out, ← HE4.out, decide_eq_true j1, decide_eq_true j2, decide_eq_true j4, Bool.or_true]; rfl
                      have b4 : (clp == [104, 97, 115]) = true := by simpa using j4
                      clear HE4 j1 j2 j4
                      go_wp2_with fail
                      go_ret
                      exact ⟨ret_bool HF.out.symm, rfl⟩
                    · have HE5 : Hid (nmI u d (u.length - (k' + 1 + 1)) (k' + 1 + 1) = nmI u d (u.length - 5) 5) := by have := HE4.out; rw [decide_eq_false j3, decide_eq_false j4, Bool.false_or, Bool.and_false, Bool.and_false, Bool.false_or] at this; exact this
                      have b4 : (clp == [104, 97, 115]) = false := by simpa using j4
                      clear HE4 j1 j2 j4
                      go_wp2_with fail
                      go_round
                      case rel => exact ⟨k' + 1 + 1, by omega, by omega, by go_num, HE5⟩
                      case measure => simp [intOf]; omega
                · have HE5 : Hid (nmI u d (u.length - (k' + 1 + 1)) (k' + 1 + 1) = nmI u d (u.length - 5) 5) := by have := HE4.out; rw [decide_eq_false j2, Bool.false_and, Bool.and_false, Bool.false_or] at this; exact this
                  have b2 : (tt == d) = false := by simpa using j2
                  clear HE4 j1 j2
                  go_wp2_with fail
                  go_round
                  case rel => exact ⟨k' + 1 + 1, by omega, by omega, by go_num, HE5⟩
                  case measure => simp [intOf]; omega
              · have HE5 : Hid (nmI u d (u.length - (k' + 1 + 1)) (k' + 1 + 1) = nmI u d (u.length - 5) 5) := by have := HE4.out; rw [decide_eq_false j1, Bool.false_and, Bool.false_or] at this; exact this
                have b1 : (cl == [78, 65, 77, 69]) = false := by simpa [nameB] using j1
                clear HE4 j1
                go_wp2_with fail
                go_round
                case rel => exact ⟨k' + 1 + 1, by omega, by omega, by go_num, HE5⟩
                case measure => simp [intOf]; omega
            · have HE5 : Hid ((us.drop (i + 1)).any (nmL c d) = namesR us c d) := by
                have h1 := HEk.out; rw [show u.length - k = 0 by omega] at h1
                have h2 := HE3.out; rw [← h1] at h2; exact h2
              clear HEk HE3
              go_wp2_with fail
              go_round
              case rel => exact ⟨i + 1, by omega, by go_num, HE5⟩
              case measure => simp [intOf]; omega
        · have HE3 : Hid ((us.drop (i + 1)).any (nmL c d) = namesR us c d) := by have := HE2.out; unfold nmL at this; rw [decide_eq_false k2, Bool.false_and, Bool.and_false, Bool.false_or] at this; exact this
          have b2 : (tA u 3 == c) = false := by simpa using k2
          rw [k1] at hc0
          simp only [kRule] at hc0
          clear HE2 k1 k2 HRl hw
          generalize tA u 3 = tt at *
          go_wp2_with fail
          go_round
          case rel => exact ⟨i + 1, by omega, by go_num, HE3⟩
          case measure => simp [intOf]; omega
      · have HE3 : Hid ((us.drop (i + 1)).any (nmL c d) = namesR us c d) := by have := HE2.out; unfold nmL at this; rw [decide_eq_false k1, Bool.false_and, Bool.false_or] at this; exact this
        have b1 : (cA u 0 == [114, 117, 108, 101]) = false := by simpa [kRule] using k1
        clear HE2 k1 HRl
        generalize cA u 0 = cl at *
        go_wp2_with fail
        go_round
        case rel => exact ⟨i + 1, by omega, by go_num, HE3⟩
        case measure => simp [intOf]; omega
    · have HE3 : Hid (namesR us c d = false) := by have := HE.out; rw [List.drop_eq_nil_of_le (by omega)] at this; exact this.symm
      clear HE
      go_wp2_with fail
      go_ret
      exact ⟨ret_bool HE3.out.symm, rfl⟩
end Go.Proofs.YtnbpdffdnphbeaaDoor

/- What Over, step and steps of the document's answer give: a row of bools for each name. -/
namespace Go.Proofs.YtnbpdffdnphbeaaDoor
open Go.RowKit

set_option maxHeartbeats 2000000 in
theorem Over_s (w : World) (a : Option Addr) (cp : Nat) (ls : List PLine) (us : List Toks) (x y : Bs) (h : RowL w a us) (hA : AllLT ls us) :
    Calls Tryd.prog 50 #[.slice a us.length cp, .string ⟨x.toArray⟩, .string ⟨y.toArray⟩] w fun e w' => e = .returned (.bool (overR us x y)) ∧ w' = w := by
  have HR := hideP2 h
  have hfew := h.few
  have HA := hideP2 hA
  clear h hA
  go_enter Tryd.func50, Tryd.ntmps50
  go_wp2_with fail
  go_loop [7] (fun iv => ∃ (i : Nat), i ≤ us.length ∧ iv = .int .i64 i ∧ Hid ((us.drop i).any (ovL x y) = overR us x y)) (fun iv => us.length - (intOf iv).toNat)
  case atStart => exact ⟨0, Nat.zero_le _, rfl, hideP2 rfl⟩
  case round =>
    obtain ⟨i, hi, rfl, HE⟩ := hrel
    by_cases hlt : i < us.length
    · obtain ⟨gl, g, o, cu, rfl, hcell, hseg, hlc, hcm, hsm⟩ := HR.out.at hlt
      have hx := HA.out.get i hlt
      have h2 := hx.two
      have h3 : cA (uA us i) 0 = kOver → 3 ≤ (uA us i).length := fun hk => by
        rcases hx.kind with ⟨_, b, _⟩ | ⟨_, b⟩ | ⟨_, _, h3, _⟩ | ⟨_, b, _⟩
        · exact absurd (b.symm.trans hk) (by decide)
        · exact absurd (b.symm.trans hk) (by decide)
        · exact h3
        · exact absurd (b.symm.trans hk) (by decide)
      have H3 := hideP2 h3
      have hc0 := (hseg.tok (show 0 < (uA us i).length by omega)).2
      have hc1 := (hseg.tok (show 1 < (uA us i).length by omega)).1
      rw [Nat.zero_mul, Nat.add_zero] at hc0
      rw [Nat.one_mul] at hc1
      have il0 : (0 : Int) < ((uA us i).length : Int) := by omega
      have il1 : (1 : Int) < ((uA us i).length : Int) := by omega
      have hE := HE.out
      rw [any_dropU _ us i hlt] at hE
      have HE2 := hideP2 hE
      have HSg := hideP2 hseg
      clear HE hE hx hseg h3
      generalize uA us i = u at *
      by_cases k1 : cA u 0 = kOver
      · have h3 := H3.out k1
        have hc2 := (HSg.out.tok (show 2 < u.length by omega)).1
        rw [show 2 * 3 = 6 from rfl] at hc2
        have il2 : (2 : Int) < (u.length : Int) := by omega
        rw [k1] at hc0
        simp only [kOver] at hc0
        by_cases k2 : tA u 1 = x
        · by_cases k3 : tA u 2 = y
          · have HF : Hid (overR us x y = true) := by have := HE2.out; unfold ovL at this; rw [decide_eq_true k1, decide_eq_true k2, decide_eq_true k3] at this; exact this.symm
            have b2 : (tA u 1 == x) = true := by simpa using k2
            have b3 : (tA u 2 == y) = true := by simpa using k3
            clear HE2 k1 k2 k3 H3
            generalize tA u 1 = t1 at *
            generalize tA u 2 = t2 at *
            go_wp2_with fail
            go_ret
            exact ⟨ret_bool HF.out.symm, rfl⟩
          · have HE3 : Hid ((us.drop (i + 1)).any (ovL x y) = overR us x y) := by have := HE2.out; unfold ovL at this; rw [decide_eq_false k3, Bool.and_false, Bool.and_false, Bool.false_or] at this; exact this
            have b2 : (tA u 1 == x) = true := by simpa using k2
            have b3 : (tA u 2 == y) = false := by simpa using k3
            clear HE2 k1 k2 k3 H3
            generalize tA u 1 = t1 at *
            generalize tA u 2 = t2 at *
            go_wp2_with fail
            go_round
            case rel => exact ⟨i + 1, by omega, by go_num, HE3⟩
            case measure => simp [intOf]; omega
        · have HE3 : Hid ((us.drop (i + 1)).any (ovL x y) = overR us x y) := by have := HE2.out; unfold ovL at this; rw [decide_eq_false k2, Bool.false_and, Bool.and_false, Bool.false_or] at this; exact this
          have b2 : (tA u 1 == x) = false := by simpa using k2
          clear HE2 k1 k2 H3
          generalize tA u 1 = t1 at *
          go_wp2_with fail
          go_round
          case rel => exact ⟨i + 1, by omega, by go_num, HE3⟩
          case measure => simp [intOf]; omega
      · have HE3 : Hid ((us.drop (i + 1)).any (ovL x y) = overR us x y) := by have := HE2.out; unfold ovL at this; rw [decide_eq_false k1, Bool.false_and, Bool.false_or] at this; exact this
        have b1 : (cA u 0 == [111, 118, 101, 114]) = false := by simpa [kOver] using k1
        clear HE2 k1 H3
        generalize cA u 0 = cl at *
        go_wp2_with fail
        go_round
        case rel => exact ⟨i + 1, by omega, by go_num, HE3⟩
        case measure => simp [intOf]; omega
    · have HE3 : Hid (overR us x y = false) := by have := HE.out; rw [List.drop_eq_nil_of_le (by omega)] at this; exact this.symm
      clear HE
      go_wp2_with fail
      go_ret
      exact ⟨ret_bool HE3.out.symm, rfl⟩

theorem step_s (w : World) (a : Option Addr) (cp : Nat) (ls : List PLine) (us : List Toks) (r : Bool) (x y : Bs) (h : RowL w a us) (hA : AllLT ls us) :
    Calls Tryd.prog 25 #[.slice a us.length cp, .bool r, .string ⟨x.toArray⟩, .string ⟨y.toArray⟩] w fun e w' => e = .returned (.bool (stepR us r x y)) ∧ w' = w := by
  have H1 := hideP2 (Over_s w a cp ls us x y h hA)
  have H2 := hideP2 (Names_s w a cp ls us x y h hA)
  clear h hA
  cases r
  · have HR : Hid (stepR us false x y = namesR us x y) := rfl
    generalize stepR us false x y = z at *
    go_enter Tryd.func25, Tryd.ntmps25
    go_wp2_with fail
    refine H2.out.mono ?_
    rintro e w1 ⟨rfl, hw⟩; obtain rfl := hw.symm
    go_wp2_with fail
    go_ret
    exact ⟨ret_bool HR.out.symm, rfl⟩
  · have HR : Hid (stepR us true x y = overR us x y) := rfl
    generalize stepR us true x y = z at *
    go_enter Tryd.func25, Tryd.ntmps25
    go_wp2_with fail
    refine H1.out.mono ?_
    rintro e w1 ⟨rfl, hw⟩; obtain rfl := hw.symm
    go_wp2_with fail
    go_ret
    exact ⟨ret_bool HR.out.symm, rfl⟩

/- Rows of bools. -/
def BoolM (w : World) (g : Nat) (l : List Bool) : Prop := w.heap[g]? = some (.cells (gC l) 4 (0, 0))
theorem BoolM.cell {w : World} {g : Nat} {l : List Bool} (h : BoolM w g l) {k : Nat} (hk : k < l.length) : w.cell? ⟨g, k, none⟩ = some (.bool (l.getD k false)) := by
  simp only [World.cell?, show w.heap[g]? = _ from h]
  exact gC_get hk
theorem BoolM.free {w : World} {g : Nat} {l : List Bool} (h : BoolM w g l) (k : Nat) : w.frozen? ⟨g, k, none⟩ = false := by simp [World.frozen?, show w.heap[g]? = _ from h]
theorem BoolM.lt {w : World} {g : Nat} {l : List Bool} (h : BoolM w g l) : g < w.heap.size := by
  rcases Nat.lt_or_ge g w.heap.size with h1 | h1
  · exact h1
  · have h2 : w.heap[g]? = _ := h; rw [Array.getElem?_eq_none h1] at h2; cases h2
theorem BoolM.set {w : World} {g : Nat} {l : List Bool} (h : BoolM w g l) (k : Nat) (b : Bool) : BoolM (w.setCell ⟨g, k, none⟩ (.bool b)) g (l.set k b) := by
  unfold BoolM at h ⊢
  rw [setCell_eq_setRow w g k _ _ _ _ h, setRow_heap w g (gC l) _ _ _ h]
  congr 2
  simp [gC, List.map_set]
theorem OnlyG.drew {g : Nat} {a b : World} (h : OnlyG g a b) : OnlyG g a b.drew := ⟨h.os, h.tape, h.output, h.size, h.block⟩
theorem made_false (n : Nat) : madeCells #[Value.bool false] n = gC (List.replicate n false) := by
  apply Array.ext
  · simp [madeCells, gC]
  · intro i h1 h2
    simp [madeCells, gC, Nat.mod_one]

/-- A row so far: the first k bools are told. -/
def rowTo (m : Nat → Nat → Bool) (i N k : Nat) : List Bool := (List.range N).map fun j => decide (j < k) && m i j
theorem rowTo_len (m : Nat → Nat → Bool) (i N k : Nat) : (rowTo m i N k).length = N := by simp [rowTo]
theorem rowTo_zero (m : Nat → Nat → Bool) (i N : Nat) : rowTo m i N 0 = List.replicate N false := by
  apply List.ext_getElem
  · simp [rowTo]
  · intro n h1 h2; simp [rowTo]
theorem rowTo_set (m : Nat → Nat → Bool) (i N k : Nat) : (rowTo m i N k).set k (m i k) = rowTo m i N (k + 1) := by
  apply List.ext_getElem
  · simp [rowTo]
  · intro n h1 h2
    simp only [rowTo, List.getElem_set, List.getElem_map, List.getElem_range]
    by_cases h : k = n
    · subst h; simp
    · rw [if_neg h]
      congr 1
      rw [decide_eq_decide]; omega
theorem rowTo_get (m : Nat → Nat → Bool) (i N k : Nat) (hk : k < N) : (rowTo m i N N).getD k false = m i k := by
  simp [rowTo, List.getD, hk]

def rowV (N g : Nat) : Value := .slice (some ⟨g, 0, none⟩) N N
/-- Rows lie in memory. -/
structure MatM (B : Nat) (w : World) (v : Value) (gs : List Nat) (m : Nat → Nat → Bool) (N k : Nat) : Prop where
  len : gs.length = k
  own : w.ownsRow B 121 1 v gs.length (gs.map (rowV N))
  rows : ∀ j, j < k → BoolM w (gs.getD j 0) (rowTo m j N N)

theorem infoRow : (Tryd.prog.info? 121).map (fun i => (i.zero, i.size, i.bytes)) = some (some (.slice none 0 0), 1, 24) := by kernel_rfl
theorem infoBool : (Tryd.prog.info? 4).map (fun i => (i.zero, i.size, i.bytes)) = some (some (.bool false), 1, 1) := by kernel_rfl

theorem owns_same {w w' : World} {B : Nat} {e : TypeId} {size : Nat} {v : Value} {n : Nat} {xs : List Value} (h : w.ownsRow B e size v n xs) (hb : Below w.heap.size w w') : w'.ownsRow B e size v n xs := by
  refine ⟨h.1, ?_⟩
  rcases h.2 with h1 | ⟨g, cap, cur, h1, h2, h3, r⟩
  · exact .inl h1
  · refine .inr ⟨g, cap, cur, h1, h2, ?_, r⟩
    have hlt : g < w.heap.size := by
      rcases Nat.lt_or_ge g w.heap.size with h | h
      · exact h
      · rw [Array.getElem?_eq_none h] at h3; cases h3
    rw [hb.block g hlt]; exact h3
theorem BoolM.below {w w' : World} {g : Nat} {l : List Bool} (h : BoolM w g l) (hb : Below w.heap.size w w') : BoolM w' g l := by
  have hl := h.lt
  unfold BoolM at h ⊢
  rw [hb.block g hl]; exact h
theorem BoolM.grown {w w' : World} {g B : Nat} {l : List Bool} {v : Value} {n : Nat} {xs : List Value} (h : BoolM w g l) (hl : w.ownsRow B 121 1 v n xs) (hg : w.grownBy w' v.ownBlock) : BoolM w' g l := by
  have hlt := h.lt
  unfold BoolM at h ⊢
  rw [hg.block g hlt ?_]; · exact h
  intro hE
  rcases hl.2 with ⟨k1, _⟩ | ⟨g', cap', cur', k1, _, k3, _⟩
  · rw [k1] at hE; simp [Value.ownBlock] at hE
  · rw [k1] at hE
    simp [Value.ownBlock] at hE
    subst hE
    rw [h] at k3
    simp at k3
theorem MatM.snoc {B N i g : Nat} {w w' : World} {v v' : Value} {gs : List Nat} {m : Nat → Nat → Bool} (h : MatM B w v gs m N i) (hr : BoolM w g (rowTo m i N N)) (hg : w.grownBy w' v.ownBlock) (hown : w'.ownsRow B 121 1 v' (gs.length + 1) (gs.map (rowV N) ++ [rowV N g])) : MatM B w' v' (gs ++ [g]) m N (i + 1) := by
  refine ⟨by rw [List.length_append, List.length_singleton, h.len], by rw [List.length_append, List.map_append]; exact hown, fun j hj => ?_⟩
  have hl := h.len
  rcases Nat.lt_or_ge j i with h1 | h1
  · have e : (gs ++ [g]).getD j 0 = gs.getD j 0 := by rw [List.getD, List.getD, List.getElem?_append_left (by omega)]
    rw [e]; exact (h.rows j h1).grown h.own hg
  · obtain rfl : j = i := by omega
    have e : (gs ++ [g]).getD j 0 = g := by rw [List.getD, List.getElem?_append_right (by omega), hl]; simp
    rw [e]; exact hr.grown h.own hg

theorem StrV.below {w w' : World} {a : Option Addr} {names : List Bs} (h : StrV w a names) (hb : Below w.heap.size w w') : StrV w' a names :=
  ⟨fun h0 => let ⟨g, e, p⟩ := h.blk h0; ⟨g, e, fun i hi => by rw [hb.cell (p := ⟨g, i, none⟩) (cell_lt (p i hi))]; exact p i hi⟩, h.few⟩

set_option maxHeartbeats 4000000 in
theorem steps_s (w : World) (a : Option Addr) (cp : Nat) (ls : List PLine) (us : List Toks) (r : Bool) (na : Option Addr) (nc : Nat) (names : List Bs) (h : RowL w a us) (hA : AllLT ls us) (hn : StrV w na names) :
    Calls Tryd.prog 76 #[.slice a us.length cp, .bool r, .slice na names.length nc] w fun e w' => ∃ v gs, e = .returned v ∧ MatM w.heap.size w' v gs (stepM us r names) names.length names.length ∧ Below w.heap.size w w' := by
  obtain ⟨i0, hi0, hz0, hz1, hz2⟩ := info_parts infoRow
  obtain ⟨i1, hj0, hj1, hj2, hj3⟩ := info_parts infoBool
  have HR := hideP2 h
  have HA := hideP2 hA
  have HN := hideP2 hn
  have hfew := hn.few
  have hlen64 : i1.bytes * names.length ≤ 281474976710656 := by rw [hj3]; omega
  have hlen63 : names.length ≤ 9223372036854775807 := by omega
  obtain ⟨B, hB⟩ : ∃ B, B = w.heap.size := ⟨_, rfl⟩
  have HB0 := hideP2 hB
  have HB1 := hideP2 hlen64
  have HB2 := hideP2 hlen63
  clear h hA hn hB hlen64 hlen63
  go_enter Tryd.func76, Tryd.ntmps76
  go_wp2_with fail
  go_loopw [7, 8] (fun ov iv wr => ∃ (i : Nat) (gs : List Nat), i ≤ names.length ∧ iv = .int .i64 i ∧ Hid (MatM B wr ov gs (stepM us r names) names.length i) ∧ Hid (Below B w wr)) (fun _ iv _ => names.length - (intOf iv).toNat)
  case atStart => exact ⟨0, [], Nat.zero_le _, rfl, hideP2 ⟨rfl, World.ownsRow_nil _ _ _ _, fun j hj => absurd hj (by omega)⟩, hideP2 (Below.refl _ _)⟩
  case round =>
    obtain ⟨i, gs, hi, rfl, HM, HB⟩ := hrel
    by_cases hlt : i < names.length
    · have hsz : B ≤ wr.heap.size := by have := HB.out.size; have h2 := HB0.out; omega
      obtain ⟨wo, hwo⟩ : ∃ wo, wo = wr := ⟨_, rfl⟩
      subst hwo
      have HZ := hideP2 (show (Value.bool false).cells = #[Value.bool false] from rfl)
      go_wp2_with (with_reducible refine wpList_make_row _ ?hg (.tmp 18) (.tmp 18) 121 ?hop 4 i1 (.bool false) Tryd.underlying121 hj0 hj1 hj2 HZ.out .i64 .i64 names.length ?hl ?hc HB1.out HB2.out ?_
                   case hop => rfl
                   case hg => rfl
                   case hl => rfl
                   case hc => rfl)
      have hM0 : BoolM (wo.alloc (.cells (madeCells #[Value.bool false] names.length) 4)) wo.heap.size (rowTo (stepM us r names) i names.length 0) := by
        unfold BoolM; rw [rowTo_zero, ← made_false]; exact hb_end _ _
      have hO0 : Below wo.heap.size wo (wo.alloc (.cells (madeCells #[Value.bool false] names.length) 4)) := (Below.refl _ _).alloc (Nat.le_refl _) _
      have hS0 : wo.heap.size < (wo.alloc (.cells (madeCells #[Value.bool false] names.length) 4)).heap.size := lt_end _ _
      generalize wo.alloc (.cells (madeCells #[Value.bool false] names.length) 4) = wq at *
      have HM0 := hideP2 hM0
      have HO0 := hideP2 hO0
      have HS0 := hideP2 hS0
      clear hM0 hO0 hS0
      go_loopw [10] (fun kv wr => ∃ (k : Nat), k ≤ names.length ∧ kv = .int .i64 k ∧ Hid (BoolM wr wo.heap.size (rowTo (stepM us r names) i names.length k)) ∧ Hid (OnlyG wo.heap.size wq wr)) (fun kv _ => names.length - (intOf kv).toNat)
      case atStart => exact ⟨0, Nat.zero_le _, rfl, HM0, hideP2 (OnlyG.refl _ _)⟩
      case round =>
        obtain ⟨k, hk, rfl, HMk, HOk⟩ := hrel
        clear HM0
        by_cases hltk : k < names.length
        · have hbw : Below w.heap.size w wr := by
            have h1 := HB.out
            rw [HB0.out] at h1
            have h2 : w.heap.size ≤ wo.heap.size := h1.size
            exact h1.trans ((HO0.out.mono h2).trans (HOk.out.below (Nat.le_trans h2 (Nat.le_of_lt HS0.out)) h2))
          obtain ⟨ng, rfl, hcs⟩ := (HN.out.below hbw).blk (by omega)
          have hci := hcs i hlt
          have hck := hcs k hltk
          have HSt := hideP2 (fun w' (hb : Below wr.heap.size wr w') x y => step_s w' a cp ls us r x y ((HR.out.below hbw).below hb) HA.out)
          have hcell := HMk.out.cell (k := k) (by rw [rowTo_len]; exact hltk)
          have hfree := HMk.out.free k
          have ik : (k : Int) < (names.length : Int) := by omega
          have ii : (i : Int) < (names.length : Int) := by omega
          have HV : Hid (stepM us r names i k = stepR us r (names.getD i []) (names.getD k [])) := rfl
          clear hbw hcs
          generalize names.getD i [] = x at *
          generalize names.getD k [] = y at *
          have HSt2 := hideP2 (fun w' (hb : Below wr.heap.size wr w') => HSt.out w' hb x y)
          clear HSt
          generalize stepR us r x y = z at *
          go_wp2_with fail
          go_region_with (go_at_call 25
                          refine (HSt2.out _ (Below.drew (Below.refl _ _))).mono ?_
                          rintro e w1 ⟨rfl, hw⟩
                          obtain rfl := hw.symm)
          all_goals
            have HM2 : Hid (BoolM (wr.drew.setCell ⟨wo.heap.size, k, none⟩ (.bool z)) wo.heap.size (rowTo (stepM us r names) i names.length (k + 1))) := by
              unfold Hid
              rw [← rowTo_set, HV.out]
              exact BoolM.set (w := wr.drew) HMk.out k z
            have HO2 : Hid (OnlyG wo.heap.size wq (wr.drew.setCell ⟨wo.heap.size, k, none⟩ (.bool z))) := HOk.out.drew.trans (OnlyG.set _ _ _ _)
            go_wp2_with fail
            go_roundw
            case rel => exact ⟨k + 1, by omega, by go_num, HM2, HO2⟩
            case measure => simp [intOf]; omega
        · obtain rfl : k = names.length := by omega
          have hbo : Below wo.heap.size wo wr := HO0.out.trans (HOk.out.below (Nat.le_of_lt HS0.out) (Nat.le_refl _))
          have HMr := hideP2 (show MatM B wr _ gs (stepM us r names) names.length i from ⟨HM.out.len, owns_same HM.out.own hbo, fun j hj => (HM.out.rows j hj).below hbo⟩)
          have HBr : Hid (Below B w wr) := HB.out.trans (hbo.mono hsz)
          have hszr : B ≤ wr.heap.size := Nat.le_trans hsz hbo.size
          have hgl : gs.length ≤ names.length := by rw [HM.out.len]; omega
          clear hbo
          go_wp2_with (at_builtin; refine wpList_append_own _ rfl _ _ 119 rfl B 121 i0 _ 1 24 Tryd.underlying119 hi0 hz0 hz1 hz2 rfl (by decide) _ _ _ rfl (HMr.out.own.alloc _) ⟨wr.heap.size, 0, none⟩ 1 1 [rowV names.length wo.heap.size] rfl rfl ?c1 ?c2 ?c3 ?c4 ?c5 ?_)
          case c1 => exact news_cells _ _ _ _ rfl
          case c2 => intro u hu; simp at hu; subst hu; rfl
          case c3 => unfold maxLen; omega
          case c4 => omega
          case c5 => simp; omega
          intro v' w2 hown1 hgrow _
          have HB2 : Hid (Below B w w2) := (HBr.out.alloc hszr _).grown hgrow (by simp; omega) (own_block_le HMr.out.own)
          have HM2 : Hid (MatM B w2 v' (gs ++ [wo.heap.size]) (stepM us r names) names.length (i + 1)) := by
            refine MatM.snoc (w := wr.alloc _) ⟨HMr.out.len, HMr.out.own.alloc _, fun j hj => ?_⟩ ?_ hgrow hown1
            · exact (HMr.out.rows j hj).below ((Below.refl _ _).alloc (Nat.le_refl _) _)
            · exact HMk.out.below ((Below.refl _ _).alloc (Nat.le_refl _) _)
          clear hgrow hown1
          go_wp2_with fail
          go_roundw
          case rel => exact ⟨i + 1, gs ++ [wo.heap.size], by omega, by go_num, HM2, HB2⟩
          case measure => simp [intOf]; omega
    · have HE : Hid (i = names.length) := by unfold Hid; omega
      go_wp2_with fail
      go_ret
      refine ⟨_, gs, rfl, ?_, by rw [← HB0.out]; exact HB.out⟩
      have := HM.out
      rw [HE.out, HB0.out] at this
      exact this
end Go.Proofs.YtnbpdffdnphbeaaDoor
