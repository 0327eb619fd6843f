/- What Tidy of the document's answer gives of a text. -/
import Derived.Test.YtlfffodehppgbaaDoorRefLines
namespace Go.Proofs.YtlfffodehppgbaaDoor
open Go.RowKit

theorem owns_lines {w : World} {base g cap : Nat} {v : Value} {ls : List (Nat × Nat)} (h : w.ownsRow base 46 1 v ls.length (ls.map (rlineV g cap))) :
    (v = .slice none 0 0 ∧ ls = []) ∨ ∃ gl cl, v = .slice (some ⟨gl, 0, none⟩) ls.length cl ∧ ls.length ≤ cl ∧ ∀ i, i < ls.length → w.cell? ⟨gl, i, none⟩ = some (rlineV g cap (ls.getD i (0, 0))) := by
  rcases h.2 with ⟨h1, h2⟩ | ⟨gl, cl, cur, h1, h2, h3, h4, h5, h6, h7⟩
  · exact .inl ⟨h1, List.eq_nil_of_length_eq_zero h2⟩
  · refine .inr ⟨gl, cl, h1, h4, fun i hi => cell_take h3 h7 ?_⟩
    rw [List.getElem?_map]; simp [List.getD, hi]

theorem segT_len {ts : Toks} {p : Nat × Nat} (h : p.1 + p.2 < ts.length) : (segT ts p).length = p.2 := by
  unfold segT; rw [List.length_take, List.length_drop]; omega

theorem szT_segT (ts : Toks) (p : Nat × Nat) : szT (segT ts p) ≤ szT ts := Nat.le_trans (szT_take_le _ _) (szT_drop_le _ _)

theorem ret_pairC {a : ByteArray} {b : Bs} {x : Int} (h : a = ⟨b.toArray⟩) : Ending.returned (.tuple #[.string a, .int .i64 x]) = .returned (.tuple #[.string ⟨b.toArray⟩, .int .i64 x]) := by rw [h]

/-- Tidy's answer by the document: the text, and the error. -/
def tidyB (n : Nat) (l : Bs) : Bs × Int := if 4000 < l.length then ([], 1) else if 0 ≤ formB l then ([], 2) else (tidyT n l, 0)

set_option maxHeartbeats 2000000 in
theorem RefTidy_any (n : Nat) (l : Bs) (w : World) (hmax : l.length ≤ maxLen) (hf : Folw w) (hgood : l.length ≤ 4000 → formB l < 0 → ∀ p ∈ linesB (toksAt l 0), goodL n (segT (toksAt l 0) p)) :
    Calls Tryd.prog 9 #[.string ⟨l.toArray⟩] w fun e w' => e = .returned (.tuple #[.string ⟨(tidyB n l).1.toArray⟩, .int .i64 (tidyB n l).2]) ∧ Below w.heap.size w w' := by
  unfold maxLen at hmax
  by_cases hl : 4000 < l.length
  · have HR : Hid (tidyB n l = ([], 1)) := by unfold Hid tidyB; rw [if_pos hl]
    clear hgood hf
    go_enter Tryd.func9, Tryd.ntmps9
    go_wp2_with fail
    go_ret2
    exact ⟨ret_pair (by rw [HR.out]) (by rw [HR.out]), Below.refl _ _⟩
  · have hl4 : l.length ≤ 4000 := by omega
    have HF := hideP (Form_any l w hl4 hf)
    have HW := hideP hf
    by_cases hfm : 0 ≤ formB l
    · have HR : Hid (tidyB n l = ([], 2)) := by unfold Hid tidyB; rw [if_neg hl, if_pos hfm]
      generalize formB l = fm at *
      clear hgood hf
      go_enter Tryd.func9, Tryd.ntmps9
      go_wp2_with (go_at_call 12; refine HF.out.mono ?_; rintro e w1 ⟨rfl, hbel⟩)
      go_ret2
      exact ⟨ret_pair (by rw [HR.out]) (by rw [HR.out]), hbel⟩
    · have HG := hideP (hgood hl4 (by omega))
      have HR : Hid (tidyB n l = (tidyT n l, 0)) := by unfold Hid tidyB; rw [if_neg hl, if_neg hfm]
      have HRT : Hid (tidyT n l = textG n (toksAt l 0) (linesB (toksAt l 0)) []) := rfl
      have HL := hideP (fun w => Lines_any l w hl4)
      have hsz := toksAt_sz l
      generalize toksAt l 0 = ts at *
      generalize formB l = fm at *
      have hlsz := costL_all ts
      have HIn := hideP (linesB_in ts)
      have hln := linesG_len ts 0 0
      have hln2 := szT_len ts
      rw [show linesG ts 0 0 = linesB ts from rfl] at hln
      generalize hls : linesB ts = ls at *
      have HLS := hideP hls
      clear hgood hf hls
      go_enter Tryd.func9, Tryd.ntmps9
      go_wp2_with fail
      refine HF.out.mono ?_
      rintro e w1 ⟨rfl, hbel⟩
      go_wp2_with fail
      refine (HL.out w1).mono ?_
      rintro e w2 ⟨v, rfl, ⟨g, cap, hseg, hcap, hcm, hown⟩, hbel2⟩
      rw [HLS.out] at hown
      have HB := hideP (hbel.trans (hbel2.mono hbel.size))
      have HS := hideP hseg
      clear hbel hbel2 hseg HL HF
      rcases owns_lines hown with ⟨rfl, rfl⟩ | ⟨gl, capl, rfl, hcl, hcell⟩
      · clear hown
        go_wp2_with fail
        go_loop [5, 6] (fun sv iv => sv = .string ⟨#[]⟩ ∧ iv = .int .i64 0) (fun _ _ => 0)
        case atStart => exact ⟨rfl, rfl⟩
        case round =>
          obtain ⟨rfl, rfl⟩ := hrel
          go_wp2_with fail
          go_ret2
          exact ⟨ret_pair (by rw [HR.out, HRT.out]; rfl) (by rw [HR.out]), HB.out⟩
      · have HC := hideP hcell
        clear hown hcell
        go_wp2_with fail
        go_loop [5, 6] (fun sv iv => ∃ (i : Nat) (s : Bs), i ≤ ls.length ∧ sv = .string ⟨s.toArray⟩ ∧ iv = .int .i64 i ∧ s.length + costL ts (ls.drop i) ≤ 20 * szT ts ∧ Hid (textG n ts (ls.drop i) s = tidyT n l)) (fun _ iv => ls.length - (intOf iv).toNat)
        case atStart => exact ⟨0, [], Nat.zero_le _, rfl, rfl, by simpa using hlsz, HRT.out.symm⟩
        case round =>
          obtain ⟨i, s, hi, rfl, rfl, hsl, HI⟩ := hrel
          by_cases hlt : i < ls.length
          · have hc := HC.out i hlt
            obtain ⟨p, hp⟩ : ∃ p, ls.getD i (0, 0) = p := ⟨_, rfl⟩
            have hpm : p ∈ ls := by rw [← hp]; simp [List.getD, hlt]
            have hD : ls.drop i = p :: ls.drop (i + 1) := by rw [List.drop_eq_getElem_cons hlt, ← hp]; simp [List.getD, hlt]
            rw [hp] at hc
            rw [hD, costL] at hsl
            have hpin := HIn.out p hpm
            have hul := segT_len hpin
            have hgl := HG.out p hpm
            have hus := (HS.out.drop p.1).take p.2
            have hI2 := HI.out
            rw [hD, textG] at hI2
            have hlt1 := lineText_len n (segT ts p)
            have husz := szT_segT ts p
            have huc : (segT ts p).length ≤ cap - p.1 := by rw [hul]; omega
            rw [show rlineV g cap p = .slice (some ⟨g, 0 + p.1 * 3, none⟩) (segT ts p).length (cap - p.1) by rw [hul, Nat.zero_add]; rfl] at hc
            rw [show (ts.drop p.1).take p.2 = segT ts p from rfl] at hus
            have hcm2 : cap - p.1 ≤ maxLen := by omega
            generalize segT ts p = u at *
            generalize 0 + p.1 * 3 = o at *
            generalize cap - p.1 = c at *
            obtain ⟨hu0, hrule⟩ := hgl
            have hcc := (hus 0 hu0).2.2
            rw [Nat.zero_mul, Nat.add_zero] at hcc
            have HU := hideP hus
            have HI2 := hideP hI2
            have hul2 := szT_len u
            clear HI hI2 hus hD hp hpm hpin hul
            by_cases hk : clsB (u.getD 0 (0, [])).2 = kRule
            · obtain ⟨hw0, hw1, hgt⟩ := hrule hk
              have HT : Hid (lineText n u = gluedB (u.take ((whenB u).toNat + 1)) ++ [32] ++ (tidG n (u.drop ((whenB u).toNat + 1))).1) := by unfold Hid lineText; rw [if_pos hk]
              obtain ⟨k, hkw⟩ := Int.eq_ofNat_of_zero_le hw0
              rw [hkw] at hw1 hgt HT
              rw [Int.toNat_natCast] at hgt HT
              have HWn := hideP hkw
              have HGT := hideP hgt
              have l1 := gluF_len (u.take (k + 1)) [] 0
              have l2 := tidG_len n (u.drop (k + 1))
              have l3 := szT_take_drop u (k + 1)
              have h20 : ((gluedB (u.take (k + 1)))).length ≤ 20000 := by simp only [gluedB]; simp only [List.length_nil] at l1; omega
              have h21 : (tidG n (u.drop (k + 1))).1.length ≤ 200000 := by omega
              have HTI := hideP (tidied_any n (u.drop (k + 1)) g (o + (k + 1) * 3) (c - (k + 1)) w2 (HU.out.drop (k + 1)) (by omega) (by rw [List.length_drop]; omega) (by omega) hgt)
              have HGL := hideP (glued_any (u.take (k + 1)) g o c w2 (HU.out.take (k + 1)) (by omega) (by rw [List.length_take]; omega))
              rw [List.length_drop] at HTI
              rw [List.length_take, Nat.min_eq_left (by omega)] at HGL
              rw [hk] at hcc
              simp only [kRule] at hcc
              generalize tidG n (u.drop (k + 1)) = td at *
              obtain ⟨t1, t2⟩ := td
              generalize gluedB (u.take (k + 1)) = gd at *
              simp only at HTI h21 HT
              have hgu := gluF_len u [] 0
              have hgu2 : (gluedB u).length ≤ 20000 := by simp only [gluedB]; simp only [List.length_nil] at hgu; omega
              have hsl2 : s.length ≤ 400000 := by omega
              have hk1 : k + 1 < u.length := by omega
              clear hw0 hw1 hgt hkw hk l1 l2 l3 hgu hrule
              go_wp2_with fail
              refine (glued_any u g o c _ HU.out (by omega) huc).mono ?_
              rintro e w' ⟨rfl, hw⟩; obtain rfl := hw.symm
              go_wp2_with fail
              refine (when_any u g o c _ HU.out (by omega) huc).mono ?_
              rintro e w' ⟨rfl, hw⟩; obtain rfl := hw.symm; rw [HWn.out]
              go_wp2_with fail
              refine HTI.out.mono ?_
              rintro e w' ⟨rfl, hw⟩; obtain rfl := hw.symm
              go_wp2_with fail
              refine HGL.out.mono ?_
              rintro e w' ⟨rfl, hw⟩; obtain rfl := hw.symm
              go_wp2_with fail
              go_round
              case rel =>
                refine ⟨i + 1, s ++ lineText n u ++ [59, 10], by omega, ?_, by go_num, ?_, HI2.out⟩
                · rw [HT.out]; simp only [← cat_mk]
                · have h9 := hlt1; simp only [List.length_append, List.length_cons, List.length_nil]; omega
              case measure => simp [intOf]; omega
            · have HT : Hid (lineText n u = gluedB u) := by unfold Hid lineText; rw [if_neg hk]
              generalize clsB (u.getD 0 (0, [])).2 = cl at *
              have b1 : (cl == [114, 117, 108, 101]) = false := by simpa [kRule] using hk
              have hgu := gluF_len u [] 0
              have hgu2 : (gluedB u).length ≤ 20000 := by simp only [gluedB]; simp only [List.length_nil] at hgu; omega
              have hsl2 : s.length ≤ 400000 := by omega
              clear hk hrule hgu
              go_wp2_with fail
              refine (glued_any u g o c _ HU.out (by omega) huc).mono ?_
              rintro e w' ⟨rfl, hw⟩; obtain rfl := hw.symm
              go_wp2_with fail
              go_round
              case rel =>
                refine ⟨i + 1, s ++ lineText n u ++ [59, 10], by omega, ?_, by go_num, ?_, HI2.out⟩
                · rw [HT.out]; simp only [← cat_mk]
                · have h9 := hlt1; simp only [List.length_append, List.length_cons, List.length_nil]; omega
              case measure => simp [intOf]; omega
          · have hd : ls.drop i = [] := List.drop_eq_nil_of_le (by omega)
            have HE : Hid (tidyT n l = s) := by have := HI.out; rw [hd, textG] at this; exact this.symm
            clear hd HI
            go_wp2_with fail
            go_ret2
            exact ⟨ret_pair (by rw [HR.out, HE.out]) (by rw [HR.out]), HB.out⟩
end Go.Proofs.YtlfffodehppgbaaDoor
