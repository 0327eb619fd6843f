/- What terms and alternatives of the reader do, if fact does as it should. -/
import Derived.Test.YtnbpdffdnphbeaaGreatDoorGadd
namespace Go.Proofs.YtnbpdffdnphbeaaGreatDoor
open Go.RowKit

set_option maxHeartbeats 1000000 in
theorem terms_s (R g cap : Nat) (P : List PT) (G : Nat) (root : Int) (n : Nat) (hit : FactSaid R g cap P G root n) : TermsSaid R g cap P G root n := by
  intro w q d hin hok hn
  have hGl := hin.gd.lt
  have HI := hideP2 hit
  have HIn := hideP2 hin
  have HOk := hideP2 hok
  have HF : Hid (pTerms P n q d = loopB P (fun q => pFact P n q d) kAnd 2 P.length (pFact P n q d).1 (pFact P n q d).2) := rfl
  generalize pTerms P n q d = F at *
  clear hit hin hok
  go_enter Tryz.func256, Tryz.ntmps256
  go_wp2_with fail
  refine (HI.out w q d HIn.out HOk.out hn).mono ?_
  rintro e w1 ⟨rfl, hi1, hk1, hg1⟩
  have HIn1 := hideP2 hi1
  have HK1 := hideP2 hk1
  have HG1 := hideP2 hg1
  generalize pFact P n q d = x at *
  obtain ⟨l0, q1⟩ := x
  simp only at HF HIn1 HG1
  clear hi1 hk1 hg1
  go_wp2_with fail
  go_loopw [7] (fun lv wr => ∃ (k : Nat) (l : Int) (q2 : GS), lv = .int .i64 l ∧ Hid (InG wr R g cap P G root q2) ∧ Hid (Keeps G R w wr) ∧ Hid (Goes P q q2) ∧ Hid (P.length - q2.s.1 ≤ k) ∧ Hid (loopB P (fun q => pFact P n q d) kAnd 2 k l q2 = F)) (fun _ wr => measG P.length R wr)
  case atStart => exact ⟨P.length, l0, q1, rfl, HIn1, HK1, HG1, hideP2 (by omega), hideP2 HF.out.symm⟩
  case round =>
    obtain ⟨k, l, q2, rfl, HIr, HKr, HGr, Hk, HE⟩ := hrel
    clear HF HIn1 HK1 HG1
    have hat := HIr.out.ctx.at'
    have HM := hideP2 HIr.out.meas
    have hGr := HIr.out.gd.lt
    obtain ⟨k, rfl⟩ : ∃ j, k = j + 1 := ⟨k - 1, by have := Hk.out; omega⟩
    have hE := HE.out
    rw [loopB] at hE
    go_wp2_with fail
    refine (skip_s R g cap P _ q2.s kAnd HIr.out.ctx).mono ?_
    rintro e w2 ⟨rfl, hc2, hk2⟩
    have hi2 := HIr.out.read hc2 hk2
    have HK2 : Hid (Keeps G R w w2) := HKr.out.trans (hk2.of_size (Nat.le_of_lt hGr))
    clear hc2 hk2 HE
    cases hs : (pSkip P kAnd q2.s).1
    · rw [hs] at hE
      have HE2 := hideP2 hE
      have HI2 := hideP2 hi2
      have HGo : Hid (Goes P q (q2.to (pSkip P kAnd q2.s).2)) := ⟨Nat.le_trans HGr.out.mono (pSkip_mono P _ q2.s), Nat.le_trans (pot_to (pSkip_mono P _ q2.s)) HGr.out.pot', HGr.out.t0, HGr.out.t1⟩
      clear hE hi2 hs
      go_wp2_with fail
      go_ret
      obtain rfl := HE2.out
      exact ⟨rfl, HI2.out, HK2.out, HGo.out⟩
    · rw [hs] at hE
      have hst := pSkip_true hs
      have hps := pot_skip hs hat
      have hpo := HGr.out.pot'
      have hro := HOk.out.room
      have hok2 : OkG P (q2.to (pSkip P kAnd q2.s).2) d := ⟨HGr.out.t0, HGr.out.t1, by omega, HOk.out.d0, by have h1 := HOk.out.d1; have h2 := HGr.out.mono; show d ≤ (((pSkip P kAnd q2.s).2.1 : Nat) : Int); rw [hst]; omega⟩
      have hn2 : P.length - (q2.to (pSkip P kAnd q2.s).2).s.1 ≤ n := by show P.length - (pSkip P kAnd q2.s).2.1 ≤ n; rw [hst]; have h2 := HGr.out.mono; omega
      have hs1 : (q2.to (pSkip P kAnd q2.s).2).s.1 = q2.s.1 + 1 := hst
      generalize q2.to (pSkip P kAnd q2.s).2 = q3 at *
      have HI3 := hideP2 (HI.out w2 q3 d hi2 hok2 hn2)
      have hG2 := hi2.gd.lt
      have HE2 := hideP2 hE
      clear hE hi2 hs hst hok2 hn2
      go_wp2_with fail
      refine HI3.out.mono ?_
      rintro e w3 ⟨rfl, hi3, hk3, hg3⟩
      have HI4 := hideP2 hi3
      have HK3 : Hid (Keeps G R w w3) := HK2.out.trans hk3
      have HG3 := hideP2 hg3
      generalize pFact P n q3 d = y at *
      obtain ⟨r, q4⟩ := y
      simp only at HE2 HI4 HG3
      have hp4 := HG3.out.pot'
      have hnd4 : q4.nd.length ≤ pot P q4 := by unfold pot; omega
      have hnd : q4.nd.length ≤ 10000 := by omega
      clear hi3 hk3 hg3 HI3
      go_wp2_with fail
      refine (add_s w3 G q4.nd root q4.tests q4.dep ⟨2, l, r, [], [], [], 0⟩ HI4.out.gd hnd).mono ?_
      rintro e w4 ⟨rfl, hgd4, hb4⟩
      have HI5 := hideP2 (HI4.out.added hgd4 hb4)
      have HK4 : Hid (Keeps G R w w4) := HK3.out.trans (Keeps.of_belowG hb4)
      have hmo := HG3.out.mono
      have HGo : Hid (Goes P q (q4.add ⟨2, l, r, [], [], [], 0⟩)) := ⟨by have h1 := HGr.out.mono; show q.s.1 ≤ q4.s.1; omega, by show (q4.nd ++ [_]).length + 2 * (P.length - q4.s.1) ≤ _; rw [List.length_append, List.length_singleton]; unfold pot at hp4 hps hpo ⊢; omega, HG3.out.t0, by show q4.tests ≤ ((q4.nd ++ [_]).length : Int); rw [List.length_append]; have := HG3.out.t1; omega⟩
      clear hgd4 hb4
      go_wp2_with fail
      go_roundw
      case rel => exact ⟨k, _, _, rfl, HI5, HK4, HGo, hideP2 (by have h1 := Hk.out; show P.length - q4.s.1 ≤ k; omega), HE2⟩
      case measure => rw [HM.out, HI5.out.meas]; show P.length - q4.s.1 < _; omega

set_option maxHeartbeats 1000000 in
theorem alt_s (R g cap : Nat) (P : List PT) (G : Nat) (root : Int) (n : Nat) (hit : TermsSaid R g cap P G root n) : AltSaid R g cap P G root n := by
  intro w q d hin hok hn
  have hGl := hin.gd.lt
  have HI := hideP2 hit
  have HIn := hideP2 hin
  have HOk := hideP2 hok
  have HF : Hid (pAlt P n q d = loopB P (fun q => pTerms P n q d) kOr 1 P.length (pTerms P n q d).1 (pTerms P n q d).2) := rfl
  generalize pAlt P n q d = F at *
  clear hit hin hok
  go_enter Tryz.func248, Tryz.ntmps248
  go_wp2_with fail
  refine (HI.out w q d HIn.out HOk.out hn).mono ?_
  rintro e w1 ⟨rfl, hi1, hk1, hg1⟩
  have HIn1 := hideP2 hi1
  have HK1 := hideP2 hk1
  have HG1 := hideP2 hg1
  generalize pTerms P n q d = x at *
  obtain ⟨l0, q1⟩ := x
  simp only at HF HIn1 HG1
  clear hi1 hk1 hg1
  go_wp2_with fail
  go_loopw [7] (fun lv wr => ∃ (k : Nat) (l : Int) (q2 : GS), lv = .int .i64 l ∧ Hid (InG wr R g cap P G root q2) ∧ Hid (Keeps G R w wr) ∧ Hid (Goes P q q2) ∧ Hid (P.length - q2.s.1 ≤ k) ∧ Hid (loopB P (fun q => pTerms P n q d) kOr 1 k l q2 = F)) (fun _ wr => measG P.length R wr)
  case atStart => exact ⟨P.length, l0, q1, rfl, HIn1, HK1, HG1, hideP2 (by omega), hideP2 HF.out.symm⟩
  case round =>
    obtain ⟨k, l, q2, rfl, HIr, HKr, HGr, Hk, HE⟩ := hrel
    clear HF HIn1 HK1 HG1
    have hat := HIr.out.ctx.at'
    have HM := hideP2 HIr.out.meas
    have hGr := HIr.out.gd.lt
    obtain ⟨k, rfl⟩ : ∃ j, k = j + 1 := ⟨k - 1, by have := Hk.out; omega⟩
    have hE := HE.out
    rw [loopB] at hE
    go_wp2_with fail
    refine (skip_s R g cap P _ q2.s kOr HIr.out.ctx).mono ?_
    rintro e w2 ⟨rfl, hc2, hk2⟩
    have hi2 := HIr.out.read hc2 hk2
    have HK2 : Hid (Keeps G R w w2) := HKr.out.trans (hk2.of_size (Nat.le_of_lt hGr))
    clear hc2 hk2 HE
    cases hs : (pSkip P kOr q2.s).1
    · rw [hs] at hE
      have HE2 := hideP2 hE
      have HI2 := hideP2 hi2
      have HGo : Hid (Goes P q (q2.to (pSkip P kOr q2.s).2)) := ⟨Nat.le_trans HGr.out.mono (pSkip_mono P _ q2.s), Nat.le_trans (pot_to (pSkip_mono P _ q2.s)) HGr.out.pot', HGr.out.t0, HGr.out.t1⟩
      clear hE hi2 hs
      go_wp2_with fail
      go_ret
      obtain rfl := HE2.out
      exact ⟨rfl, HI2.out, HK2.out, HGo.out⟩
    · rw [hs] at hE
      have hst := pSkip_true hs
      have hps := pot_skip hs hat
      have hpo := HGr.out.pot'
      have hro := HOk.out.room
      have hok2 : OkG P (q2.to (pSkip P kOr q2.s).2) d := ⟨HGr.out.t0, HGr.out.t1, by omega, HOk.out.d0, by have h1 := HOk.out.d1; have h2 := HGr.out.mono; show d ≤ (((pSkip P kOr q2.s).2.1 : Nat) : Int); rw [hst]; omega⟩
      have hn2 : P.length - (q2.to (pSkip P kOr q2.s).2).s.1 ≤ n := by show P.length - (pSkip P kOr q2.s).2.1 ≤ n; rw [hst]; have h2 := HGr.out.mono; omega
      have hs1 : (q2.to (pSkip P kOr q2.s).2).s.1 = q2.s.1 + 1 := hst
      generalize q2.to (pSkip P kOr q2.s).2 = q3 at *
      have HI3 := hideP2 (HI.out w2 q3 d hi2 hok2 hn2)
      have hG2 := hi2.gd.lt
      have HE2 := hideP2 hE
      clear hE hi2 hs hst hok2 hn2
      go_wp2_with fail
      refine HI3.out.mono ?_
      rintro e w3 ⟨rfl, hi3, hk3, hg3⟩
      have HI4 := hideP2 hi3
      have HK3 : Hid (Keeps G R w w3) := HK2.out.trans hk3
      have HG3 := hideP2 hg3
      generalize pTerms P n q3 d = y at *
      obtain ⟨r, q4⟩ := y
      simp only at HE2 HI4 HG3
      have hp4 := HG3.out.pot'
      have hnd4 : q4.nd.length ≤ pot P q4 := by unfold pot; omega
      have hnd : q4.nd.length ≤ 10000 := by omega
      clear hi3 hk3 hg3 HI3
      go_wp2_with fail
      refine (add_s w3 G q4.nd root q4.tests q4.dep ⟨1, l, r, [], [], [], 0⟩ HI4.out.gd hnd).mono ?_
      rintro e w4 ⟨rfl, hgd4, hb4⟩
      have HI5 := hideP2 (HI4.out.added hgd4 hb4)
      have HK4 : Hid (Keeps G R w w4) := HK3.out.trans (Keeps.of_belowG hb4)
      have hmo := HG3.out.mono
      have HGo : Hid (Goes P q (q4.add ⟨1, l, r, [], [], [], 0⟩)) := ⟨by have h1 := HGr.out.mono; show q.s.1 ≤ q4.s.1; omega, by show (q4.nd ++ [_]).length + 2 * (P.length - q4.s.1) ≤ _; rw [List.length_append, List.length_singleton]; unfold pot at hp4 hps hpo ⊢; omega, HG3.out.t0, by show q4.tests ≤ ((q4.nd ++ [_]).length : Int); rw [List.length_append]; have := HG3.out.t1; omega⟩
      clear hgd4 hb4
      go_wp2_with fail
      go_roundw
      case rel => exact ⟨k, _, _, rfl, HI5, HK4, HGo, hideP2 (by have h1 := Hk.out; show P.length - q4.s.1 ≤ k; omega), HE2⟩
      case measure => rw [HM.out, HI5.out.meas]; show P.length - q4.s.1 < _; omega

end Go.Proofs.YtnbpdffdnphbeaaGreatDoor
