/- The law Rings answers true at every text. -/
import Derived.Test.YtnbpdffdnphbeaaDoorPRound
import Derived.Test.YtnbpdffdnphbeaaDoorRgLinks
import Derived.Test.YtnbpdffdnphbeaaDoorStCheck
namespace Go.Proofs.YtnbpdffdnphbeaaDoor
open Go.RowKit

theorem ringL_len (ls : List PLine) : (ringL ls).length ≤ 8 := by
  have key : ∀ (names : List Bs) (P : List Nat) (acc : List Bs), (pickG names P acc).length ≤ acc.length + P.length := by
    intro names P
    induction P with
    | nil => intro acc; simp [pickG]
    | cons p r ih => intro acc; rw [pickG]; have := ih (if p < names.length then acc ++ [names.getD p []] else acc); split at this <;> simp at this ⊢ <;> split <;> omega
  unfold ringL pickB
  split
  · have := key (headsB ls) (ringPts (namG (headsB ls) ls gZ)) []; have h2 := ringPts_len (namG (headsB ls) ls gZ); simp at this; omega
  · have := key (labsB ls) (ringPts (ordG (labsB ls) ls gZ)) []; have h2 := ringPts_len (ordG (labsB ls) ls gZ); simp at this; omega
theorem ringA_len (l : Bs) : (ringA l).length ≤ 8 := by
  unfold ringA; split
  · exact ringL_len _
  · exact Nat.zero_le _

theorem may_ring {l : Bs} (hp : l.length ≤ 4000 → PureT 4001 l ∧ PureC l) : MayRing (usOf l) (chkR l).1 (chkR l).2 (ringE l) (ringA l) := by
  rw [chk_same hp]
  refine ⟨fun h => ?_, fun h h7 => ?_, fun h => ?_⟩
  · unfold ringE ringA; rw [if_pos h, if_neg (by rw [h]; decide)]; exact ⟨rfl, rfl⟩
  · unfold ringE ringA; rw [if_neg h, if_neg h7, if_neg h7]; exact ⟨rfl, rfl⟩
  · have e1 : ringE l = 0 := by unfold ringE; rw [if_neg (by rw [h]; decide), if_pos h]
    have e2 : ringA l = ringL (readB l).1 := by unfold ringA; rw [if_pos h]
    refine ⟨e1, ?_⟩
    rw [e2]
    unfold chkP at h ⊢
    by_cases hl : 4000 < l.length
    · rw [if_pos hl] at h; exact absurd (show (1 : Int) = 7 from h) (by decide)
    · rw [if_neg hl] at h ⊢
      cases hf : (readB l).2.2 with
      | false => rw [hf] at h; exact ring_doc ((hp (by omega)).2.lines hf) h
      | true => rw [hf] at h; exact absurd (show (2 : Int) = 7 from h) (by decide)

set_option maxHeartbeats 1000000 in
theorem Rings_any (l : Bs) (w : World) (hmax : l.length ≤ maxLen) (hf : Folw w) :
    Calls Tryd.prog 5 #[.string ⟨l.toArray⟩] w fun e w' => e = .returned (.bool true) ∧ Below w.heap.size w w' := by
  have hp : l.length ≤ 4000 → PureT 4001 l ∧ PureC l := fun h => pure_both h (by decide)
  have HA := hideP2 (StRing_any l w hmax (fun h1 h2 => (hp h1).1.good h2) (fun h1 => (hp h1).1.many))
  have HB := hideP2 (fun w' a c (hf' : Folw w') (hS : StrV w' a (ringA l)) => Ringed_any l w' a c (ringA l) (ringE l) hmax hf' (fun h1 h2 => ⟨_, (hp h1).2.lines (by
    cases hr : (readB l).2.2 with
    | false => rfl
    | true => have := (hp h1).1.fails hr; omega)⟩) hS (may_ring hp))
  have HF := hideP2 hf
  have hl8 := ringA_len l
  generalize ringE l = k at *
  generalize ringA l = R at *
  clear hmax hf hp
  go_enter Tryd.func5, Tryd.ntmps5
  go_wp2_with fail
  refine HA.out.mono ?_
  rintro e w1 ⟨v, rfl, hown, hb1⟩
  have HB1 := hideP2 hb1
  have HF1 := hideP2 (HF.out.below hb1)
  obtain ⟨ra, rc, rfl, hsv⟩ := own_str hown (by omega)
  have HSv := hideP2 hsv
  clear hb1 hown hsv
  go_wp2_with fail
  refine (num_c k w1).mono ?_
  rintro e w2 ⟨rfl, hw⟩; obtain rfl := hw.symm
  go_wp2_with fail
  refine (HB.out w1 ra rc HF1.out HSv.out).mono ?_
  rintro e w3 ⟨rfl, hb3⟩
  have HB3 : Hid (Below w.heap.size w w3) := HB1.out.trans (hb3.mono HB1.out.size)
  clear hb3
  go_wp2_with fail
  go_ret
  exact ⟨rfl, HB3.out⟩
end Go.Proofs.YtnbpdffdnphbeaaDoor
