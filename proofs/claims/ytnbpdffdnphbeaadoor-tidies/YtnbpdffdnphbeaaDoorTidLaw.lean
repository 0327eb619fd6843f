/- The law Tidies answers true, if what is plain holds of the text. -/
import Derived.Test.YtnbpdffdnphbeaaDoorStTidy
namespace Go.Proofs.YtnbpdffdnphbeaaDoor
open Go.RowKit

theorem num_s (k : Int) (w : World) : Calls Tryd.prog 8 #[.int .i64 k] w fun e w' => e = .returned (.int .i64 k) ∧ w' = w := by
  go_enter Tryd.func8, Tryd.ntmps8
  go_wp2_with fail
  go_ret
  exact ⟨rfl, rfl⟩

theorem PowVar.below {w w' : World} (h : PowVar w) (hb : Below w.heap.size w w') : PowVar w' := by
  obtain ⟨h1, g, h2, h3⟩ := h
  exact ⟨h1.below ⟨g, h2, h3⟩ hb, g, h2, Nat.lt_of_lt_of_le h3 hb.size⟩

set_option maxHeartbeats 1000000 in
theorem Tidies_any (n : Nat) (l : Bs) (w : World) (hmax : l.length ≤ maxLen) (hf : Folw w) (hv : PowVar w) (hp : l.length ≤ 4000 → PureT n l) :
    Calls Tryd.prog 4 #[.string ⟨l.toArray⟩] w fun e w' => e = .returned (.bool true) ∧ Below w.heap.size w w' := by
  have HA := hideP2 (StTidy_any n l w hmax hv hp)
  have HB := hideP2 (fun w' (hf' : Folw w') => RefTidy_any n l w' hmax hf' (fun h1 h2 => (hp h1).goodR h2))
  have HF := hideP2 hf
  generalize tidyB n l = T at *
  obtain ⟨t, k⟩ := T
  simp only at HA HB
  clear hmax hf hv hp
  go_enter Tryd.func4, Tryd.ntmps4
  go_wp2_with fail
  refine HA.out.mono ?_
  rintro e w1 ⟨rfl, hb1⟩
  have HB1 := hideP2 hb1
  have HF1 := hideP2 (HF.out.below hb1)
  clear hb1
  go_wp2_with fail
  refine (HB.out w1 HF1.out).mono ?_
  rintro e w2 ⟨rfl, hb2⟩
  have HB2 : Hid (Below w.heap.size w w2) := HB1.out.trans (hb2.mono HB1.out.size)
  clear hb2
  go_wp2_with fail
  refine (num_s k w2).mono ?_
  rintro e w3 ⟨rfl, hw⟩; obtain rfl := hw.symm
  go_wp2_with fail
  go_ret
  exact ⟨rfl, HB2.out⟩
end Go.Proofs.YtnbpdffdnphbeaaDoor
