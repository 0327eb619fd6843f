/- What named and fault of the document's answer give of a line. -/
import Derived.Test.YtnbpdffdnphbeaaGreatDoorRfNamed
import Derived.Deep.RegionWith
namespace Go.Proofs.YtnbpdffdnphbeaaGreatDoor
open Go.RowKit

theorem badI_end (us : List Toks) (u : Toks) (k : Nat) (h : ¬ k < u.length) : badI us u (u.length - k) k = false := by
  rw [show u.length - k = 0 by omega]; rfl
theorem badI_step (us : List Toks) (u : Toks) (k : Nat) (h : k < u.length) : badI us u (u.length - k) k = if cA u k = nameB ∧ fitsR us u k = false then true else badI us u (u.length - (k + 1)) (k + 1) := by
  rw [show u.length - k = (u.length - (k + 1)) + 1 by omega, badI]

theorem cl12 {f1 f2 : Int} {i : Nat} {hd : Bool} (h1 : ¬ f1 < (i : Int)) (h2 : ¬ f2 < (i : Int)) : (decide (f1 < (i : Int)) || decide (f2 < (i : Int)) || hd) = hd := by rw [decide_eq_false h1, decide_eq_false h2]; rfl
theorem cl1 {f1 : Int} {i : Nat} {hd : Bool} (h1 : ¬ f1 < (i : Int)) : (decide (f1 < (i : Int)) || hd) = hd := by rw [decide_eq_false h1]; rfl
theorem firstG_hit (p : Toks → Bool) (us : List Toks) : ∀ i : Nat, 0 ≤ firstG p us i → p (uA us ((firstG p us i).toNat - i)) = true := by
  induction us with
  | nil => intro i h; simp [firstG] at h
  | cons u r ih =>
    intro i h
    rw [firstG] at h ⊢
    split
    · rename_i hp; simpa [uA] using hp
    · rename_i hp
      rw [if_neg hp] at h
      have h1 := (firstG_bound p r (i + 1)).2.2 h
      have := ih (i + 1) h
      rw [show (firstG p r (i + 1)).toNat - i = ((firstG p r (i + 1)).toNat - (i + 1)) + 1 by omega]
      exact this
theorem firstB_at {ls : List PLine} {us : List Toks} (hA : AllLT ls us) {nm : Bs} (h : 0 ≤ firstB us kRule 1 nm) : ∃ f : Nat, firstB us kRule 1 nm = f ∧ f < us.length ∧ 6 ≤ (uA us f).length := by
  have hb := firstG_bound (isU kRule 1 nm) us 0
  have hh := firstG_hit (isU kRule 1 nm) us 0 h
  obtain ⟨f, hf⟩ := Int.eq_ofNat_of_zero_le h
  unfold firstB at hf h ⊢
  rw [hf] at hh hb ⊢
  have hfl : f < us.length := by omega
  refine ⟨f, rfl, hfl, ?_⟩
  unfold isU at hh
  rw [Bool.and_eq_true] at hh
  exact (hA.get f hfl).len (by simpa using hh.1)

set_option maxHeartbeats 2000000 in
theorem named_s (w : World) (a : Option Addr) (c : Nat) (ls : List PLine) (us : List Toks) (i : Nat) (hi : i < us.length) (h : RowL w a us) (hA : AllLT ls us) :
    Calls Tryz.prog 132 #[.slice a us.length c, .int .i64 i] w fun e w' => e = .returned (.bool (namedR us i)) ∧ w' = w := by
  have hx := hA.get i hi
  have hfew := h.few
  obtain ⟨gl, g, o, cu, e0, hcell, hseg, hlc, hcm, hsm⟩ := h.at hi
  have h2 := hx.two
  have hc1 := (hseg.tok (show 1 < (uA us i).length by omega)).1
  have hc0 := (hseg.tok (show 0 < (uA us i).length by omega)).2
  rw [Nat.zero_mul, Nat.add_zero] at hc0
  rw [Nat.one_mul] at hc1
  have H1 := hideP2 (fun kd nm => first1_s w a c ls us kd nm h hA)
  have HH := hideP2 (isHead_s w a c ls us (tA (uA us i) 1) h hA)
  have il : (1 : Int) < ((uA us i).length : Int) := by omega
  have il0 : (0 : Int) < ((uA us i).length : Int) := by omega
  have fb := fun kd nm => firstG_bound (isU kd 1 nm) us 0
  subst e0
  rcases hx.kind with ⟨-, b, -⟩ | ⟨-, b⟩ | ⟨-, b, h3, -⟩ | ⟨-, b, w0, hw⟩
  all_goals have HB := hideP2 b
  · have HR : Hid (namedR us i = ((decide (0 ≤ firstB us kNum 1 (tA (uA us i) 1)) && decide (firstB us kNum 1 (tA (uA us i) 1) < (i : Int))) || ((decide (0 ≤ firstB us kFlag 1 (tA (uA us i) 1)) && decide (firstB us kFlag 1 (tA (uA us i) 1) < (i : Int))) || isHeadR us (tA (uA us i) 1)))) := by unfold Hid namedR; rw [if_pos (.inl b)]
    have F1 : Hid (Calls Tryz.prog 110 #[.slice (some ⟨gl, 0, none⟩) us.length c, .string ⟨#[110, 117, 109]⟩, .int .i64 1, .string ⟨(tA (uA us i) 1).toArray⟩] w fun e w' => e = .returned (.int .i64 (firstB us kNum 1 (tA (uA us i) 1))) ∧ w' = w) := H1.out kNum _
    have F2 : Hid (Calls Tryz.prog 110 #[.slice (some ⟨gl, 0, none⟩) us.length c, .string ⟨#[102, 108, 97, 103]⟩, .int .i64 1, .string ⟨(tA (uA us i) 1).toArray⟩] w fun e w' => e = .returned (.int .i64 (firstB us kFlag 1 (tA (uA us i) 1))) ∧ w' = w) := H1.out kFlag _
    rw [b] at hc0
    simp only [kNum] at hc0
    clear h hA hx hseg H1 b HB fb
    generalize firstB us kNum 1 (tA (uA us i) 1) = f1 at *
    generalize firstB us kFlag 1 (tA (uA us i) 1) = f2 at *
    generalize isHeadR us (tA (uA us i) 1) = hd at *
    generalize tA (uA us i) 1 = nm at *
    go_enter Tryz.func132, Tryz.ntmps132
    go_wp2_with fail
    refine F1.out.mono ?_
    rintro e w1 ⟨rfl, hw⟩; obtain rfl := hw.symm
    go_wp2_with fail
    refine F2.out.mono ?_
    rintro e w1 ⟨rfl, hw⟩; obtain rfl := hw.symm
    by_cases j0 : 0 ≤ f1
    · by_cases j1 : f1 < (i : Int)
      · have HR2 : Hid (namedR us i = true) := by unfold Hid; rw [HR.out, decide_eq_true j0, decide_eq_true j1]; rfl
        clear HR
        go_wp2_with fail
        go_ret
        exact ⟨ret_bool HR2.out.symm, rfl⟩
      · have HR1 : Hid (namedR us i = ((decide (0 ≤ f2) && decide (f2 < (i : Int))) || hd)) := by unfold Hid; rw [HR.out, decide_eq_false j1, Bool.and_false, Bool.false_or]
        clear HR
        by_cases j2 : 0 ≤ f2
        · by_cases j3 : f2 < (i : Int)
          · have HR2 : Hid (namedR us i = true) := by unfold Hid; rw [HR1.out, decide_eq_true j2, decide_eq_true j3]; rfl
            clear HR1
            go_wp2_with fail
            go_ret
            exact ⟨ret_bool HR2.out.symm, rfl⟩
          · have HR2 : Hid (namedR us i = hd) := by unfold Hid; rw [HR1.out, decide_eq_false j3, Bool.and_false, Bool.false_or]
            clear HR1
            go_wp2_with fail
            refine HH.out.mono ?_
            rintro e w1 ⟨rfl, hw⟩; obtain rfl := hw.symm
            go_wp2_with fail
            go_ret
            exact ⟨ret_bool (by first | exact HR2.out.symm | (rw [HR2.out]; exact cl12 (by omega) (by omega)) | (rw [HR2.out]; exact cl1 (by omega))), rfl⟩
        · have HR2 : Hid (namedR us i = hd) := by unfold Hid; rw [HR1.out, decide_eq_false j2, Bool.false_and, Bool.false_or]
          clear HR1
          go_wp2_with fail
          refine HH.out.mono ?_
          rintro e w1 ⟨rfl, hw⟩; obtain rfl := hw.symm
          go_wp2_with fail
          go_ret
          exact ⟨ret_bool (by first | exact HR2.out.symm | (rw [HR2.out]; exact cl12 (by omega) (by omega)) | (rw [HR2.out]; exact cl1 (by omega))), rfl⟩
    · have HR1 : Hid (namedR us i = ((decide (0 ≤ f2) && decide (f2 < (i : Int))) || hd)) := by unfold Hid; rw [HR.out, decide_eq_false j0, Bool.false_and, Bool.false_or]
      clear HR
      by_cases j2 : 0 ≤ f2
      · by_cases j3 : f2 < (i : Int)
        · have HR2 : Hid (namedR us i = true) := by unfold Hid; rw [HR1.out, decide_eq_true j2, decide_eq_true j3]; rfl
          clear HR1
          go_wp2_with fail
          go_ret
          exact ⟨ret_bool HR2.out.symm, rfl⟩
        · have HR2 : Hid (namedR us i = hd) := by unfold Hid; rw [HR1.out, decide_eq_false j3, Bool.and_false, Bool.false_or]
          clear HR1
          go_wp2_with fail
          refine HH.out.mono ?_
          rintro e w1 ⟨rfl, hw⟩; obtain rfl := hw.symm
          go_wp2_with fail
          go_ret
          exact ⟨ret_bool (by first | exact HR2.out.symm | (rw [HR2.out]; exact cl12 (by omega) (by omega)) | (rw [HR2.out]; exact cl1 (by omega))), rfl⟩
      · have HR2 : Hid (namedR us i = hd) := by unfold Hid; rw [HR1.out, decide_eq_false j2, Bool.false_and, Bool.false_or]
        clear HR1
        go_wp2_with fail
        refine HH.out.mono ?_
        rintro e w1 ⟨rfl, hw⟩; obtain rfl := hw.symm
        go_wp2_with fail
        go_ret
        exact ⟨ret_bool (by first | exact HR2.out.symm | (rw [HR2.out]; exact cl12 (by omega) (by omega)) | (rw [HR2.out]; exact cl1 (by omega))), rfl⟩
  · have HR : Hid (namedR us i = ((decide (0 ≤ firstB us kNum 1 (tA (uA us i) 1)) && decide (firstB us kNum 1 (tA (uA us i) 1) < (i : Int))) || ((decide (0 ≤ firstB us kFlag 1 (tA (uA us i) 1)) && decide (firstB us kFlag 1 (tA (uA us i) 1) < (i : Int))) || isHeadR us (tA (uA us i) 1)))) := by unfold Hid namedR; rw [if_pos (.inr b)]
    have F1 : Hid (Calls Tryz.prog 110 #[.slice (some ⟨gl, 0, none⟩) us.length c, .string ⟨#[110, 117, 109]⟩, .int .i64 1, .string ⟨(tA (uA us i) 1).toArray⟩] w fun e w' => e = .returned (.int .i64 (firstB us kNum 1 (tA (uA us i) 1))) ∧ w' = w) := H1.out kNum _
    have F2 : Hid (Calls Tryz.prog 110 #[.slice (some ⟨gl, 0, none⟩) us.length c, .string ⟨#[102, 108, 97, 103]⟩, .int .i64 1, .string ⟨(tA (uA us i) 1).toArray⟩] w fun e w' => e = .returned (.int .i64 (firstB us kFlag 1 (tA (uA us i) 1))) ∧ w' = w) := H1.out kFlag _
    rw [b] at hc0
    simp only [kFlag] at hc0
    clear h hA hx hseg H1 b HB fb
    generalize firstB us kNum 1 (tA (uA us i) 1) = f1 at *
    generalize firstB us kFlag 1 (tA (uA us i) 1) = f2 at *
    generalize isHeadR us (tA (uA us i) 1) = hd at *
    generalize tA (uA us i) 1 = nm at *
    go_enter Tryz.func132, Tryz.ntmps132
    go_wp2_with fail
    refine F1.out.mono ?_
    rintro e w1 ⟨rfl, hw⟩; obtain rfl := hw.symm
    go_wp2_with fail
    refine F2.out.mono ?_
    rintro e w1 ⟨rfl, hw⟩; obtain rfl := hw.symm
    by_cases j0 : 0 ≤ f1
    · by_cases j1 : f1 < (i : Int)
      · have HR2 : Hid (namedR us i = true) := by unfold Hid; rw [HR.out, decide_eq_true j0, decide_eq_true j1]; rfl
        clear HR
        go_wp2_with fail
        go_ret
        exact ⟨ret_bool HR2.out.symm, rfl⟩
      · have HR1 : Hid (namedR us i = ((decide (0 ≤ f2) && decide (f2 < (i : Int))) || hd)) := by unfold Hid; rw [HR.out, decide_eq_false j1, Bool.and_false, Bool.false_or]
        clear HR
        by_cases j2 : 0 ≤ f2
        · by_cases j3 : f2 < (i : Int)
          · have HR2 : Hid (namedR us i = true) := by unfold Hid; rw [HR1.out, decide_eq_true j2, decide_eq_true j3]; rfl
            clear HR1
            go_wp2_with fail
            go_ret
            exact ⟨ret_bool HR2.out.symm, rfl⟩
          · have HR2 : Hid (namedR us i = hd) := by unfold Hid; rw [HR1.out, decide_eq_false j3, Bool.and_false, Bool.false_or]
            clear HR1
            go_wp2_with fail
            refine HH.out.mono ?_
            rintro e w1 ⟨rfl, hw⟩; obtain rfl := hw.symm
            go_wp2_with fail
            go_ret
            exact ⟨ret_bool (by first | exact HR2.out.symm | (rw [HR2.out]; exact cl12 (by omega) (by omega)) | (rw [HR2.out]; exact cl1 (by omega))), rfl⟩
        · have HR2 : Hid (namedR us i = hd) := by unfold Hid; rw [HR1.out, decide_eq_false j2, Bool.false_and, Bool.false_or]
          clear HR1
          go_wp2_with fail
          refine HH.out.mono ?_
          rintro e w1 ⟨rfl, hw⟩; obtain rfl := hw.symm
          go_wp2_with fail
          go_ret
          exact ⟨ret_bool (by first | exact HR2.out.symm | (rw [HR2.out]; exact cl12 (by omega) (by omega)) | (rw [HR2.out]; exact cl1 (by omega))), rfl⟩
    · have HR1 : Hid (namedR us i = ((decide (0 ≤ f2) && decide (f2 < (i : Int))) || hd)) := by unfold Hid; rw [HR.out, decide_eq_false j0, Bool.false_and, Bool.false_or]
      clear HR
      by_cases j2 : 0 ≤ f2
      · by_cases j3 : f2 < (i : Int)
        · have HR2 : Hid (namedR us i = true) := by unfold Hid; rw [HR1.out, decide_eq_true j2, decide_eq_true j3]; rfl
          clear HR1
          go_wp2_with fail
          go_ret
          exact ⟨ret_bool HR2.out.symm, rfl⟩
        · have HR2 : Hid (namedR us i = hd) := by unfold Hid; rw [HR1.out, decide_eq_false j3, Bool.and_false, Bool.false_or]
          clear HR1
          go_wp2_with fail
          refine HH.out.mono ?_
          rintro e w1 ⟨rfl, hw⟩; obtain rfl := hw.symm
          go_wp2_with fail
          go_ret
          exact ⟨ret_bool (by first | exact HR2.out.symm | (rw [HR2.out]; exact cl12 (by omega) (by omega)) | (rw [HR2.out]; exact cl1 (by omega))), rfl⟩
      · have HR2 : Hid (namedR us i = hd) := by unfold Hid; rw [HR1.out, decide_eq_false j2, Bool.false_and, Bool.false_or]
        clear HR1
        go_wp2_with fail
        refine HH.out.mono ?_
        rintro e w1 ⟨rfl, hw⟩; obtain rfl := hw.symm
        go_wp2_with fail
        go_ret
        exact ⟨ret_bool (by first | exact HR2.out.symm | (rw [HR2.out]; exact cl12 (by omega) (by omega)) | (rw [HR2.out]; exact cl1 (by omega))), rfl⟩
  · have HR : Hid (namedR us i = (decide (firstB us kRule 1 (tA (uA us i) 1) < 0) || decide (firstB us kRule 1 (tA (uA us i) 2) < 0))) := by
      unfold Hid namedR; rw [if_neg (show ¬ (cA (uA us i) 0 = kNum ∨ cA (uA us i) 0 = kFlag) by rw [b]; decide), if_pos b]
    have hc2 := (hseg.tok (show 2 < (uA us i).length by omega)).1
    rw [show 2 * 3 = 6 from rfl] at hc2
    have F1 : Hid (Calls Tryz.prog 110 #[.slice (some ⟨gl, 0, none⟩) us.length c, .string ⟨#[114, 117, 108, 101]⟩, .int .i64 1, .string ⟨(tA (uA us i) 1).toArray⟩] w fun e w' => e = .returned (.int .i64 (firstB us kRule 1 (tA (uA us i) 1))) ∧ w' = w) := H1.out kRule _
    have F2 : Hid (Calls Tryz.prog 110 #[.slice (some ⟨gl, 0, none⟩) us.length c, .string ⟨#[114, 117, 108, 101]⟩, .int .i64 1, .string ⟨(tA (uA us i) 2).toArray⟩] w fun e w' => e = .returned (.int .i64 (firstB us kRule 1 (tA (uA us i) 2))) ∧ w' = w) := H1.out kRule _
    rw [b] at hc0
    simp only [kOver] at hc0
    have il2 : (2 : Int) < ((uA us i).length : Int) := by omega
    clear h hA hx hseg H1 b HB fb HH
    generalize firstB us kRule 1 (tA (uA us i) 1) = f1 at *
    generalize firstB us kRule 1 (tA (uA us i) 2) = f2 at *
    generalize tA (uA us i) 1 = nm at *
    generalize tA (uA us i) 2 = nm2 at *
    go_enter Tryz.func132, Tryz.ntmps132
    go_wp2_with fail
    refine F1.out.mono ?_
    rintro e w1 ⟨rfl, hw⟩; obtain rfl := hw.symm
    by_cases j0 : f1 < 0
    · have HR2 : Hid (namedR us i = true) := by unfold Hid; rw [HR.out, decide_eq_true j0]; rfl
      clear HR
      go_wp2_with fail
      go_ret
      exact ⟨ret_bool HR2.out.symm, rfl⟩
    · have HR2 : Hid (namedR us i = decide (f2 < 0)) := by unfold Hid; rw [HR.out, decide_eq_false j0]; rfl
      clear HR
      have j1 : decide (f1 < 0) = false := decide_eq_false j0
      go_wp2_with fail
      refine F2.out.mono ?_
      rintro e w1 ⟨rfl, hw⟩; obtain rfl := hw.symm
      go_wp2_with fail
      go_ret
      exact ⟨ret_bool HR2.out.symm, rfl⟩
  · have HR : Hid (namedR us i = (decide (firstB us kRule 1 (tA (uA us i) 1) < (i : Int)) || badI us (uA us i) ((uA us i).length - 5) 5)) := by
      unfold Hid namedR; rw [if_neg (show ¬ (cA (uA us i) 0 = kNum ∨ cA (uA us i) 0 = kFlag) by rw [b]; decide), if_neg (show ¬ cA (uA us i) 0 = kOver by rw [b]; decide)]
    have F1 : Hid (Calls Tryz.prog 110 #[.slice (some ⟨gl, 0, none⟩) us.length c, .string ⟨#[114, 117, 108, 101]⟩, .int .i64 1, .string ⟨(tA (uA us i) 1).toArray⟩] w fun e w' => e = .returned (.int .i64 (firstB us kRule 1 (tA (uA us i) 1))) ∧ w' = w) := H1.out kRule _
    have HFt := hideP2 (fun k (h1 : 1 ≤ k) (h2 : k < (uA us i).length) => fits_s w (some ⟨gl, 0, none⟩) c ls us (uA us i) g o cu k w0 h hA hseg hsm hlc h1 h2 hw.wB)
    have HSg := hideP2 hseg
    have hwlo := hw.wlo
    have hwhi := hw.whi
    rw [b] at hc0
    simp only [kRule] at hc0
    clear h hA hx hseg H1 b HB fb HH hw
    generalize firstB us kRule 1 (tA (uA us i) 1) = f1 at *
    generalize tA (uA us i) 1 = nm at *
    generalize uA us i = u at *
    go_enter Tryz.func132, Tryz.ntmps132
    go_wp2_with fail
    refine F1.out.mono ?_
    rintro e w1 ⟨rfl, hw⟩; obtain rfl := hw.symm
    by_cases j0 : f1 < (i : Int)
    · have HR2 : Hid (namedR us i = true) := by unfold Hid; rw [HR.out, decide_eq_true j0]; rfl
      clear HR
      go_wp2_with fail
      go_ret
      exact ⟨ret_bool HR2.out.symm, rfl⟩
    · have HR2 : Hid (namedR us i = badI us u (u.length - 5) 5) := by unfold Hid; rw [HR.out, decide_eq_false j0]; rfl
      clear HR
      go_wp2_with fail
      go_loop [9] (fun kv => ∃ (k : Nat), 5 ≤ k ∧ k ≤ u.length ∧ kv = .int .i64 k ∧ Hid (badI us u (u.length - k) k = badI us u (u.length - 5) 5)) (fun kv => u.length - (intOf kv).toNat)
      case atStart => exact ⟨5, Nat.le_refl _, by omega, rfl, hideP2 rfl⟩
      case round =>
        obtain ⟨k, hk5, hk, rfl, HE⟩ := hrel
        by_cases hlt : k < u.length
        · have hck := (HSg.out.tok hlt).2
          have hE := HE.out
          rw [badI_step us u k hlt] at hE
          have HE2 := hideP2 hE
          have HFk := hideP2 (HFt.out k (by omega) hlt)
          have ikl : (k : Int) < (u.length : Int) := by omega
          clear HE hE
          generalize fitsR us u k = z at *
          generalize cA u k = cl at *
          by_cases kn : cl = nameB
          · have bn : (cl == [78, 65, 77, 69]) = true := by simpa [nameB] using kn
            cases z
            · have HR3 : Hid (namedR us i = true) := by unfold Hid; rw [HR2.out, ← HE2.out, if_pos ⟨kn, rfl⟩]
              clear HE2 kn
              go_wp2_with fail
              refine HFk.out.mono ?_
              rintro e w1 ⟨rfl, hw⟩; obtain rfl := hw.symm
              go_wp2_with fail
              go_ret
              exact ⟨ret_bool HR3.out.symm, rfl⟩
            · have HE3 : Hid (badI us u (u.length - (k + 1)) (k + 1) = badI us u (u.length - 5) 5) := by have := HE2.out; rw [if_neg (fun h => absurd h.2 (by decide))] at this; exact this
              clear HE2 kn
              go_wp2_with fail
              refine HFk.out.mono ?_
              rintro e w1 ⟨rfl, hw⟩; obtain rfl := hw.symm
              go_wp2_with fail
              go_round
              case rel => exact ⟨k + 1, by omega, by omega, by go_num, HE3⟩
              case measure => simp [intOf]; omega
          · have bn : (cl == [78, 65, 77, 69]) = false := by simpa [nameB] using kn
            have HE3 : Hid (badI us u (u.length - (k + 1)) (k + 1) = badI us u (u.length - 5) 5) := by have := HE2.out; rw [if_neg (fun h => kn h.1)] at this; exact this
            clear HE2 kn
            go_wp2_with fail
            go_round
            case rel => exact ⟨k + 1, by omega, by omega, by go_num, HE3⟩
            case measure => simp [intOf]; omega
        · have HR3 : Hid (namedR us i = false) := by unfold Hid; rw [HR2.out, ← HE.out, badI_end us u k hlt]
          clear HE
          go_wp2_with fail
          go_ret
          exact ⟨ret_bool HR3.out.symm, rfl⟩

set_option maxHeartbeats 4000000 in
theorem fault_s (w : World) (a : Option Addr) (c : Nat) (ls : List PLine) (us : List Toks) (i : Nat) (hi : i < us.length) (h : RowL w a us) (hA : AllLT ls us) :
    Calls Tryz.prog 76 #[.slice a us.length c, .int .i64 i] w fun e w' => e = .returned (.int .i64 (faultR us i)) ∧ Below w.heap.size w w' := by
  have HNm := hideP2 (named_s w a c ls us i hi h hA)
  have hx := hA.get i hi
  have hfew := h.few
  obtain ⟨gl, g, o, cu, e0, hcell, hseg, hlc, hcm, hsm⟩ := h.at hi
  have h2 := hx.two
  have hc1 := (hseg.tok (show 1 < (uA us i).length by omega)).1
  have hc0 := (hseg.tok (show 0 < (uA us i).length by omega)).2
  rw [Nat.zero_mul, Nat.add_zero] at hc0
  rw [Nat.one_mul] at hc1
  have il : (1 : Int) < ((uA us i).length : Int) := by omega
  have il0 : (0 : Int) < ((uA us i).length : Int) := by omega
  have HR : Hid (faultR us i = if namedR us i = true then 4 else if cA (uA us i) 0 = kNum then (if valF 0 (tA (uA us i) 4) < valF 0 (tA (uA us i) 2) then 5 else 0) else if cA (uA us i) 0 = kOver then (if pairR us (uA us i) = true then 6 else 0) else 0) := rfl
  subst e0
  cases hn : namedR us i
  rotate_left
  · rw [hn] at HNm
    have HR2 : Hid (faultR us i = 4) := by unfold Hid; rw [HR.out, hn, if_pos rfl]
    clear h hA hx hseg HR hn
    go_enter Tryz.func76, Tryz.ntmps76
    go_wp2_with fail
    refine HNm.out.mono ?_
    rintro e w1 ⟨rfl, hw⟩; obtain rfl := hw.symm
    go_wp2_with fail
    go_ret
    exact ⟨ret_int HR2.out.symm, Below.refl _ _⟩
  have HR1 : Hid (faultR us i = if cA (uA us i) 0 = kNum then (if valF 0 (tA (uA us i) 4) < valF 0 (tA (uA us i) 2) then 5 else 0) else if cA (uA us i) 0 = kOver then (if pairR us (uA us i) = true then 6 else 0) else 0) := by unfold Hid; rw [HR.out, hn, if_neg Bool.false_ne_true]
  rcases hx.kind with ⟨-, b, h5, n2, n4, -⟩ | ⟨-, b⟩ | ⟨-, b, h3, -⟩ | ⟨-, b, w0, hw⟩
  · rw [hn] at HNm
    have hc2 := (hseg.tok (show 2 < (uA us i).length by omega)).1
    have hc4 := (hseg.tok (show 4 < (uA us i).length by omega)).1
    rw [show 2 * 3 = 6 from rfl] at hc2
    rw [show 4 * 3 = 12 from rfl] at hc4
    have HN2 := hideP2 (fun w' => numberR_s (tA (uA us i) 2) w' (cls_num_len n2))
    have HN4 := hideP2 (fun w' => numberR_s (tA (uA us i) 4) w' (cls_num_len n4))
    have HR2 : Hid (faultR us i = if valF 0 (tA (uA us i) 4) < valF 0 (tA (uA us i) 2) then 5 else 0) := by unfold Hid; rw [HR1.out, if_pos b]
    rw [b] at hc0
    simp only [kNum] at hc0
    have il2 : (2 : Int) < ((uA us i).length : Int) := by omega
    have il4 : (4 : Int) < ((uA us i).length : Int) := by omega
    clear h hA hx hseg HR HR1 hn b n2 n4
    generalize valF 0 (tA (uA us i) 4) = v4 at *
    generalize valF 0 (tA (uA us i) 2) = v2 at *
    generalize tA (uA us i) 2 = t2 at *
    generalize tA (uA us i) 4 = t4 at *
    go_enter Tryz.func76, Tryz.ntmps76
    go_wp2_with fail
    refine HNm.out.mono ?_
    rintro e w1 ⟨rfl, hw⟩; obtain rfl := hw.symm
    go_wp2_with fail
    go_quiet (first
      | (go_at_call_of 130 (Value.string ⟨t2.toArray⟩); refine Calls.quiet_of_same (HN2.out _))
      | (go_at_call_of 130 (Value.string ⟨t4.toArray⟩); refine Calls.quiet_of_same (HN4.out _)))
    by_cases hv : v4 < v2
    · have HR3 : Hid (faultR us i = 5) := by unfold Hid; rw [HR2.out, if_pos hv]
      clear HR2
      go_wp2_with fail
      go_ret
      exact ⟨ret_int HR3.out.symm, below_drewN (Below.refl _ _) _⟩
    · have HR3 : Hid (faultR us i = 0) := by unfold Hid; rw [HR2.out, if_neg hv]
      clear HR2
      go_wp2_with fail
      go_ret
      exact ⟨ret_int HR3.out.symm, below_drewN (Below.refl _ _) _⟩
  · rw [hn] at HNm
    have HR2 : Hid (faultR us i = 0) := by unfold Hid; rw [HR1.out, if_neg (by rw [b]; decide), if_neg (by rw [b]; decide)]
    rw [b] at hc0
    simp only [kFlag] at hc0
    clear h hA hx hseg HR HR1 hn b
    go_enter Tryz.func76, Tryz.ntmps76
    go_wp2_with fail
    refine HNm.out.mono ?_
    rintro e w1 ⟨rfl, hw⟩; obtain rfl := hw.symm
    go_wp2_with fail
    go_ret
    exact ⟨ret_int HR2.out.symm, Below.refl _ _⟩
  · have hnm : (decide (firstB us kRule 1 (tA (uA us i) 1) < 0) || decide (firstB us kRule 1 (tA (uA us i) 2) < 0)) = false := by
      rw [← hn]; unfold namedR; rw [if_neg (show ¬ (cA (uA us i) 0 = kNum ∨ cA (uA us i) 0 = kFlag) by rw [b]; decide), if_pos b]
    rw [Bool.or_eq_false_iff, decide_eq_false_iff_not, decide_eq_false_iff_not] at hnm
    obtain ⟨f1, e1, hf1, hl1⟩ := firstB_at hA (show 0 ≤ firstB us kRule 1 (tA (uA us i) 1) by omega)
    obtain ⟨f2, e2, hf2, hl2⟩ := firstB_at hA (show 0 ≤ firstB us kRule 1 (tA (uA us i) 2) by omega)
    rw [hn] at HNm
    have HR2 : Hid (faultR us i = if (decide (tA (uA us i) 1 = tA (uA us i) 2) || !decide (tA (uA us f1) 3 = tA (uA us f2) 3)) = true then 6 else 0) := by
      unfold Hid; rw [HR1.out, if_neg (show ¬ cA (uA us i) 0 = kNum by rw [b]; decide), if_pos b]
      unfold pairR; rw [e1, e2]; rfl
    have F1 : Hid (Calls Tryz.prog 110 #[.slice (some ⟨gl, 0, none⟩) us.length c, .string ⟨#[114, 117, 108, 101]⟩, .int .i64 1, .string ⟨(tA (uA us i) 1).toArray⟩] w fun e w' => e = .returned (.int .i64 f1) ∧ w' = w) := by
      have := first1_s w (some ⟨gl, 0, none⟩) c ls us kRule (tA (uA us i) 1) h hA; rw [e1] at this; exact this
    have F2 : Hid (Calls Tryz.prog 110 #[.slice (some ⟨gl, 0, none⟩) us.length c, .string ⟨#[114, 117, 108, 101]⟩, .int .i64 1, .string ⟨(tA (uA us i) 2).toArray⟩] w fun e w' => e = .returned (.int .i64 f2) ∧ w' = w) := by
      have := first1_s w (some ⟨gl, 0, none⟩) c ls us kRule (tA (uA us i) 2) h hA; rw [e2] at this; exact this
    have hc2 := (hseg.tok (show 2 < (uA us i).length by omega)).1
    rw [show 2 * 3 = 6 from rfl] at hc2
    obtain ⟨gl1, g1, o1, cu1, eg1, hcell1, hseg1, hlc1, _, _⟩ := h.at hf1
    obtain ⟨gl2, g2, o2, cu2, eg2, hcell2, hseg2, hlc2, _, _⟩ := h.at hf2
    obtain rfl : gl = gl1 := by simpa using eg1
    obtain rfl : gl = gl2 := by simpa using eg2
    have hd1 := (hseg1.tok (show 3 < (uA us f1).length by omega)).1
    have hd2 := (hseg2.tok (show 3 < (uA us f2).length by omega)).1
    rw [show 3 * 3 = 9 from rfl] at hd1 hd2
    rw [b] at hc0
    simp only [kOver] at hc0
    have il2 : (2 : Int) < ((uA us i).length : Int) := by omega
    have jf1 : (f1 : Int) < (us.length : Int) := by omega
    have jf2 : (f2 : Int) < (us.length : Int) := by omega
    have jl1 : (3 : Int) < ((uA us f1).length : Int) := by omega
    have jl2 : (3 : Int) < ((uA us f2).length : Int) := by omega
    clear h hA hx hseg hseg1 hseg2 HR HR1 hn b hnm e1 e2 eg1 eg2
    generalize tA (uA us i) 1 = t1 at *
    generalize tA (uA us i) 2 = t2 at *
    generalize tA (uA us f1) 3 = s1 at *
    generalize tA (uA us f2) 3 = s2 at *
    go_enter Tryz.func76, Tryz.ntmps76
    go_wp2_with fail
    refine HNm.out.mono ?_
    rintro e w1 ⟨rfl, hw⟩; obtain rfl := hw.symm
    go_wp2_with fail
    refine F1.out.mono ?_
    rintro e w1 ⟨rfl, hw⟩; obtain rfl := hw.symm
    go_wp2_with fail
    refine F2.out.mono ?_
    rintro e w1 ⟨rfl, hw⟩; obtain rfl := hw.symm
    go_wp2_with fail
    by_cases kt : t1 = t2
    · have HR3 : Hid (faultR us i = 6) := by unfold Hid; rw [HR2.out, decide_eq_true kt]; rfl
      have bt : (t1 == t2) = true := by simpa using kt
      clear HR2 kt
      go_quiet (fail)
      go_wp2_with fail
      go_ret
      exact ⟨ret_int HR3.out.symm, below_drewN (Below.refl _ _) _⟩
    have bt : (t1 == t2) = false := by simpa using kt
    by_cases ks : s1 = s2
    · have HR3 : Hid (faultR us i = 0) := by unfold Hid; rw [HR2.out, decide_eq_false kt, decide_eq_true ks]; rfl
      have bs : (s1 == s2) = true := by simpa using ks
      clear HR2 kt ks
      go_quiet (fail)
      go_wp2_with fail
      go_ret
      exact ⟨ret_int HR3.out.symm, below_drewN (Below.refl _ _) _⟩
    · have HR3 : Hid (faultR us i = 6) := by unfold Hid; rw [HR2.out, decide_eq_false kt, decide_eq_false ks]; rfl
      have bs : (s1 == s2) = false := by simpa using ks
      clear HR2 kt ks
      go_quiet (fail)
      go_wp2_with fail
      go_ret
      exact ⟨ret_int HR3.out.symm, below_drewN (Below.refl _ _) _⟩
  · rw [hn] at HNm
    have HR2 : Hid (faultR us i = 0) := by unfold Hid; rw [HR1.out, if_neg (by rw [b]; decide), if_neg (by rw [b]; decide)]
    rw [b] at hc0
    simp only [kRule] at hc0
    clear h hA hx hseg HR HR1 hn b hw
    go_enter Tryz.func76, Tryz.ntmps76
    go_wp2_with fail
    refine HNm.out.mono ?_
    rintro e w1 ⟨rfl, hw⟩; obtain rfl := hw.symm
    go_wp2_with fail
    go_ret
    exact ⟨ret_int HR2.out.symm, Below.refl _ _⟩
end Go.Proofs.YtnbpdffdnphbeaaGreatDoor
