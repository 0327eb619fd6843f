/- What line of the reader gives: a line of a rulebook. -/
import Derived.Test.YtnbpdffdnphbeaaGreatBLines
namespace Go.Proofs.YtnbpdffdnphbeaaGreat
open Go.RowKit

def pLine (P : List PT) (s : St) : PLine × St :=
  match (pSkip P [110, 117, 109] s).1 with
  | true => pNumLine P (pSkip P [110, 117, 109] s).2
  | false =>
    match (pSkip P [102, 108, 97, 103] (pSkip P [110, 117, 109] s).2).1 with
    | true => pFlagLine P (pSkip P [102, 108, 97, 103] (pSkip P [110, 117, 109] s).2).2
    | false =>
      match (pSkip P [114, 117, 108, 101] (pSkip P [102, 108, 97, 103] (pSkip P [110, 117, 109] s).2).2).1 with
      | true => pRuleLine P (pSkip P [114, 117, 108, 101] (pSkip P [102, 108, 97, 103] (pSkip P [110, 117, 109] s).2).2).2
      | false => pOverLine P (pWant P [111, 118, 101, 114] (pSkip P [114, 117, 108, 101] (pSkip P [102, 108, 97, 103] (pSkip P [110, 117, 109] s).2).2).2)

set_option maxHeartbeats 1000000 in
theorem line_num (w : World) (R g cap : Nat) (P : List PT) (s : St) (h : CtxS w R g cap P s) (h1 : (pSkip P [110, 117, 109] s).1 = true) :
    Calls Tryz.prog 24 #[.pointer (some ⟨R, 0, none⟩)] w fun e w' => ∃ sv nv, e = .returned (lineV sv nv (pLine P s).1) ∧ LineRows w' w.heap.size sv nv (pLine P s).1 ∧ CtxS w' R g cap P (pLine P s).2 ∧ Keeps w.heap.size R w w' := by
  have hR := h.rlt
  have hg := h.glt
  have n0 : w.heap.size ≠ R := by omega
  have m0 : w.heap.size ≠ g := by omega
  have HC0 := hideP2 h
  have HP : Hid (pLine P s = pNumLine P (pSkip P [110, 117, 109] s).2) := by unfold Hid pLine; simp only [h1]
  have H1 := hideP2 h1
  clear h h1
  go_enter Tryz.func24, Tryz.ntmps24
  go_wp2_with fail
  refine (skip_s R g cap P _ s [110, 117, 109] (by repeat (with_reducible first | exact HC0.out | refine Ctx.alloc ?_ _ | refine Ctx.drew ?_ | refine Ctx.set ?_ (by first | exact n0) (by first | exact m0)))).mono ?_
  rintro e w1 ⟨rfl, hc1, hk1⟩
  rw [H1.out]
  have HC1 := hideP2 hc1
  have HT1 : Hid (Keeps w.heap.size R w w1) := Keeps.step (by repeat (with_reducible first | exact Keeps.refl _ _ _ | refine Keeps.new ?_ | refine Keeps.drew ?_ | refine Keeps.set ?_ (by first | exact Nat.le_refl _ | exact Nat.le_add_right _ _))) hk1
  have q1_0 := fun o => hk1.cell (p := ⟨w.heap.size, o, none⟩) (by simp; try omega) n0
  have r1_0 := fun o => hk1.frozen (p := ⟨w.heap.size, o, none⟩) (by simp; try omega) n0
  have z1_0 : w.heap.size < w1.heap.size := Nat.lt_of_lt_of_le (by simp; try omega) hk1.size
  have b1 : w1.heap[w.heap.size]? = some (.cells #[.int .i64 0, .string ⟨#[]⟩, .int .i64 0, .int .i64 0, .string ⟨#[]⟩, .slice none 0 0, .slice none 0 0, .int .i64 0, .int .i64 0, .int .i64 0, .string ⟨#[]⟩] 83 (0, 0)) := hb_keeps (by repeat (with_reducible first | exact hb_end _ _ | refine hb_new ?_ | refine hb_drew ?_ | refine hb_set ?_ (by first | fail | fail))) hk1 n0
  clear hc1 hk1
  go_wp2_with fail
  refine (numLine_s _ R g cap P (pSkip P [110, 117, 109] s).2 (by repeat (with_reducible first | exact HC1.out | refine Ctx.alloc ?_ _ | refine Ctx.drew ?_ | refine Ctx.set ?_ (by first | exact n0) (by first | exact m0)))).mono ?_
  rintro e w2 ⟨rfl, hc2, hk2⟩
  unfold lineV
  have HC2 := hideP2 hc2
  have HT2 : Hid (Keeps w.heap.size R w w2) := Keeps.step (by repeat (with_reducible first | exact HT1.out | refine Keeps.new ?_ | refine Keeps.drew ?_ | refine Keeps.set ?_ (by first | exact Nat.le_refl _ | exact Nat.le_add_right _ _))) hk2
  have q2_0 := fun o => hk2.cell (p := ⟨w.heap.size, o, none⟩) (by repeat (with_reducible first | exact z1_0 | exact lt_end _ _ | refine lt_set ?_ | refine lt_new ?_ | refine lt_drew ?_)) n0
  have r2_0 := fun o => hk2.frozen (p := ⟨w.heap.size, o, none⟩) (by repeat (with_reducible first | exact z1_0 | exact lt_end _ _ | refine lt_set ?_ | refine lt_new ?_ | refine lt_drew ?_)) n0
  have z2_0 : w.heap.size < w2.heap.size := Nat.lt_of_lt_of_le (by repeat (with_reducible first | exact z1_0 | exact lt_end _ _ | refine lt_set ?_ | refine lt_new ?_ | refine lt_drew ?_)) hk2.size
  have b2 : w2.heap[w.heap.size]? = some (.cells #[.int .i64 0, .string ⟨#[]⟩, .int .i64 0, .int .i64 0, .string ⟨#[]⟩, .slice none 0 0, .slice none 0 0, .int .i64 0, .int .i64 0, .int .i64 0, .string ⟨#[]⟩] 83 (0, 0)) := hb_keeps (by repeat (with_reducible first | exact b1 | refine hb_new ?_ | refine hb_drew ?_ | refine hb_set ?_ (by first | fail | fail))) hk2 n0
  clear hc2 hk2
  go_wp2_with fail
  have cz2 := fun j => cell_of_row _ _ j _ _ _ b2
  refine bodyPost_ret (v := lineV (.slice none 0 0) (.slice none 0 0) (pNumLine P (pSkip P [110, 117, 109] s).2).1) (by simp (maxDischargeDepth := 8) [results, Tryz.results24, go_sem, lineV, cz2]) rfl ⟨_, _, by rw [HP.out], ?_, by rw [HP.out]; exact (by repeat (with_reducible first | exact HC2.out | refine Ctx.alloc ?_ _ | refine Ctx.drew ?_ | refine Ctx.set ?_ (by first | exact n0) (by first | exact m0))), (by repeat (with_reducible first | exact HT2.out | refine Keeps.new ?_ | refine Keeps.drew ?_ | refine Keeps.set ?_ (by first | exact Nat.le_refl _ | exact Nat.le_add_right _ _)))⟩
  rw [HP.out]
  exact ⟨World.ownsRow_nil _ _ _ _, World.ownsRow_nil _ _ _ _⟩

set_option maxHeartbeats 1000000 in
theorem line_flag (w : World) (R g cap : Nat) (P : List PT) (s : St) (h : CtxS w R g cap P s) (h1 : (pSkip P [110, 117, 109] s).1 = false) (h2 : (pSkip P [102, 108, 97, 103] (pSkip P [110, 117, 109] s).2).1 = true) :
    Calls Tryz.prog 24 #[.pointer (some ⟨R, 0, none⟩)] w fun e w' => ∃ sv nv, e = .returned (lineV sv nv (pLine P s).1) ∧ LineRows w' w.heap.size sv nv (pLine P s).1 ∧ CtxS w' R g cap P (pLine P s).2 ∧ Keeps w.heap.size R w w' := by
  have hR := h.rlt
  have hg := h.glt
  have n0 : w.heap.size ≠ R := by omega
  have m0 : w.heap.size ≠ g := by omega
  have HC0 := hideP2 h
  have HP : Hid (pLine P s = pFlagLine P (pSkip P [102, 108, 97, 103] (pSkip P [110, 117, 109] s).2).2) := by unfold Hid pLine; simp only [h1, h2]
  have H1 := hideP2 h1; have H2 := hideP2 h2
  clear h h1 h2
  go_enter Tryz.func24, Tryz.ntmps24
  go_wp2_with fail
  refine (skip_s R g cap P _ s [110, 117, 109] (by repeat (with_reducible first | exact HC0.out | refine Ctx.alloc ?_ _ | refine Ctx.drew ?_ | refine Ctx.set ?_ (by first | exact n0) (by first | exact m0)))).mono ?_
  rintro e w1 ⟨rfl, hc1, hk1⟩
  rw [H1.out]
  have HC1 := hideP2 hc1
  have HT1 : Hid (Keeps w.heap.size R w w1) := Keeps.step (by repeat (with_reducible first | exact Keeps.refl _ _ _ | refine Keeps.new ?_ | refine Keeps.drew ?_ | refine Keeps.set ?_ (by first | exact Nat.le_refl _ | exact Nat.le_add_right _ _))) hk1
  have q1_0 := fun o => hk1.cell (p := ⟨w.heap.size, o, none⟩) (by simp; try omega) n0
  have r1_0 := fun o => hk1.frozen (p := ⟨w.heap.size, o, none⟩) (by simp; try omega) n0
  have z1_0 : w.heap.size < w1.heap.size := Nat.lt_of_lt_of_le (by simp; try omega) hk1.size
  have b1 : w1.heap[w.heap.size]? = some (.cells #[.int .i64 0, .string ⟨#[]⟩, .int .i64 0, .int .i64 0, .string ⟨#[]⟩, .slice none 0 0, .slice none 0 0, .int .i64 0, .int .i64 0, .int .i64 0, .string ⟨#[]⟩] 83 (0, 0)) := hb_keeps (by repeat (with_reducible first | exact hb_end _ _ | refine hb_new ?_ | refine hb_drew ?_ | refine hb_set ?_ (by first | fail | fail))) hk1 n0
  clear hc1 hk1
  go_wp2_with fail
  refine (skip_s R g cap P _ (pSkip P [110, 117, 109] s).2 [102, 108, 97, 103] (by repeat (with_reducible first | exact HC1.out | refine Ctx.alloc ?_ _ | refine Ctx.drew ?_ | refine Ctx.set ?_ (by first | exact n0) (by first | exact m0)))).mono ?_
  rintro e w2 ⟨rfl, hc2, hk2⟩
  rw [H2.out]
  have HC2 := hideP2 hc2
  have HT2 : Hid (Keeps w.heap.size R w w2) := Keeps.step (by repeat (with_reducible first | exact HT1.out | refine Keeps.new ?_ | refine Keeps.drew ?_ | refine Keeps.set ?_ (by first | exact Nat.le_refl _ | exact Nat.le_add_right _ _))) hk2
  have q2_0 := fun o => hk2.cell (p := ⟨w.heap.size, o, none⟩) (by repeat (with_reducible first | exact z1_0 | exact lt_end _ _ | refine lt_set ?_ | refine lt_new ?_ | refine lt_drew ?_)) n0
  have r2_0 := fun o => hk2.frozen (p := ⟨w.heap.size, o, none⟩) (by repeat (with_reducible first | exact z1_0 | exact lt_end _ _ | refine lt_set ?_ | refine lt_new ?_ | refine lt_drew ?_)) n0
  have z2_0 : w.heap.size < w2.heap.size := Nat.lt_of_lt_of_le (by repeat (with_reducible first | exact z1_0 | exact lt_end _ _ | refine lt_set ?_ | refine lt_new ?_ | refine lt_drew ?_)) hk2.size
  have b2 : w2.heap[w.heap.size]? = some (.cells #[.int .i64 0, .string ⟨#[]⟩, .int .i64 0, .int .i64 0, .string ⟨#[]⟩, .slice none 0 0, .slice none 0 0, .int .i64 0, .int .i64 0, .int .i64 0, .string ⟨#[]⟩] 83 (0, 0)) := hb_keeps (by repeat (with_reducible first | exact b1 | refine hb_new ?_ | refine hb_drew ?_ | refine hb_set ?_ (by first | fail | fail))) hk2 n0
  clear hc2 hk2
  go_wp2_with fail
  refine (flagLine_s _ R g cap P (pSkip P [102, 108, 97, 103] (pSkip P [110, 117, 109] s).2).2 (by repeat (with_reducible first | exact HC2.out | refine Ctx.alloc ?_ _ | refine Ctx.drew ?_ | refine Ctx.set ?_ (by first | exact n0) (by first | exact m0)))).mono ?_
  rintro e w3 ⟨rfl, hc3, hk3⟩
  unfold lineV
  have HC3 := hideP2 hc3
  have HT3 : Hid (Keeps w.heap.size R w w3) := Keeps.step (by repeat (with_reducible first | exact HT2.out | refine Keeps.new ?_ | refine Keeps.drew ?_ | refine Keeps.set ?_ (by first | exact Nat.le_refl _ | exact Nat.le_add_right _ _))) hk3
  have q3_0 := fun o => hk3.cell (p := ⟨w.heap.size, o, none⟩) (by repeat (with_reducible first | exact z2_0 | exact lt_end _ _ | refine lt_set ?_ | refine lt_new ?_ | refine lt_drew ?_)) n0
  have r3_0 := fun o => hk3.frozen (p := ⟨w.heap.size, o, none⟩) (by repeat (with_reducible first | exact z2_0 | exact lt_end _ _ | refine lt_set ?_ | refine lt_new ?_ | refine lt_drew ?_)) n0
  have z3_0 : w.heap.size < w3.heap.size := Nat.lt_of_lt_of_le (by repeat (with_reducible first | exact z2_0 | exact lt_end _ _ | refine lt_set ?_ | refine lt_new ?_ | refine lt_drew ?_)) hk3.size
  have b3 : w3.heap[w.heap.size]? = some (.cells #[.int .i64 0, .string ⟨#[]⟩, .int .i64 0, .int .i64 0, .string ⟨#[]⟩, .slice none 0 0, .slice none 0 0, .int .i64 0, .int .i64 0, .int .i64 0, .string ⟨#[]⟩] 83 (0, 0)) := hb_keeps (by repeat (with_reducible first | exact b2 | refine hb_new ?_ | refine hb_drew ?_ | refine hb_set ?_ (by first | fail | fail))) hk3 n0
  clear hc3 hk3
  go_wp2_with fail
  have cz3 := fun j => cell_of_row _ _ j _ _ _ b3
  refine bodyPost_ret (v := lineV (.slice none 0 0) (.slice none 0 0) (pFlagLine P (pSkip P [102, 108, 97, 103] (pSkip P [110, 117, 109] s).2).2).1) (by simp (maxDischargeDepth := 8) [results, Tryz.results24, go_sem, lineV, cz3]) rfl ⟨_, _, by rw [HP.out], ?_, by rw [HP.out]; exact (by repeat (with_reducible first | exact HC3.out | refine Ctx.alloc ?_ _ | refine Ctx.drew ?_ | refine Ctx.set ?_ (by first | exact n0) (by first | exact m0))), (by repeat (with_reducible first | exact HT3.out | refine Keeps.new ?_ | refine Keeps.drew ?_ | refine Keeps.set ?_ (by first | exact Nat.le_refl _ | exact Nat.le_add_right _ _)))⟩
  rw [HP.out]
  exact ⟨World.ownsRow_nil _ _ _ _, World.ownsRow_nil _ _ _ _⟩

set_option maxHeartbeats 1000000 in
theorem line_rule (w : World) (R g cap : Nat) (P : List PT) (s : St) (h : CtxS w R g cap P s) (h1 : (pSkip P [110, 117, 109] s).1 = false) (h2 : (pSkip P [102, 108, 97, 103] (pSkip P [110, 117, 109] s).2).1 = false) (h3 : (pSkip P [114, 117, 108, 101] (pSkip P [102, 108, 97, 103] (pSkip P [110, 117, 109] s).2).2).1 = true) :
    Calls Tryz.prog 24 #[.pointer (some ⟨R, 0, none⟩)] w fun e w' => ∃ sv nv, e = .returned (lineV sv nv (pLine P s).1) ∧ LineRows w' w.heap.size sv nv (pLine P s).1 ∧ CtxS w' R g cap P (pLine P s).2 ∧ Keeps w.heap.size R w w' := by
  have hR := h.rlt
  have hg := h.glt
  have n0 : w.heap.size ≠ R := by omega
  have m0 : w.heap.size ≠ g := by omega
  have HC0 := hideP2 h
  have HP : Hid (pLine P s = pRuleLine P (pSkip P [114, 117, 108, 101] (pSkip P [102, 108, 97, 103] (pSkip P [110, 117, 109] s).2).2).2) := by unfold Hid pLine; simp only [h1, h2, h3]
  have H1 := hideP2 h1; have H2 := hideP2 h2; have H3 := hideP2 h3
  clear h h1 h2 h3
  go_enter Tryz.func24, Tryz.ntmps24
  go_wp2_with fail
  refine (skip_s R g cap P _ s [110, 117, 109] (by repeat (with_reducible first | exact HC0.out | refine Ctx.alloc ?_ _ | refine Ctx.drew ?_ | refine Ctx.set ?_ (by first | exact n0) (by first | exact m0)))).mono ?_
  rintro e w1 ⟨rfl, hc1, hk1⟩
  rw [H1.out]
  have HC1 := hideP2 hc1
  have HT1 : Hid (Keeps w.heap.size R w w1) := Keeps.step (by repeat (with_reducible first | exact Keeps.refl _ _ _ | refine Keeps.new ?_ | refine Keeps.drew ?_ | refine Keeps.set ?_ (by first | exact Nat.le_refl _ | exact Nat.le_add_right _ _))) hk1
  have q1_0 := fun o => hk1.cell (p := ⟨w.heap.size, o, none⟩) (by simp; try omega) n0
  have r1_0 := fun o => hk1.frozen (p := ⟨w.heap.size, o, none⟩) (by simp; try omega) n0
  have z1_0 : w.heap.size < w1.heap.size := Nat.lt_of_lt_of_le (by simp; try omega) hk1.size
  have b1 : w1.heap[w.heap.size]? = some (.cells #[.int .i64 0, .string ⟨#[]⟩, .int .i64 0, .int .i64 0, .string ⟨#[]⟩, .slice none 0 0, .slice none 0 0, .int .i64 0, .int .i64 0, .int .i64 0, .string ⟨#[]⟩] 83 (0, 0)) := hb_keeps (by repeat (with_reducible first | exact hb_end _ _ | refine hb_new ?_ | refine hb_drew ?_ | refine hb_set ?_ (by first | fail | fail))) hk1 n0
  clear hc1 hk1
  go_wp2_with fail
  refine (skip_s R g cap P _ (pSkip P [110, 117, 109] s).2 [102, 108, 97, 103] (by repeat (with_reducible first | exact HC1.out | refine Ctx.alloc ?_ _ | refine Ctx.drew ?_ | refine Ctx.set ?_ (by first | exact n0) (by first | exact m0)))).mono ?_
  rintro e w2 ⟨rfl, hc2, hk2⟩
  rw [H2.out]
  have HC2 := hideP2 hc2
  have HT2 : Hid (Keeps w.heap.size R w w2) := Keeps.step (by repeat (with_reducible first | exact HT1.out | refine Keeps.new ?_ | refine Keeps.drew ?_ | refine Keeps.set ?_ (by first | exact Nat.le_refl _ | exact Nat.le_add_right _ _))) hk2
  have q2_0 := fun o => hk2.cell (p := ⟨w.heap.size, o, none⟩) (by repeat (with_reducible first | exact z1_0 | exact lt_end _ _ | refine lt_set ?_ | refine lt_new ?_ | refine lt_drew ?_)) n0
  have r2_0 := fun o => hk2.frozen (p := ⟨w.heap.size, o, none⟩) (by repeat (with_reducible first | exact z1_0 | exact lt_end _ _ | refine lt_set ?_ | refine lt_new ?_ | refine lt_drew ?_)) n0
  have z2_0 : w.heap.size < w2.heap.size := Nat.lt_of_lt_of_le (by repeat (with_reducible first | exact z1_0 | exact lt_end _ _ | refine lt_set ?_ | refine lt_new ?_ | refine lt_drew ?_)) hk2.size
  have b2 : w2.heap[w.heap.size]? = some (.cells #[.int .i64 0, .string ⟨#[]⟩, .int .i64 0, .int .i64 0, .string ⟨#[]⟩, .slice none 0 0, .slice none 0 0, .int .i64 0, .int .i64 0, .int .i64 0, .string ⟨#[]⟩] 83 (0, 0)) := hb_keeps (by repeat (with_reducible first | exact b1 | refine hb_new ?_ | refine hb_drew ?_ | refine hb_set ?_ (by first | fail | fail))) hk2 n0
  clear hc2 hk2
  go_wp2_with fail
  refine (skip_s R g cap P _ (pSkip P [102, 108, 97, 103] (pSkip P [110, 117, 109] s).2).2 [114, 117, 108, 101] (by repeat (with_reducible first | exact HC2.out | refine Ctx.alloc ?_ _ | refine Ctx.drew ?_ | refine Ctx.set ?_ (by first | exact n0) (by first | exact m0)))).mono ?_
  rintro e w3 ⟨rfl, hc3, hk3⟩
  rw [H3.out]
  have HC3 := hideP2 hc3
  have HT3 : Hid (Keeps w.heap.size R w w3) := Keeps.step (by repeat (with_reducible first | exact HT2.out | refine Keeps.new ?_ | refine Keeps.drew ?_ | refine Keeps.set ?_ (by first | exact Nat.le_refl _ | exact Nat.le_add_right _ _))) hk3
  have q3_0 := fun o => hk3.cell (p := ⟨w.heap.size, o, none⟩) (by repeat (with_reducible first | exact z2_0 | exact lt_end _ _ | refine lt_set ?_ | refine lt_new ?_ | refine lt_drew ?_)) n0
  have r3_0 := fun o => hk3.frozen (p := ⟨w.heap.size, o, none⟩) (by repeat (with_reducible first | exact z2_0 | exact lt_end _ _ | refine lt_set ?_ | refine lt_new ?_ | refine lt_drew ?_)) n0
  have z3_0 : w.heap.size < w3.heap.size := Nat.lt_of_lt_of_le (by repeat (with_reducible first | exact z2_0 | exact lt_end _ _ | refine lt_set ?_ | refine lt_new ?_ | refine lt_drew ?_)) hk3.size
  have b3 : w3.heap[w.heap.size]? = some (.cells #[.int .i64 0, .string ⟨#[]⟩, .int .i64 0, .int .i64 0, .string ⟨#[]⟩, .slice none 0 0, .slice none 0 0, .int .i64 0, .int .i64 0, .int .i64 0, .string ⟨#[]⟩] 83 (0, 0)) := hb_keeps (by repeat (with_reducible first | exact b2 | refine hb_new ?_ | refine hb_drew ?_ | refine hb_set ?_ (by first | fail | fail))) hk3 n0
  clear hc3 hk3
  go_wp2_with fail
  refine (ruleLine_s _ R g cap P (pSkip P [114, 117, 108, 101] (pSkip P [102, 108, 97, 103] (pSkip P [110, 117, 109] s).2).2).2 (by repeat (with_reducible first | exact HC3.out | refine Ctx.alloc ?_ _ | refine Ctx.drew ?_ | refine Ctx.set ?_ (by first | exact n0) (by first | exact m0)))).mono ?_
  rintro e w4 ⟨sv, nv, rfl, ⟨ho4, hp4⟩, hc4, hk4⟩
  obtain ⟨sva, svn, svc, rfl⟩ := own_slice ho4
  obtain ⟨nva, nvn, nvc, rfl⟩ := own_slice hp4
  unfold lineV
  have HC4 := hideP2 hc4
  have HT4 : Hid (Keeps w.heap.size R w w4) := Keeps.step (by repeat (with_reducible first | exact HT3.out | refine Keeps.new ?_ | refine Keeps.drew ?_ | refine Keeps.set ?_ (by first | exact Nat.le_refl _ | exact Nat.le_add_right _ _))) hk4
  have r4_0 := fun o => hk4.frozen (p := ⟨w.heap.size, o, none⟩) z3_0 n0
  have b4 : w4.heap[w.heap.size]? = some (.cells #[.int .i64 0, .string ⟨#[]⟩, .int .i64 0, .int .i64 0, .string ⟨#[]⟩, .slice none 0 0, .slice none 0 0, .int .i64 0, .int .i64 0, .int .i64 0, .string ⟨#[]⟩] 83 (0, 0)) := hb_keeps b3 hk4 n0
  have q4_0 := fun o => hk4.cell (p := ⟨w.heap.size, o, none⟩) z3_0 n0
  have HO4 := hideP2 ho4
  have HP4 := hideP2 hp4
  clear ho4 hp4 hc4 hk4
  go_wp2_with fail
  have cz4 := fun j => cell_of_row _ _ j _ _ _ b4
  refine bodyPost_ret (v := lineV (.slice sva svn svc) (.slice nva nvn nvc) (pRuleLine P (pSkip P [114, 117, 108, 101] (pSkip P [102, 108, 97, 103] (pSkip P [110, 117, 109] s).2).2).2).1) (by simp (maxDischargeDepth := 8) [results, Tryz.results24, go_sem, lineV, cz4]) rfl ⟨_, _, by rw [HP.out], ?_, by rw [HP.out]; exact (by repeat (with_reducible first | exact HC4.out | refine Ctx.alloc ?_ _ | refine Ctx.drew ?_ | refine Ctx.set ?_ (by first | exact n0) (by first | exact m0))), (by repeat (with_reducible first | exact HT4.out | refine Keeps.new ?_ | refine Keeps.drew ?_ | refine Keeps.set ?_ (by first | exact Nat.le_refl _ | exact Nat.le_add_right _ _)))⟩
  rw [HP.out]
  refine ⟨owns_base2 (b := w3.heap.size) ?_ (Nat.le_of_lt z3_0), owns_base2 (b := w3.heap.size) ?_ (Nat.le_of_lt z3_0)⟩
  · repeat (with_reducible refine owns_set ?_ z3_0)
    exact HO4.out
  · repeat (with_reducible refine owns_set ?_ z3_0)
    exact HP4.out

set_option maxHeartbeats 1000000 in
theorem line_over (w : World) (R g cap : Nat) (P : List PT) (s : St) (h : CtxS w R g cap P s) (h1 : (pSkip P [110, 117, 109] s).1 = false) (h2 : (pSkip P [102, 108, 97, 103] (pSkip P [110, 117, 109] s).2).1 = false) (h3 : (pSkip P [114, 117, 108, 101] (pSkip P [102, 108, 97, 103] (pSkip P [110, 117, 109] s).2).2).1 = false) :
    Calls Tryz.prog 24 #[.pointer (some ⟨R, 0, none⟩)] w fun e w' => ∃ sv nv, e = .returned (lineV sv nv (pLine P s).1) ∧ LineRows w' w.heap.size sv nv (pLine P s).1 ∧ CtxS w' R g cap P (pLine P s).2 ∧ Keeps w.heap.size R w w' := by
  have hR := h.rlt
  have hg := h.glt
  have n0 : w.heap.size ≠ R := by omega
  have m0 : w.heap.size ≠ g := by omega
  have HC0 := hideP2 h
  have HP : Hid (pLine P s = pOverLine P (pWant P [111, 118, 101, 114] (pSkip P [114, 117, 108, 101] (pSkip P [102, 108, 97, 103] (pSkip P [110, 117, 109] s).2).2).2)) := by unfold Hid pLine; simp only [h1, h2, h3]
  have H1 := hideP2 h1; have H2 := hideP2 h2; have H3 := hideP2 h3
  clear h h1 h2 h3
  go_enter Tryz.func24, Tryz.ntmps24
  go_wp2_with fail
  refine (skip_s R g cap P _ s [110, 117, 109] (by repeat (with_reducible first | exact HC0.out | refine Ctx.alloc ?_ _ | refine Ctx.drew ?_ | refine Ctx.set ?_ (by first | exact n0) (by first | exact m0)))).mono ?_
  rintro e w1 ⟨rfl, hc1, hk1⟩
  rw [H1.out]
  have HC1 := hideP2 hc1
  have HT1 : Hid (Keeps w.heap.size R w w1) := Keeps.step (by repeat (with_reducible first | exact Keeps.refl _ _ _ | refine Keeps.new ?_ | refine Keeps.drew ?_ | refine Keeps.set ?_ (by first | exact Nat.le_refl _ | exact Nat.le_add_right _ _))) hk1
  have q1_0 := fun o => hk1.cell (p := ⟨w.heap.size, o, none⟩) (by simp; try omega) n0
  have r1_0 := fun o => hk1.frozen (p := ⟨w.heap.size, o, none⟩) (by simp; try omega) n0
  have z1_0 : w.heap.size < w1.heap.size := Nat.lt_of_lt_of_le (by simp; try omega) hk1.size
  have b1 : w1.heap[w.heap.size]? = some (.cells #[.int .i64 0, .string ⟨#[]⟩, .int .i64 0, .int .i64 0, .string ⟨#[]⟩, .slice none 0 0, .slice none 0 0, .int .i64 0, .int .i64 0, .int .i64 0, .string ⟨#[]⟩] 83 (0, 0)) := hb_keeps (by repeat (with_reducible first | exact hb_end _ _ | refine hb_new ?_ | refine hb_drew ?_ | refine hb_set ?_ (by first | fail | fail))) hk1 n0
  clear hc1 hk1
  go_wp2_with fail
  refine (skip_s R g cap P _ (pSkip P [110, 117, 109] s).2 [102, 108, 97, 103] (by repeat (with_reducible first | exact HC1.out | refine Ctx.alloc ?_ _ | refine Ctx.drew ?_ | refine Ctx.set ?_ (by first | exact n0) (by first | exact m0)))).mono ?_
  rintro e w2 ⟨rfl, hc2, hk2⟩
  rw [H2.out]
  have HC2 := hideP2 hc2
  have HT2 : Hid (Keeps w.heap.size R w w2) := Keeps.step (by repeat (with_reducible first | exact HT1.out | refine Keeps.new ?_ | refine Keeps.drew ?_ | refine Keeps.set ?_ (by first | exact Nat.le_refl _ | exact Nat.le_add_right _ _))) hk2
  have q2_0 := fun o => hk2.cell (p := ⟨w.heap.size, o, none⟩) (by repeat (with_reducible first | exact z1_0 | exact lt_end _ _ | refine lt_set ?_ | refine lt_new ?_ | refine lt_drew ?_)) n0
  have r2_0 := fun o => hk2.frozen (p := ⟨w.heap.size, o, none⟩) (by repeat (with_reducible first | exact z1_0 | exact lt_end _ _ | refine lt_set ?_ | refine lt_new ?_ | refine lt_drew ?_)) n0
  have z2_0 : w.heap.size < w2.heap.size := Nat.lt_of_lt_of_le (by repeat (with_reducible first | exact z1_0 | exact lt_end _ _ | refine lt_set ?_ | refine lt_new ?_ | refine lt_drew ?_)) hk2.size
  have b2 : w2.heap[w.heap.size]? = some (.cells #[.int .i64 0, .string ⟨#[]⟩, .int .i64 0, .int .i64 0, .string ⟨#[]⟩, .slice none 0 0, .slice none 0 0, .int .i64 0, .int .i64 0, .int .i64 0, .string ⟨#[]⟩] 83 (0, 0)) := hb_keeps (by repeat (with_reducible first | exact b1 | refine hb_new ?_ | refine hb_drew ?_ | refine hb_set ?_ (by first | fail | fail))) hk2 n0
  clear hc2 hk2
  go_wp2_with fail
  refine (skip_s R g cap P _ (pSkip P [102, 108, 97, 103] (pSkip P [110, 117, 109] s).2).2 [114, 117, 108, 101] (by repeat (with_reducible first | exact HC2.out | refine Ctx.alloc ?_ _ | refine Ctx.drew ?_ | refine Ctx.set ?_ (by first | exact n0) (by first | exact m0)))).mono ?_
  rintro e w3 ⟨rfl, hc3, hk3⟩
  rw [H3.out]
  have HC3 := hideP2 hc3
  have HT3 : Hid (Keeps w.heap.size R w w3) := Keeps.step (by repeat (with_reducible first | exact HT2.out | refine Keeps.new ?_ | refine Keeps.drew ?_ | refine Keeps.set ?_ (by first | exact Nat.le_refl _ | exact Nat.le_add_right _ _))) hk3
  have q3_0 := fun o => hk3.cell (p := ⟨w.heap.size, o, none⟩) (by repeat (with_reducible first | exact z2_0 | exact lt_end _ _ | refine lt_set ?_ | refine lt_new ?_ | refine lt_drew ?_)) n0
  have r3_0 := fun o => hk3.frozen (p := ⟨w.heap.size, o, none⟩) (by repeat (with_reducible first | exact z2_0 | exact lt_end _ _ | refine lt_set ?_ | refine lt_new ?_ | refine lt_drew ?_)) n0
  have z3_0 : w.heap.size < w3.heap.size := Nat.lt_of_lt_of_le (by repeat (with_reducible first | exact z2_0 | exact lt_end _ _ | refine lt_set ?_ | refine lt_new ?_ | refine lt_drew ?_)) hk3.size
  have b3 : w3.heap[w.heap.size]? = some (.cells #[.int .i64 0, .string ⟨#[]⟩, .int .i64 0, .int .i64 0, .string ⟨#[]⟩, .slice none 0 0, .slice none 0 0, .int .i64 0, .int .i64 0, .int .i64 0, .string ⟨#[]⟩] 83 (0, 0)) := hb_keeps (by repeat (with_reducible first | exact b2 | refine hb_new ?_ | refine hb_drew ?_ | refine hb_set ?_ (by first | fail | fail))) hk3 n0
  clear hc3 hk3
  go_wp2_with fail
  refine (want_s R g cap P _ (pSkip P [114, 117, 108, 101] (pSkip P [102, 108, 97, 103] (pSkip P [110, 117, 109] s).2).2).2 [111, 118, 101, 114] (by repeat (with_reducible first | exact HC3.out | refine Ctx.alloc ?_ _ | refine Ctx.drew ?_ | refine Ctx.set ?_ (by first | exact n0) (by first | exact m0)))).mono ?_
  rintro e w4 ⟨rfl, hc4, hk4⟩
  have HC4 := hideP2 hc4
  have HT4 : Hid (Keeps w.heap.size R w w4) := Keeps.step (by repeat (with_reducible first | exact HT3.out | refine Keeps.new ?_ | refine Keeps.drew ?_ | refine Keeps.set ?_ (by first | exact Nat.le_refl _ | exact Nat.le_add_right _ _))) hk4
  have q4_0 := fun o => hk4.cell (p := ⟨w.heap.size, o, none⟩) (by repeat (with_reducible first | exact z3_0 | exact lt_end _ _ | refine lt_set ?_ | refine lt_new ?_ | refine lt_drew ?_)) n0
  have r4_0 := fun o => hk4.frozen (p := ⟨w.heap.size, o, none⟩) (by repeat (with_reducible first | exact z3_0 | exact lt_end _ _ | refine lt_set ?_ | refine lt_new ?_ | refine lt_drew ?_)) n0
  have z4_0 : w.heap.size < w4.heap.size := Nat.lt_of_lt_of_le (by repeat (with_reducible first | exact z3_0 | exact lt_end _ _ | refine lt_set ?_ | refine lt_new ?_ | refine lt_drew ?_)) hk4.size
  have b4 : w4.heap[w.heap.size]? = some (.cells #[.int .i64 0, .string ⟨#[]⟩, .int .i64 0, .int .i64 0, .string ⟨#[]⟩, .slice none 0 0, .slice none 0 0, .int .i64 0, .int .i64 0, .int .i64 0, .string ⟨#[]⟩] 83 (0, 0)) := hb_keeps (by repeat (with_reducible first | exact b3 | refine hb_new ?_ | refine hb_drew ?_ | refine hb_set ?_ (by first | fail | fail))) hk4 n0
  clear hc4 hk4
  go_wp2_with fail
  refine (overLine_s _ R g cap P (pWant P [111, 118, 101, 114] (pSkip P [114, 117, 108, 101] (pSkip P [102, 108, 97, 103] (pSkip P [110, 117, 109] s).2).2).2) (by repeat (with_reducible first | exact HC4.out | refine Ctx.alloc ?_ _ | refine Ctx.drew ?_ | refine Ctx.set ?_ (by first | exact n0) (by first | exact m0)))).mono ?_
  rintro e w5 ⟨rfl, hc5, hk5⟩
  unfold lineV
  have HC5 := hideP2 hc5
  have HT5 : Hid (Keeps w.heap.size R w w5) := Keeps.step (by repeat (with_reducible first | exact HT4.out | refine Keeps.new ?_ | refine Keeps.drew ?_ | refine Keeps.set ?_ (by first | exact Nat.le_refl _ | exact Nat.le_add_right _ _))) hk5
  have q5_0 := fun o => hk5.cell (p := ⟨w.heap.size, o, none⟩) (by repeat (with_reducible first | exact z4_0 | exact lt_end _ _ | refine lt_set ?_ | refine lt_new ?_ | refine lt_drew ?_)) n0
  have r5_0 := fun o => hk5.frozen (p := ⟨w.heap.size, o, none⟩) (by repeat (with_reducible first | exact z4_0 | exact lt_end _ _ | refine lt_set ?_ | refine lt_new ?_ | refine lt_drew ?_)) n0
  have z5_0 : w.heap.size < w5.heap.size := Nat.lt_of_lt_of_le (by repeat (with_reducible first | exact z4_0 | exact lt_end _ _ | refine lt_set ?_ | refine lt_new ?_ | refine lt_drew ?_)) hk5.size
  have b5 : w5.heap[w.heap.size]? = some (.cells #[.int .i64 0, .string ⟨#[]⟩, .int .i64 0, .int .i64 0, .string ⟨#[]⟩, .slice none 0 0, .slice none 0 0, .int .i64 0, .int .i64 0, .int .i64 0, .string ⟨#[]⟩] 83 (0, 0)) := hb_keeps (by repeat (with_reducible first | exact b4 | refine hb_new ?_ | refine hb_drew ?_ | refine hb_set ?_ (by first | fail | fail))) hk5 n0
  clear hc5 hk5
  go_wp2_with fail
  have cz5 := fun j => cell_of_row _ _ j _ _ _ b5
  refine bodyPost_ret (v := lineV (.slice none 0 0) (.slice none 0 0) (pOverLine P (pWant P [111, 118, 101, 114] (pSkip P [114, 117, 108, 101] (pSkip P [102, 108, 97, 103] (pSkip P [110, 117, 109] s).2).2).2)).1) (by simp (maxDischargeDepth := 8) [results, Tryz.results24, go_sem, lineV, cz5]) rfl ⟨_, _, by rw [HP.out], ?_, by rw [HP.out]; exact (by repeat (with_reducible first | exact HC5.out | refine Ctx.alloc ?_ _ | refine Ctx.drew ?_ | refine Ctx.set ?_ (by first | exact n0) (by first | exact m0))), (by repeat (with_reducible first | exact HT5.out | refine Keeps.new ?_ | refine Keeps.drew ?_ | refine Keeps.set ?_ (by first | exact Nat.le_refl _ | exact Nat.le_add_right _ _)))⟩
  rw [HP.out]
  exact ⟨World.ownsRow_nil _ _ _ _, World.ownsRow_nil _ _ _ _⟩

theorem line_s (w : World) (R g cap : Nat) (P : List PT) (s : St) (h : CtxS w R g cap P s) :
    Calls Tryz.prog 24 #[.pointer (some ⟨R, 0, none⟩)] w fun e w' => ∃ sv nv, e = .returned (lineV sv nv (pLine P s).1) ∧ LineRows w' w.heap.size sv nv (pLine P s).1 ∧ CtxS w' R g cap P (pLine P s).2 ∧ Keeps w.heap.size R w w' := by
  cases h1 : (pSkip P [110, 117, 109] s).1
  · cases h2 : (pSkip P [102, 108, 97, 103] (pSkip P [110, 117, 109] s).2).1
    · cases h3 : (pSkip P [114, 117, 108, 101] (pSkip P [102, 108, 97, 103] (pSkip P [110, 117, 109] s).2).2).1
      · exact line_over w R g cap P s h h1 h2 h3
      · exact line_rule w R g cap P s h h1 h2 h3
    · exact line_flag w R g cap P s h h1 h2
  · exact line_num w R g cap P s h h1
end Go.Proofs.YtnbpdffdnphbeaaGreat
