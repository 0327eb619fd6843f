/- What numLine, flagLine and overLine of the reader give. -/
import Derived.Test.YtnbpdffdnphbeaaGreatFact
namespace Go.Proofs.YtnbpdffdnphbeaaGreat
open Go.RowKit

structure PLine where
  kind : Int
  name : Bs
  low : Int
  high : Int
  conc : Bs
  sum : List PPart
  nd : List PNode
  root : Int
  tests : Int
  dep : Int
  lower : Bs

def lineV (sv nv : Value) (x : PLine) : Value := .agg #[.int .i64 x.kind, .string ⟨x.name.toArray⟩, .int .i64 x.low, .int .i64 x.high, .string ⟨x.conc.toArray⟩, sv, nv, .int .i64 x.root, .int .i64 x.tests, .int .i64 x.dep, .string ⟨x.lower.toArray⟩]

def pNumLine (P : List PT) (s : St) : PLine × St := (⟨1, (pName P s).1, (pNumber P (pName P s).2).1, (pNumber P (pWant P [46, 46] (pNumber P (pName P s).2).2)).1, [], [], [], 0, 0, 0, []⟩, (pWant P [59] (pNumber P (pWant P [46, 46] (pNumber P (pName P s).2).2)).2))
def pFlagLine (P : List PT) (s : St) : PLine × St := (⟨2, (pName P s).1, 0, 0, [], [], [], 0, 0, 0, []⟩, (pWant P [59] (pName P s).2))
def pOverLine (P : List PT) (s : St) : PLine × St := (⟨4, (pName P s).1, 0, 0, [], [], [], 0, 0, 0, (pName P (pName P s).2).1⟩, (pWant P [59] (pName P (pName P s).2).2))

set_option maxHeartbeats 1000000 in
theorem numLine_s (w : World) (R g cap : Nat) (P : List PT) (s : St) (h : CtxS w R g cap P s) :
    Calls Tryz.prog 42 #[.pointer (some ⟨R, 0, none⟩)] w fun e w' => e = .returned (lineV (.slice none 0 0) (.slice none 0 0) (pNumLine P s).1) ∧ CtxS w' R g cap P (pNumLine P s).2 ∧ Keeps w.heap.size R w w' := by
  have hR := h.rlt
  have hg := h.glt
  have n0 : w.heap.size ≠ R := by omega
  have n1 : w.heap.size + 1 ≠ R := by omega
  have m0 : w.heap.size ≠ g := by omega
  have m1 : w.heap.size + 1 ≠ g := by omega
  have HC0 := hideP2 h
  clear h
  go_enter Tryz.func42, Tryz.ntmps42
  go_wp2_with fail
  refine (name_s R g cap P _ s (by repeat (with_reducible first | exact HC0.out | refine Ctx.alloc ?_ _ | refine Ctx.drew ?_ | refine Ctx.set ?_ (by first | exact n0 | exact n1) (by first | exact m0 | exact m1)))).mono ?_
  rintro e w1 ⟨rfl, hc1, hk1⟩
  have HC1 := hideP2 hc1
  have HT1 : Hid (Keeps w.heap.size R w w1) := Keeps.step (by repeat (with_reducible first | exact Keeps.refl _ _ _ | refine Keeps.new ?_ | refine Keeps.drew ?_ | refine Keeps.set ?_ (by first | exact Nat.le_refl _ | exact Nat.le_add_right _ _))) hk1
  have q1_0 := fun o => hk1.cell (p := ⟨w.heap.size, o, none⟩) (by simp; try omega) n0
  have r1_0 := fun o => hk1.frozen (p := ⟨w.heap.size, o, none⟩) (by simp; try omega) n0
  have z1_0 : w.heap.size < w1.heap.size := Nat.lt_of_lt_of_le (by simp; try omega) hk1.size
  have q1_1 := fun o => hk1.cell (p := ⟨w.heap.size + 1, o, none⟩) (by simp; try omega) n1
  have r1_1 := fun o => hk1.frozen (p := ⟨w.heap.size + 1, o, none⟩) (by simp; try omega) n1
  have z1_1 : w.heap.size + 1 < w1.heap.size := Nat.lt_of_lt_of_le (by simp; try omega) hk1.size
  have b1 : w1.heap[w.heap.size]? = some (.cells #[.int .i64 0, .string ⟨#[]⟩, .int .i64 0, .int .i64 0, .string ⟨#[]⟩, .slice none 0 0, .slice none 0 0, .int .i64 0, .int .i64 0, .int .i64 0, .string ⟨#[]⟩] 83 (0, 0)) := hb_keeps (by repeat (with_reducible first | exact hb_end _ _ | refine hb_new ?_ | refine hb_drew ?_ | refine hb_set ?_ (by first | fail | exact (by omega : w.heap.size ≠ w.heap.size + 1)))) hk1 n0
  clear hc1 hk1
  go_wp2_with fail
  refine (number_s R g cap P _ (pName P s).2 (by repeat (with_reducible first | exact HC1.out | refine Ctx.alloc ?_ _ | refine Ctx.drew ?_ | refine Ctx.set ?_ (by first | exact n0 | exact n1) (by first | exact m0 | exact m1)))).mono ?_
  rintro e w2 ⟨rfl, hc2, hk2⟩
  have HC2 := hideP2 hc2
  have HT2 : Hid (Keeps w.heap.size R w w2) := Keeps.step (by repeat (with_reducible first | exact HT1.out | refine Keeps.new ?_ | refine Keeps.drew ?_ | refine Keeps.set ?_ (by first | exact Nat.le_refl _ | exact Nat.le_add_right _ _))) hk2
  have q2_0 := fun o => hk2.cell (p := ⟨w.heap.size, o, none⟩) (by repeat (with_reducible first | exact z1_0 | exact lt_end _ _ | refine lt_set ?_ | refine lt_new ?_ | refine lt_drew ?_)) n0
  have r2_0 := fun o => hk2.frozen (p := ⟨w.heap.size, o, none⟩) (by repeat (with_reducible first | exact z1_0 | exact lt_end _ _ | refine lt_set ?_ | refine lt_new ?_ | refine lt_drew ?_)) n0
  have z2_0 : w.heap.size < w2.heap.size := Nat.lt_of_lt_of_le (by repeat (with_reducible first | exact z1_0 | exact lt_end _ _ | refine lt_set ?_ | refine lt_new ?_ | refine lt_drew ?_)) hk2.size
  have q2_1 := fun o => hk2.cell (p := ⟨w.heap.size + 1, o, none⟩) (by repeat (with_reducible first | exact z1_1 | exact lt_end _ _ | refine lt_set ?_ | refine lt_new ?_ | refine lt_drew ?_)) n1
  have r2_1 := fun o => hk2.frozen (p := ⟨w.heap.size + 1, o, none⟩) (by repeat (with_reducible first | exact z1_1 | exact lt_end _ _ | refine lt_set ?_ | refine lt_new ?_ | refine lt_drew ?_)) n1
  have z2_1 : w.heap.size + 1 < w2.heap.size := Nat.lt_of_lt_of_le (by repeat (with_reducible first | exact z1_1 | exact lt_end _ _ | refine lt_set ?_ | refine lt_new ?_ | refine lt_drew ?_)) hk2.size
  have b2 : w2.heap[w.heap.size]? = some (.cells #[.int .i64 0, .string ⟨#[]⟩, .int .i64 0, .int .i64 0, .string ⟨#[]⟩, .slice none 0 0, .slice none 0 0, .int .i64 0, .int .i64 0, .int .i64 0, .string ⟨#[]⟩] 83 (0, 0)) := hb_keeps (by repeat (with_reducible first | exact b1 | refine hb_new ?_ | refine hb_drew ?_ | refine hb_set ?_ (by first | fail | exact (by omega : w.heap.size ≠ w.heap.size + 1)))) hk2 n0
  clear hc2 hk2
  go_wp2_with fail
  refine (want_s R g cap P _ (pNumber P (pName P s).2).2 [46, 46] (by repeat (with_reducible first | exact HC2.out | refine Ctx.alloc ?_ _ | refine Ctx.drew ?_ | refine Ctx.set ?_ (by first | exact n0 | exact n1) (by first | exact m0 | exact m1)))).mono ?_
  rintro e w3 ⟨rfl, hc3, hk3⟩
  have HC3 := hideP2 hc3
  have HT3 : Hid (Keeps w.heap.size R w w3) := Keeps.step (by repeat (with_reducible first | exact HT2.out | refine Keeps.new ?_ | refine Keeps.drew ?_ | refine Keeps.set ?_ (by first | exact Nat.le_refl _ | exact Nat.le_add_right _ _))) hk3
  have q3_0 := fun o => hk3.cell (p := ⟨w.heap.size, o, none⟩) (by repeat (with_reducible first | exact z2_0 | exact lt_end _ _ | refine lt_set ?_ | refine lt_new ?_ | refine lt_drew ?_)) n0
  have r3_0 := fun o => hk3.frozen (p := ⟨w.heap.size, o, none⟩) (by repeat (with_reducible first | exact z2_0 | exact lt_end _ _ | refine lt_set ?_ | refine lt_new ?_ | refine lt_drew ?_)) n0
  have z3_0 : w.heap.size < w3.heap.size := Nat.lt_of_lt_of_le (by repeat (with_reducible first | exact z2_0 | exact lt_end _ _ | refine lt_set ?_ | refine lt_new ?_ | refine lt_drew ?_)) hk3.size
  have q3_1 := fun o => hk3.cell (p := ⟨w.heap.size + 1, o, none⟩) (by repeat (with_reducible first | exact z2_1 | exact lt_end _ _ | refine lt_set ?_ | refine lt_new ?_ | refine lt_drew ?_)) n1
  have r3_1 := fun o => hk3.frozen (p := ⟨w.heap.size + 1, o, none⟩) (by repeat (with_reducible first | exact z2_1 | exact lt_end _ _ | refine lt_set ?_ | refine lt_new ?_ | refine lt_drew ?_)) n1
  have z3_1 : w.heap.size + 1 < w3.heap.size := Nat.lt_of_lt_of_le (by repeat (with_reducible first | exact z2_1 | exact lt_end _ _ | refine lt_set ?_ | refine lt_new ?_ | refine lt_drew ?_)) hk3.size
  have b3 : w3.heap[w.heap.size]? = some (.cells #[.int .i64 0, .string ⟨#[]⟩, .int .i64 0, .int .i64 0, .string ⟨#[]⟩, .slice none 0 0, .slice none 0 0, .int .i64 0, .int .i64 0, .int .i64 0, .string ⟨#[]⟩] 83 (0, 0)) := hb_keeps (by repeat (with_reducible first | exact b2 | refine hb_new ?_ | refine hb_drew ?_ | refine hb_set ?_ (by first | fail | exact (by omega : w.heap.size ≠ w.heap.size + 1)))) hk3 n0
  clear hc3 hk3
  go_wp2_with fail
  refine (number_s R g cap P _ (pWant P [46, 46] (pNumber P (pName P s).2).2) (by repeat (with_reducible first | exact HC3.out | refine Ctx.alloc ?_ _ | refine Ctx.drew ?_ | refine Ctx.set ?_ (by first | exact n0 | exact n1) (by first | exact m0 | exact m1)))).mono ?_
  rintro e w4 ⟨rfl, hc4, hk4⟩
  have HC4 := hideP2 hc4
  have HT4 : Hid (Keeps w.heap.size R w w4) := Keeps.step (by repeat (with_reducible first | exact HT3.out | refine Keeps.new ?_ | refine Keeps.drew ?_ | refine Keeps.set ?_ (by first | exact Nat.le_refl _ | exact Nat.le_add_right _ _))) hk4
  have q4_0 := fun o => hk4.cell (p := ⟨w.heap.size, o, none⟩) (by repeat (with_reducible first | exact z3_0 | exact lt_end _ _ | refine lt_set ?_ | refine lt_new ?_ | refine lt_drew ?_)) n0
  have r4_0 := fun o => hk4.frozen (p := ⟨w.heap.size, o, none⟩) (by repeat (with_reducible first | exact z3_0 | exact lt_end _ _ | refine lt_set ?_ | refine lt_new ?_ | refine lt_drew ?_)) n0
  have z4_0 : w.heap.size < w4.heap.size := Nat.lt_of_lt_of_le (by repeat (with_reducible first | exact z3_0 | exact lt_end _ _ | refine lt_set ?_ | refine lt_new ?_ | refine lt_drew ?_)) hk4.size
  have q4_1 := fun o => hk4.cell (p := ⟨w.heap.size + 1, o, none⟩) (by repeat (with_reducible first | exact z3_1 | exact lt_end _ _ | refine lt_set ?_ | refine lt_new ?_ | refine lt_drew ?_)) n1
  have r4_1 := fun o => hk4.frozen (p := ⟨w.heap.size + 1, o, none⟩) (by repeat (with_reducible first | exact z3_1 | exact lt_end _ _ | refine lt_set ?_ | refine lt_new ?_ | refine lt_drew ?_)) n1
  have z4_1 : w.heap.size + 1 < w4.heap.size := Nat.lt_of_lt_of_le (by repeat (with_reducible first | exact z3_1 | exact lt_end _ _ | refine lt_set ?_ | refine lt_new ?_ | refine lt_drew ?_)) hk4.size
  have b4 : w4.heap[w.heap.size]? = some (.cells #[.int .i64 0, .string ⟨#[]⟩, .int .i64 0, .int .i64 0, .string ⟨#[]⟩, .slice none 0 0, .slice none 0 0, .int .i64 0, .int .i64 0, .int .i64 0, .string ⟨#[]⟩] 83 (0, 0)) := hb_keeps (by repeat (with_reducible first | exact b3 | refine hb_new ?_ | refine hb_drew ?_ | refine hb_set ?_ (by first | fail | exact (by omega : w.heap.size ≠ w.heap.size + 1)))) hk4 n0
  clear hc4 hk4
  go_wp2_with fail
  refine (want_s R g cap P _ (pNumber P (pWant P [46, 46] (pNumber P (pName P s).2).2)).2 [59] (by repeat (with_reducible first | exact HC4.out | refine Ctx.alloc ?_ _ | refine Ctx.drew ?_ | refine Ctx.set ?_ (by first | exact n0 | exact n1) (by first | exact m0 | exact m1)))).mono ?_
  rintro e w5 ⟨rfl, hc5, hk5⟩
  have HC5 := hideP2 hc5
  have HT5 : Hid (Keeps w.heap.size R w w5) := Keeps.step (by repeat (with_reducible first | exact HT4.out | refine Keeps.new ?_ | refine Keeps.drew ?_ | refine Keeps.set ?_ (by first | exact Nat.le_refl _ | exact Nat.le_add_right _ _))) hk5
  have q5_0 := fun o => hk5.cell (p := ⟨w.heap.size, o, none⟩) (by repeat (with_reducible first | exact z4_0 | exact lt_end _ _ | refine lt_set ?_ | refine lt_new ?_ | refine lt_drew ?_)) n0
  have r5_0 := fun o => hk5.frozen (p := ⟨w.heap.size, o, none⟩) (by repeat (with_reducible first | exact z4_0 | exact lt_end _ _ | refine lt_set ?_ | refine lt_new ?_ | refine lt_drew ?_)) n0
  have z5_0 : w.heap.size < w5.heap.size := Nat.lt_of_lt_of_le (by repeat (with_reducible first | exact z4_0 | exact lt_end _ _ | refine lt_set ?_ | refine lt_new ?_ | refine lt_drew ?_)) hk5.size
  have q5_1 := fun o => hk5.cell (p := ⟨w.heap.size + 1, o, none⟩) (by repeat (with_reducible first | exact z4_1 | exact lt_end _ _ | refine lt_set ?_ | refine lt_new ?_ | refine lt_drew ?_)) n1
  have r5_1 := fun o => hk5.frozen (p := ⟨w.heap.size + 1, o, none⟩) (by repeat (with_reducible first | exact z4_1 | exact lt_end _ _ | refine lt_set ?_ | refine lt_new ?_ | refine lt_drew ?_)) n1
  have z5_1 : w.heap.size + 1 < w5.heap.size := Nat.lt_of_lt_of_le (by repeat (with_reducible first | exact z4_1 | exact lt_end _ _ | refine lt_set ?_ | refine lt_new ?_ | refine lt_drew ?_)) hk5.size
  have b5 : w5.heap[w.heap.size]? = some (.cells #[.int .i64 0, .string ⟨#[]⟩, .int .i64 0, .int .i64 0, .string ⟨#[]⟩, .slice none 0 0, .slice none 0 0, .int .i64 0, .int .i64 0, .int .i64 0, .string ⟨#[]⟩] 83 (0, 0)) := hb_keeps (by repeat (with_reducible first | exact b4 | refine hb_new ?_ | refine hb_drew ?_ | refine hb_set ?_ (by first | fail | exact (by omega : w.heap.size ≠ w.heap.size + 1)))) hk5 n0
  clear hc5 hk5
  go_wp2_with fail
  have cz5 := fun j => cell_of_row _ _ j _ _ _ b5
  refine bodyPost_ret (v := lineV (.slice none 0 0) (.slice none 0 0) ⟨1, (pName P s).1, (pNumber P (pName P s).2).1, (pNumber P (pWant P [46, 46] (pNumber P (pName P s).2).2)).1, [], [], [], 0, 0, 0, []⟩) (by simp (maxDischargeDepth := 8) [results, Tryz.results42, go_sem, lineV, cz5]) rfl ⟨rfl, show CtxS _ R g cap P (pWant P [59] (pNumber P (pWant P [46, 46] (pNumber P (pName P s).2).2)).2) from (by repeat (with_reducible first | exact HC5.out | refine Ctx.alloc ?_ _ | refine Ctx.drew ?_ | refine Ctx.set ?_ (by first | exact n0 | exact n1) (by first | exact m0 | exact m1))), (by repeat (with_reducible first | exact HT5.out | refine Keeps.new ?_ | refine Keeps.drew ?_ | refine Keeps.set ?_ (by first | exact Nat.le_refl _ | exact Nat.le_add_right _ _)))⟩

set_option maxHeartbeats 1000000 in
theorem flagLine_s (w : World) (R g cap : Nat) (P : List PT) (s : St) (h : CtxS w R g cap P s) :
    Calls Tryz.prog 43 #[.pointer (some ⟨R, 0, none⟩)] w fun e w' => e = .returned (lineV (.slice none 0 0) (.slice none 0 0) (pFlagLine P s).1) ∧ CtxS w' R g cap P (pFlagLine P s).2 ∧ Keeps w.heap.size R w w' := by
  have hR := h.rlt
  have hg := h.glt
  have n0 : w.heap.size ≠ R := by omega
  have n1 : w.heap.size + 1 ≠ R := by omega
  have m0 : w.heap.size ≠ g := by omega
  have m1 : w.heap.size + 1 ≠ g := by omega
  have HC0 := hideP2 h
  clear h
  go_enter Tryz.func43, Tryz.ntmps43
  go_wp2_with fail
  refine (name_s R g cap P _ s (by repeat (with_reducible first | exact HC0.out | refine Ctx.alloc ?_ _ | refine Ctx.drew ?_ | refine Ctx.set ?_ (by first | exact n0 | exact n1) (by first | exact m0 | exact m1)))).mono ?_
  rintro e w1 ⟨rfl, hc1, hk1⟩
  have HC1 := hideP2 hc1
  have HT1 : Hid (Keeps w.heap.size R w w1) := Keeps.step (by repeat (with_reducible first | exact Keeps.refl _ _ _ | refine Keeps.new ?_ | refine Keeps.drew ?_ | refine Keeps.set ?_ (by first | exact Nat.le_refl _ | exact Nat.le_add_right _ _))) hk1
  have q1_0 := fun o => hk1.cell (p := ⟨w.heap.size, o, none⟩) (by simp; try omega) n0
  have r1_0 := fun o => hk1.frozen (p := ⟨w.heap.size, o, none⟩) (by simp; try omega) n0
  have z1_0 : w.heap.size < w1.heap.size := Nat.lt_of_lt_of_le (by simp; try omega) hk1.size
  have q1_1 := fun o => hk1.cell (p := ⟨w.heap.size + 1, o, none⟩) (by simp; try omega) n1
  have r1_1 := fun o => hk1.frozen (p := ⟨w.heap.size + 1, o, none⟩) (by simp; try omega) n1
  have z1_1 : w.heap.size + 1 < w1.heap.size := Nat.lt_of_lt_of_le (by simp; try omega) hk1.size
  have b1 : w1.heap[w.heap.size]? = some (.cells #[.int .i64 0, .string ⟨#[]⟩, .int .i64 0, .int .i64 0, .string ⟨#[]⟩, .slice none 0 0, .slice none 0 0, .int .i64 0, .int .i64 0, .int .i64 0, .string ⟨#[]⟩] 83 (0, 0)) := hb_keeps (by repeat (with_reducible first | exact hb_end _ _ | refine hb_new ?_ | refine hb_drew ?_ | refine hb_set ?_ (by first | fail | exact (by omega : w.heap.size ≠ w.heap.size + 1)))) hk1 n0
  clear hc1 hk1
  go_wp2_with fail
  refine (want_s R g cap P _ (pName P s).2 [59] (by repeat (with_reducible first | exact HC1.out | refine Ctx.alloc ?_ _ | refine Ctx.drew ?_ | refine Ctx.set ?_ (by first | exact n0 | exact n1) (by first | exact m0 | exact m1)))).mono ?_
  rintro e w2 ⟨rfl, hc2, hk2⟩
  have HC2 := hideP2 hc2
  have HT2 : Hid (Keeps w.heap.size R w w2) := Keeps.step (by repeat (with_reducible first | exact HT1.out | refine Keeps.new ?_ | refine Keeps.drew ?_ | refine Keeps.set ?_ (by first | exact Nat.le_refl _ | exact Nat.le_add_right _ _))) hk2
  have q2_0 := fun o => hk2.cell (p := ⟨w.heap.size, o, none⟩) (by repeat (with_reducible first | exact z1_0 | exact lt_end _ _ | refine lt_set ?_ | refine lt_new ?_ | refine lt_drew ?_)) n0
  have r2_0 := fun o => hk2.frozen (p := ⟨w.heap.size, o, none⟩) (by repeat (with_reducible first | exact z1_0 | exact lt_end _ _ | refine lt_set ?_ | refine lt_new ?_ | refine lt_drew ?_)) n0
  have z2_0 : w.heap.size < w2.heap.size := Nat.lt_of_lt_of_le (by repeat (with_reducible first | exact z1_0 | exact lt_end _ _ | refine lt_set ?_ | refine lt_new ?_ | refine lt_drew ?_)) hk2.size
  have q2_1 := fun o => hk2.cell (p := ⟨w.heap.size + 1, o, none⟩) (by repeat (with_reducible first | exact z1_1 | exact lt_end _ _ | refine lt_set ?_ | refine lt_new ?_ | refine lt_drew ?_)) n1
  have r2_1 := fun o => hk2.frozen (p := ⟨w.heap.size + 1, o, none⟩) (by repeat (with_reducible first | exact z1_1 | exact lt_end _ _ | refine lt_set ?_ | refine lt_new ?_ | refine lt_drew ?_)) n1
  have z2_1 : w.heap.size + 1 < w2.heap.size := Nat.lt_of_lt_of_le (by repeat (with_reducible first | exact z1_1 | exact lt_end _ _ | refine lt_set ?_ | refine lt_new ?_ | refine lt_drew ?_)) hk2.size
  have b2 : w2.heap[w.heap.size]? = some (.cells #[.int .i64 0, .string ⟨#[]⟩, .int .i64 0, .int .i64 0, .string ⟨#[]⟩, .slice none 0 0, .slice none 0 0, .int .i64 0, .int .i64 0, .int .i64 0, .string ⟨#[]⟩] 83 (0, 0)) := hb_keeps (by repeat (with_reducible first | exact b1 | refine hb_new ?_ | refine hb_drew ?_ | refine hb_set ?_ (by first | fail | exact (by omega : w.heap.size ≠ w.heap.size + 1)))) hk2 n0
  clear hc2 hk2
  go_wp2_with fail
  have cz2 := fun j => cell_of_row _ _ j _ _ _ b2
  refine bodyPost_ret (v := lineV (.slice none 0 0) (.slice none 0 0) ⟨2, (pName P s).1, 0, 0, [], [], [], 0, 0, 0, []⟩) (by simp (maxDischargeDepth := 8) [results, Tryz.results43, go_sem, lineV, cz2]) rfl ⟨rfl, show CtxS _ R g cap P (pWant P [59] (pName P s).2) from (by repeat (with_reducible first | exact HC2.out | refine Ctx.alloc ?_ _ | refine Ctx.drew ?_ | refine Ctx.set ?_ (by first | exact n0 | exact n1) (by first | exact m0 | exact m1))), (by repeat (with_reducible first | exact HT2.out | refine Keeps.new ?_ | refine Keeps.drew ?_ | refine Keeps.set ?_ (by first | exact Nat.le_refl _ | exact Nat.le_add_right _ _)))⟩

set_option maxHeartbeats 1000000 in
theorem overLine_s (w : World) (R g cap : Nat) (P : List PT) (s : St) (h : CtxS w R g cap P s) :
    Calls Tryz.prog 46 #[.pointer (some ⟨R, 0, none⟩)] w fun e w' => e = .returned (lineV (.slice none 0 0) (.slice none 0 0) (pOverLine P s).1) ∧ CtxS w' R g cap P (pOverLine P s).2 ∧ Keeps w.heap.size R w w' := by
  have hR := h.rlt
  have hg := h.glt
  have n0 : w.heap.size ≠ R := by omega
  have n1 : w.heap.size + 1 ≠ R := by omega
  have m0 : w.heap.size ≠ g := by omega
  have m1 : w.heap.size + 1 ≠ g := by omega
  have HC0 := hideP2 h
  clear h
  go_enter Tryz.func46, Tryz.ntmps46
  go_wp2_with fail
  refine (name_s R g cap P _ s (by repeat (with_reducible first | exact HC0.out | refine Ctx.alloc ?_ _ | refine Ctx.drew ?_ | refine Ctx.set ?_ (by first | exact n0 | exact n1) (by first | exact m0 | exact m1)))).mono ?_
  rintro e w1 ⟨rfl, hc1, hk1⟩
  have HC1 := hideP2 hc1
  have HT1 : Hid (Keeps w.heap.size R w w1) := Keeps.step (by repeat (with_reducible first | exact Keeps.refl _ _ _ | refine Keeps.new ?_ | refine Keeps.drew ?_ | refine Keeps.set ?_ (by first | exact Nat.le_refl _ | exact Nat.le_add_right _ _))) hk1
  have q1_0 := fun o => hk1.cell (p := ⟨w.heap.size, o, none⟩) (by simp; try omega) n0
  have r1_0 := fun o => hk1.frozen (p := ⟨w.heap.size, o, none⟩) (by simp; try omega) n0
  have z1_0 : w.heap.size < w1.heap.size := Nat.lt_of_lt_of_le (by simp; try omega) hk1.size
  have q1_1 := fun o => hk1.cell (p := ⟨w.heap.size + 1, o, none⟩) (by simp; try omega) n1
  have r1_1 := fun o => hk1.frozen (p := ⟨w.heap.size + 1, o, none⟩) (by simp; try omega) n1
  have z1_1 : w.heap.size + 1 < w1.heap.size := Nat.lt_of_lt_of_le (by simp; try omega) hk1.size
  have b1 : w1.heap[w.heap.size]? = some (.cells #[.int .i64 0, .string ⟨#[]⟩, .int .i64 0, .int .i64 0, .string ⟨#[]⟩, .slice none 0 0, .slice none 0 0, .int .i64 0, .int .i64 0, .int .i64 0, .string ⟨#[]⟩] 83 (0, 0)) := hb_keeps (by repeat (with_reducible first | exact hb_end _ _ | refine hb_new ?_ | refine hb_drew ?_ | refine hb_set ?_ (by first | fail | exact (by omega : w.heap.size ≠ w.heap.size + 1)))) hk1 n0
  clear hc1 hk1
  go_wp2_with fail
  refine (name_s R g cap P _ (pName P s).2 (by repeat (with_reducible first | exact HC1.out | refine Ctx.alloc ?_ _ | refine Ctx.drew ?_ | refine Ctx.set ?_ (by first | exact n0 | exact n1) (by first | exact m0 | exact m1)))).mono ?_
  rintro e w2 ⟨rfl, hc2, hk2⟩
  have HC2 := hideP2 hc2
  have HT2 : Hid (Keeps w.heap.size R w w2) := Keeps.step (by repeat (with_reducible first | exact HT1.out | refine Keeps.new ?_ | refine Keeps.drew ?_ | refine Keeps.set ?_ (by first | exact Nat.le_refl _ | exact Nat.le_add_right _ _))) hk2
  have q2_0 := fun o => hk2.cell (p := ⟨w.heap.size, o, none⟩) (by repeat (with_reducible first | exact z1_0 | exact lt_end _ _ | refine lt_set ?_ | refine lt_new ?_ | refine lt_drew ?_)) n0
  have r2_0 := fun o => hk2.frozen (p := ⟨w.heap.size, o, none⟩) (by repeat (with_reducible first | exact z1_0 | exact lt_end _ _ | refine lt_set ?_ | refine lt_new ?_ | refine lt_drew ?_)) n0
  have z2_0 : w.heap.size < w2.heap.size := Nat.lt_of_lt_of_le (by repeat (with_reducible first | exact z1_0 | exact lt_end _ _ | refine lt_set ?_ | refine lt_new ?_ | refine lt_drew ?_)) hk2.size
  have q2_1 := fun o => hk2.cell (p := ⟨w.heap.size + 1, o, none⟩) (by repeat (with_reducible first | exact z1_1 | exact lt_end _ _ | refine lt_set ?_ | refine lt_new ?_ | refine lt_drew ?_)) n1
  have r2_1 := fun o => hk2.frozen (p := ⟨w.heap.size + 1, o, none⟩) (by repeat (with_reducible first | exact z1_1 | exact lt_end _ _ | refine lt_set ?_ | refine lt_new ?_ | refine lt_drew ?_)) n1
  have z2_1 : w.heap.size + 1 < w2.heap.size := Nat.lt_of_lt_of_le (by repeat (with_reducible first | exact z1_1 | exact lt_end _ _ | refine lt_set ?_ | refine lt_new ?_ | refine lt_drew ?_)) hk2.size
  have b2 : w2.heap[w.heap.size]? = some (.cells #[.int .i64 0, .string ⟨#[]⟩, .int .i64 0, .int .i64 0, .string ⟨#[]⟩, .slice none 0 0, .slice none 0 0, .int .i64 0, .int .i64 0, .int .i64 0, .string ⟨#[]⟩] 83 (0, 0)) := hb_keeps (by repeat (with_reducible first | exact b1 | refine hb_new ?_ | refine hb_drew ?_ | refine hb_set ?_ (by first | fail | exact (by omega : w.heap.size ≠ w.heap.size + 1)))) hk2 n0
  clear hc2 hk2
  go_wp2_with fail
  refine (want_s R g cap P _ (pName P (pName P s).2).2 [59] (by repeat (with_reducible first | exact HC2.out | refine Ctx.alloc ?_ _ | refine Ctx.drew ?_ | refine Ctx.set ?_ (by first | exact n0 | exact n1) (by first | exact m0 | exact m1)))).mono ?_
  rintro e w3 ⟨rfl, hc3, hk3⟩
  have HC3 := hideP2 hc3
  have HT3 : Hid (Keeps w.heap.size R w w3) := Keeps.step (by repeat (with_reducible first | exact HT2.out | refine Keeps.new ?_ | refine Keeps.drew ?_ | refine Keeps.set ?_ (by first | exact Nat.le_refl _ | exact Nat.le_add_right _ _))) hk3
  have q3_0 := fun o => hk3.cell (p := ⟨w.heap.size, o, none⟩) (by repeat (with_reducible first | exact z2_0 | exact lt_end _ _ | refine lt_set ?_ | refine lt_new ?_ | refine lt_drew ?_)) n0
  have r3_0 := fun o => hk3.frozen (p := ⟨w.heap.size, o, none⟩) (by repeat (with_reducible first | exact z2_0 | exact lt_end _ _ | refine lt_set ?_ | refine lt_new ?_ | refine lt_drew ?_)) n0
  have z3_0 : w.heap.size < w3.heap.size := Nat.lt_of_lt_of_le (by repeat (with_reducible first | exact z2_0 | exact lt_end _ _ | refine lt_set ?_ | refine lt_new ?_ | refine lt_drew ?_)) hk3.size
  have q3_1 := fun o => hk3.cell (p := ⟨w.heap.size + 1, o, none⟩) (by repeat (with_reducible first | exact z2_1 | exact lt_end _ _ | refine lt_set ?_ | refine lt_new ?_ | refine lt_drew ?_)) n1
  have r3_1 := fun o => hk3.frozen (p := ⟨w.heap.size + 1, o, none⟩) (by repeat (with_reducible first | exact z2_1 | exact lt_end _ _ | refine lt_set ?_ | refine lt_new ?_ | refine lt_drew ?_)) n1
  have z3_1 : w.heap.size + 1 < w3.heap.size := Nat.lt_of_lt_of_le (by repeat (with_reducible first | exact z2_1 | exact lt_end _ _ | refine lt_set ?_ | refine lt_new ?_ | refine lt_drew ?_)) hk3.size
  have b3 : w3.heap[w.heap.size]? = some (.cells #[.int .i64 0, .string ⟨#[]⟩, .int .i64 0, .int .i64 0, .string ⟨#[]⟩, .slice none 0 0, .slice none 0 0, .int .i64 0, .int .i64 0, .int .i64 0, .string ⟨#[]⟩] 83 (0, 0)) := hb_keeps (by repeat (with_reducible first | exact b2 | refine hb_new ?_ | refine hb_drew ?_ | refine hb_set ?_ (by first | fail | exact (by omega : w.heap.size ≠ w.heap.size + 1)))) hk3 n0
  clear hc3 hk3
  go_wp2_with fail
  have cz3 := fun j => cell_of_row _ _ j _ _ _ b3
  refine bodyPost_ret (v := lineV (.slice none 0 0) (.slice none 0 0) ⟨4, (pName P s).1, 0, 0, [], [], [], 0, 0, 0, (pName P (pName P s).2).1⟩) (by simp (maxDischargeDepth := 8) [results, Tryz.results46, go_sem, lineV, cz3]) rfl ⟨rfl, show CtxS _ R g cap P (pWant P [59] (pName P (pName P s).2).2) from (by repeat (with_reducible first | exact HC3.out | refine Ctx.alloc ?_ _ | refine Ctx.drew ?_ | refine Ctx.set ?_ (by first | exact n0 | exact n1) (by first | exact m0 | exact m1))), (by repeat (with_reducible first | exact HT3.out | refine Keeps.new ?_ | refine Keeps.drew ?_ | refine Keeps.set ?_ (by first | exact Nat.le_refl _ | exact Nat.le_add_right _ _)))⟩

end Go.Proofs.YtnbpdffdnphbeaaGreat

/- What ruleLine of the reader gives. -/
namespace Go.Proofs.YtnbpdffdnphbeaaGreat
open Go.RowKit

def pRuleLine (P : List PT) (s : St) : PLine × St := (⟨3, (pName P s).1, 0, 0, (pName P (pWant P [58] (pName P s).2)).1, (pSum P (pWant P [61] (pName P (pWant P [58] (pName P s).2)).2)).1, (pGuard P (pWant P kWhen (pSum P (pWant P [61] (pName P (pWant P [58] (pName P s).2)).2)).2)).2.nd, (pGuard P (pWant P kWhen (pSum P (pWant P [61] (pName P (pWant P [58] (pName P s).2)).2)).2)).1, (pGuard P (pWant P kWhen (pSum P (pWant P [61] (pName P (pWant P [58] (pName P s).2)).2)).2)).2.tests, (pGuard P (pWant P kWhen (pSum P (pWant P [61] (pName P (pWant P [58] (pName P s).2)).2)).2)).2.dep, []⟩, (pWant P [59] (pGuard P (pWant P kWhen (pSum P (pWant P [61] (pName P (pWant P [58] (pName P s).2)).2)).2)).2.s))

theorem own_slice {w : World} {B : Nat} {e : TypeId} {size : Nat} {v : Value} {n : Nat} {xs : List Value} (h : w.ownsRow B e size v n xs) : ∃ a m c, v = .slice a m c := by
  rcases h.2 with ⟨h1, _⟩ | ⟨g, cap, cur, h1, _⟩
  · exact ⟨_, _, _, h1⟩
  · exact ⟨_, _, _, h1⟩

/-- The row of a line's sum and that of its nodes lie in memory, from block B on. -/
def LineRows (w : World) (B : Nat) (sv nv : Value) (x : PLine) : Prop :=
  w.ownsRow B 119 4 sv x.sum.length (flatS x.sum) ∧ w.ownsRow B 122 7 nv x.nd.length (flatN x.nd)

set_option maxHeartbeats 2000000 in
theorem ruleLine_s (w : World) (R g cap : Nat) (P : List PT) (s : St) (h : CtxS w R g cap P s) :
    Calls Tryz.prog 44 #[.pointer (some ⟨R, 0, none⟩)] w fun e w' => ∃ sv nv, e = .returned (lineV sv nv (pRuleLine P s).1) ∧ LineRows w' w.heap.size sv nv (pRuleLine P s).1 ∧ CtxS w' R g cap P (pRuleLine P s).2 ∧ Keeps w.heap.size R w w' := by
  have hR := h.rlt
  have hg := h.glt
  have n0 : w.heap.size ≠ R := by omega
  have n1 : w.heap.size + 1 ≠ R := by omega
  have m0 : w.heap.size ≠ g := by omega
  have m1 : w.heap.size + 1 ≠ g := by omega
  have HC0 := hideP2 h
  clear h
  go_enter Tryz.func44, Tryz.ntmps44
  go_wp2_with fail
  refine (name_s R g cap P _ s (by repeat (with_reducible first | exact HC0.out | refine Ctx.alloc ?_ _ | refine Ctx.drew ?_ | refine Ctx.set ?_ (by first | exact n0 | exact n1) (by first | exact m0 | exact m1)))).mono ?_
  rintro e w1 ⟨rfl, hc1, hk1⟩
  have HC1 := hideP2 hc1
  have HT1 : Hid (Keeps w.heap.size R w w1) := Keeps.step (by repeat (with_reducible first | exact Keeps.refl _ _ _ | refine Keeps.new ?_ | refine Keeps.drew ?_ | refine Keeps.set ?_ (by first | exact Nat.le_refl _ | exact Nat.le_add_right _ _))) hk1
  have q1_0 := fun o => hk1.cell (p := ⟨w.heap.size, o, none⟩) (by simp; try omega) n0
  have r1_0 := fun o => hk1.frozen (p := ⟨w.heap.size, o, none⟩) (by simp; try omega) n0
  have z1_0 : w.heap.size < w1.heap.size := Nat.lt_of_lt_of_le (by simp; try omega) hk1.size
  have q1_1 := fun o => hk1.cell (p := ⟨w.heap.size + 1, o, none⟩) (by simp; try omega) n1
  have r1_1 := fun o => hk1.frozen (p := ⟨w.heap.size + 1, o, none⟩) (by simp; try omega) n1
  have z1_1 : w.heap.size + 1 < w1.heap.size := Nat.lt_of_lt_of_le (by simp; try omega) hk1.size
  have b1 : w1.heap[w.heap.size]? = some (.cells #[.int .i64 0, .string ⟨#[]⟩, .int .i64 0, .int .i64 0, .string ⟨#[]⟩, .slice none 0 0, .slice none 0 0, .int .i64 0, .int .i64 0, .int .i64 0, .string ⟨#[]⟩] 83 (0, 0)) := hb_keeps (by repeat (with_reducible first | exact hb_end _ _ | refine hb_new ?_ | refine hb_drew ?_ | refine hb_set ?_ (by first | fail | exact (by omega : w.heap.size ≠ w.heap.size + 1)))) hk1 n0
  clear hc1 hk1
  go_wp2_with fail
  refine (want_s R g cap P _ (pName P s).2 [58] (by repeat (with_reducible first | exact HC1.out | refine Ctx.alloc ?_ _ | refine Ctx.drew ?_ | refine Ctx.set ?_ (by first | exact n0 | exact n1) (by first | exact m0 | exact m1)))).mono ?_
  rintro e w2 ⟨rfl, hc2, hk2⟩
  have HC2 := hideP2 hc2
  have HT2 : Hid (Keeps w.heap.size R w w2) := Keeps.step (by repeat (with_reducible first | exact HT1.out | refine Keeps.new ?_ | refine Keeps.drew ?_ | refine Keeps.set ?_ (by first | exact Nat.le_refl _ | exact Nat.le_add_right _ _))) hk2
  have q2_0 := fun o => hk2.cell (p := ⟨w.heap.size, o, none⟩) (by repeat (with_reducible first | exact z1_0 | exact lt_end _ _ | refine lt_set ?_ | refine lt_new ?_ | refine lt_drew ?_)) n0
  have r2_0 := fun o => hk2.frozen (p := ⟨w.heap.size, o, none⟩) (by repeat (with_reducible first | exact z1_0 | exact lt_end _ _ | refine lt_set ?_ | refine lt_new ?_ | refine lt_drew ?_)) n0
  have z2_0 : w.heap.size < w2.heap.size := Nat.lt_of_lt_of_le (by repeat (with_reducible first | exact z1_0 | exact lt_end _ _ | refine lt_set ?_ | refine lt_new ?_ | refine lt_drew ?_)) hk2.size
  have q2_1 := fun o => hk2.cell (p := ⟨w.heap.size + 1, o, none⟩) (by repeat (with_reducible first | exact z1_1 | exact lt_end _ _ | refine lt_set ?_ | refine lt_new ?_ | refine lt_drew ?_)) n1
  have r2_1 := fun o => hk2.frozen (p := ⟨w.heap.size + 1, o, none⟩) (by repeat (with_reducible first | exact z1_1 | exact lt_end _ _ | refine lt_set ?_ | refine lt_new ?_ | refine lt_drew ?_)) n1
  have z2_1 : w.heap.size + 1 < w2.heap.size := Nat.lt_of_lt_of_le (by repeat (with_reducible first | exact z1_1 | exact lt_end _ _ | refine lt_set ?_ | refine lt_new ?_ | refine lt_drew ?_)) hk2.size
  have b2 : w2.heap[w.heap.size]? = some (.cells #[.int .i64 0, .string ⟨#[]⟩, .int .i64 0, .int .i64 0, .string ⟨#[]⟩, .slice none 0 0, .slice none 0 0, .int .i64 0, .int .i64 0, .int .i64 0, .string ⟨#[]⟩] 83 (0, 0)) := hb_keeps (by repeat (with_reducible first | exact b1 | refine hb_new ?_ | refine hb_drew ?_ | refine hb_set ?_ (by first | fail | exact (by omega : w.heap.size ≠ w.heap.size + 1)))) hk2 n0
  clear hc2 hk2
  go_wp2_with fail
  refine (name_s R g cap P _ (pWant P [58] (pName P s).2) (by repeat (with_reducible first | exact HC2.out | refine Ctx.alloc ?_ _ | refine Ctx.drew ?_ | refine Ctx.set ?_ (by first | exact n0 | exact n1) (by first | exact m0 | exact m1)))).mono ?_
  rintro e w3 ⟨rfl, hc3, hk3⟩
  have HC3 := hideP2 hc3
  have HT3 : Hid (Keeps w.heap.size R w w3) := Keeps.step (by repeat (with_reducible first | exact HT2.out | refine Keeps.new ?_ | refine Keeps.drew ?_ | refine Keeps.set ?_ (by first | exact Nat.le_refl _ | exact Nat.le_add_right _ _))) hk3
  have q3_0 := fun o => hk3.cell (p := ⟨w.heap.size, o, none⟩) (by repeat (with_reducible first | exact z2_0 | exact lt_end _ _ | refine lt_set ?_ | refine lt_new ?_ | refine lt_drew ?_)) n0
  have r3_0 := fun o => hk3.frozen (p := ⟨w.heap.size, o, none⟩) (by repeat (with_reducible first | exact z2_0 | exact lt_end _ _ | refine lt_set ?_ | refine lt_new ?_ | refine lt_drew ?_)) n0
  have z3_0 : w.heap.size < w3.heap.size := Nat.lt_of_lt_of_le (by repeat (with_reducible first | exact z2_0 | exact lt_end _ _ | refine lt_set ?_ | refine lt_new ?_ | refine lt_drew ?_)) hk3.size
  have q3_1 := fun o => hk3.cell (p := ⟨w.heap.size + 1, o, none⟩) (by repeat (with_reducible first | exact z2_1 | exact lt_end _ _ | refine lt_set ?_ | refine lt_new ?_ | refine lt_drew ?_)) n1
  have r3_1 := fun o => hk3.frozen (p := ⟨w.heap.size + 1, o, none⟩) (by repeat (with_reducible first | exact z2_1 | exact lt_end _ _ | refine lt_set ?_ | refine lt_new ?_ | refine lt_drew ?_)) n1
  have z3_1 : w.heap.size + 1 < w3.heap.size := Nat.lt_of_lt_of_le (by repeat (with_reducible first | exact z2_1 | exact lt_end _ _ | refine lt_set ?_ | refine lt_new ?_ | refine lt_drew ?_)) hk3.size
  have b3 : w3.heap[w.heap.size]? = some (.cells #[.int .i64 0, .string ⟨#[]⟩, .int .i64 0, .int .i64 0, .string ⟨#[]⟩, .slice none 0 0, .slice none 0 0, .int .i64 0, .int .i64 0, .int .i64 0, .string ⟨#[]⟩] 83 (0, 0)) := hb_keeps (by repeat (with_reducible first | exact b2 | refine hb_new ?_ | refine hb_drew ?_ | refine hb_set ?_ (by first | fail | exact (by omega : w.heap.size ≠ w.heap.size + 1)))) hk3 n0
  clear hc3 hk3
  go_wp2_with fail
  refine (want_s R g cap P _ (pName P (pWant P [58] (pName P s).2)).2 [61] (by repeat (with_reducible first | exact HC3.out | refine Ctx.alloc ?_ _ | refine Ctx.drew ?_ | refine Ctx.set ?_ (by first | exact n0 | exact n1) (by first | exact m0 | exact m1)))).mono ?_
  rintro e w4 ⟨rfl, hc4, hk4⟩
  have HC4 := hideP2 hc4
  have HT4 : Hid (Keeps w.heap.size R w w4) := Keeps.step (by repeat (with_reducible first | exact HT3.out | refine Keeps.new ?_ | refine Keeps.drew ?_ | refine Keeps.set ?_ (by first | exact Nat.le_refl _ | exact Nat.le_add_right _ _))) hk4
  have q4_0 := fun o => hk4.cell (p := ⟨w.heap.size, o, none⟩) (by repeat (with_reducible first | exact z3_0 | exact lt_end _ _ | refine lt_set ?_ | refine lt_new ?_ | refine lt_drew ?_)) n0
  have r4_0 := fun o => hk4.frozen (p := ⟨w.heap.size, o, none⟩) (by repeat (with_reducible first | exact z3_0 | exact lt_end _ _ | refine lt_set ?_ | refine lt_new ?_ | refine lt_drew ?_)) n0
  have z4_0 : w.heap.size < w4.heap.size := Nat.lt_of_lt_of_le (by repeat (with_reducible first | exact z3_0 | exact lt_end _ _ | refine lt_set ?_ | refine lt_new ?_ | refine lt_drew ?_)) hk4.size
  have q4_1 := fun o => hk4.cell (p := ⟨w.heap.size + 1, o, none⟩) (by repeat (with_reducible first | exact z3_1 | exact lt_end _ _ | refine lt_set ?_ | refine lt_new ?_ | refine lt_drew ?_)) n1
  have r4_1 := fun o => hk4.frozen (p := ⟨w.heap.size + 1, o, none⟩) (by repeat (with_reducible first | exact z3_1 | exact lt_end _ _ | refine lt_set ?_ | refine lt_new ?_ | refine lt_drew ?_)) n1
  have z4_1 : w.heap.size + 1 < w4.heap.size := Nat.lt_of_lt_of_le (by repeat (with_reducible first | exact z3_1 | exact lt_end _ _ | refine lt_set ?_ | refine lt_new ?_ | refine lt_drew ?_)) hk4.size
  have b4 : w4.heap[w.heap.size]? = some (.cells #[.int .i64 0, .string ⟨#[]⟩, .int .i64 0, .int .i64 0, .string ⟨#[]⟩, .slice none 0 0, .slice none 0 0, .int .i64 0, .int .i64 0, .int .i64 0, .string ⟨#[]⟩] 83 (0, 0)) := hb_keeps (by repeat (with_reducible first | exact b3 | refine hb_new ?_ | refine hb_drew ?_ | refine hb_set ?_ (by first | fail | exact (by omega : w.heap.size ≠ w.heap.size + 1)))) hk4 n0
  clear hc4 hk4
  go_wp2_with fail
  refine (sum_s _ R g cap P (pWant P [61] (pName P (pWant P [58] (pName P s).2)).2) (by repeat (with_reducible first | exact HC4.out | refine Ctx.alloc ?_ _ | refine Ctx.drew ?_ | refine Ctx.set ?_ (by first | exact n0 | exact n1) (by first | exact m0 | exact m1)))).mono ?_
  rintro e w5 ⟨sv, rfl, ho5, hc5, hk5⟩
  obtain ⟨sva, svn, svc, rfl⟩ := own_slice ho5
  have HC5 := hideP2 hc5
  have HT5 : Hid (Keeps w.heap.size R w w5) := Keeps.step (by repeat (with_reducible first | exact HT4.out | refine Keeps.new ?_ | refine Keeps.drew ?_ | refine Keeps.set ?_ (by first | exact Nat.le_refl _ | exact Nat.le_add_right _ _))) hk5
  have q5_0 := fun o => hk5.cell (p := ⟨w.heap.size, o, none⟩) (by repeat (with_reducible first | exact z4_0 | exact lt_end _ _ | refine lt_set ?_ | refine lt_new ?_ | refine lt_drew ?_)) n0
  have r5_0 := fun o => hk5.frozen (p := ⟨w.heap.size, o, none⟩) (by repeat (with_reducible first | exact z4_0 | exact lt_end _ _ | refine lt_set ?_ | refine lt_new ?_ | refine lt_drew ?_)) n0
  have z5_0 : w.heap.size < w5.heap.size := Nat.lt_of_lt_of_le (by repeat (with_reducible first | exact z4_0 | exact lt_end _ _ | refine lt_set ?_ | refine lt_new ?_ | refine lt_drew ?_)) hk5.size
  have q5_1 := fun o => hk5.cell (p := ⟨w.heap.size + 1, o, none⟩) (by repeat (with_reducible first | exact z4_1 | exact lt_end _ _ | refine lt_set ?_ | refine lt_new ?_ | refine lt_drew ?_)) n1
  have r5_1 := fun o => hk5.frozen (p := ⟨w.heap.size + 1, o, none⟩) (by repeat (with_reducible first | exact z4_1 | exact lt_end _ _ | refine lt_set ?_ | refine lt_new ?_ | refine lt_drew ?_)) n1
  have z5_1 : w.heap.size + 1 < w5.heap.size := Nat.lt_of_lt_of_le (by repeat (with_reducible first | exact z4_1 | exact lt_end _ _ | refine lt_set ?_ | refine lt_new ?_ | refine lt_drew ?_)) hk5.size
  have HS5 : Hid (w5.ownsRow (w.heap.size + 2) 119 4 (.slice sva svn svc) (pSum P (pWant P [61] (pName P (pWant P [58] (pName P s).2)).2)).1.length (flatS (pSum P (pWant P [61] (pName P (pWant P [58] (pName P s).2)).2)).1)) := owns_base2 ho5 (Nat.succ_le_of_lt (by repeat (with_reducible first | exact z4_1 | refine lt_set ?_ | refine lt_new ?_)))
  clear ho5
  have b5 : w5.heap[w.heap.size]? = some (.cells #[.int .i64 0, .string ⟨#[]⟩, .int .i64 0, .int .i64 0, .string ⟨#[]⟩, .slice none 0 0, .slice none 0 0, .int .i64 0, .int .i64 0, .int .i64 0, .string ⟨#[]⟩] 83 (0, 0)) := hb_keeps (by repeat (with_reducible first | exact b4 | refine hb_new ?_ | refine hb_drew ?_ | refine hb_set ?_ (by first | fail | exact (by omega : w.heap.size ≠ w.heap.size + 1)))) hk5 n0
  clear hc5 hk5
  go_wp2_with fail
  refine (want_s R g cap P _ (pSum P (pWant P [61] (pName P (pWant P [58] (pName P s).2)).2)).2 kWhen (by repeat (with_reducible first | exact HC5.out | refine Ctx.alloc ?_ _ | refine Ctx.drew ?_ | refine Ctx.set ?_ (by first | exact n0 | exact n1) (by first | exact m0 | exact m1)))).mono ?_
  rintro e w6 ⟨rfl, hc6, hk6⟩
  have HC6 := hideP2 hc6
  have HT6 : Hid (Keeps w.heap.size R w w6) := Keeps.step (by repeat (with_reducible first | exact HT5.out | refine Keeps.new ?_ | refine Keeps.drew ?_ | refine Keeps.set ?_ (by first | exact Nat.le_refl _ | exact Nat.le_add_right _ _))) hk6
  have q6_0 := fun o => hk6.cell (p := ⟨w.heap.size, o, none⟩) (by repeat (with_reducible first | exact z5_0 | exact lt_end _ _ | refine lt_set ?_ | refine lt_new ?_ | refine lt_drew ?_)) n0
  have r6_0 := fun o => hk6.frozen (p := ⟨w.heap.size, o, none⟩) (by repeat (with_reducible first | exact z5_0 | exact lt_end _ _ | refine lt_set ?_ | refine lt_new ?_ | refine lt_drew ?_)) n0
  have z6_0 : w.heap.size < w6.heap.size := Nat.lt_of_lt_of_le (by repeat (with_reducible first | exact z5_0 | exact lt_end _ _ | refine lt_set ?_ | refine lt_new ?_ | refine lt_drew ?_)) hk6.size
  have q6_1 := fun o => hk6.cell (p := ⟨w.heap.size + 1, o, none⟩) (by repeat (with_reducible first | exact z5_1 | exact lt_end _ _ | refine lt_set ?_ | refine lt_new ?_ | refine lt_drew ?_)) n1
  have r6_1 := fun o => hk6.frozen (p := ⟨w.heap.size + 1, o, none⟩) (by repeat (with_reducible first | exact z5_1 | exact lt_end _ _ | refine lt_set ?_ | refine lt_new ?_ | refine lt_drew ?_)) n1
  have z6_1 : w.heap.size + 1 < w6.heap.size := Nat.lt_of_lt_of_le (by repeat (with_reducible first | exact z5_1 | exact lt_end _ _ | refine lt_set ?_ | refine lt_new ?_ | refine lt_drew ?_)) hk6.size
  have HS6 : Hid (w6.ownsRow (w.heap.size + 2) 119 4 (.slice sva svn svc) (pSum P (pWant P [61] (pName P (pWant P [58] (pName P s).2)).2)).1.length (flatS (pSum P (pWant P [61] (pName P (pWant P [58] (pName P s).2)).2)).1)) := owns_keeps (by repeat (with_reducible first | exact HS5.out | refine owns_set ?_ (by omega))) hk6 (by omega)
  have b6 : w6.heap[w.heap.size]? = some (.cells #[.int .i64 0, .string ⟨#[]⟩, .int .i64 0, .int .i64 0, .string ⟨#[]⟩, .slice none 0 0, .slice none 0 0, .int .i64 0, .int .i64 0, .int .i64 0, .string ⟨#[]⟩] 83 (0, 0)) := hb_keeps (by repeat (with_reducible first | exact b5 | refine hb_new ?_ | refine hb_drew ?_ | refine hb_set ?_ (by first | fail | exact (by omega : w.heap.size ≠ w.heap.size + 1)))) hk6 n0
  clear hc6 hk6
  go_wp2_with fail
  refine (guard_s _ R g cap P (pWant P kWhen (pSum P (pWant P [61] (pName P (pWant P [58] (pName P s).2)).2)).2) (by repeat (with_reducible first | exact HC6.out | refine Ctx.alloc ?_ _ | refine Ctx.drew ?_ | refine Ctx.set ?_ (by first | exact n0 | exact n1) (by first | exact m0 | exact m1)))).mono ?_
  rintro e w7 ⟨nv, rfl, ho7, hc7, hk7⟩
  obtain ⟨nva, nvn, nvc, rfl⟩ := own_slice ho7
  unfold guardV
  have HC7 := hideP2 hc7
  have HT7 : Hid (Keeps w.heap.size R w w7) := Keeps.step (by repeat (with_reducible first | exact HT6.out | refine Keeps.new ?_ | refine Keeps.drew ?_ | refine Keeps.set ?_ (by first | exact Nat.le_refl _ | exact Nat.le_add_right _ _))) hk7
  have q7_0 := fun o => hk7.cell (p := ⟨w.heap.size, o, none⟩) (by repeat (with_reducible first | exact z6_0 | exact lt_end _ _ | refine lt_set ?_ | refine lt_new ?_ | refine lt_drew ?_)) n0
  have r7_0 := fun o => hk7.frozen (p := ⟨w.heap.size, o, none⟩) (by repeat (with_reducible first | exact z6_0 | exact lt_end _ _ | refine lt_set ?_ | refine lt_new ?_ | refine lt_drew ?_)) n0
  have z7_0 : w.heap.size < w7.heap.size := Nat.lt_of_lt_of_le (by repeat (with_reducible first | exact z6_0 | exact lt_end _ _ | refine lt_set ?_ | refine lt_new ?_ | refine lt_drew ?_)) hk7.size
  have q7_1 := fun o => hk7.cell (p := ⟨w.heap.size + 1, o, none⟩) (by repeat (with_reducible first | exact z6_1 | exact lt_end _ _ | refine lt_set ?_ | refine lt_new ?_ | refine lt_drew ?_)) n1
  have r7_1 := fun o => hk7.frozen (p := ⟨w.heap.size + 1, o, none⟩) (by repeat (with_reducible first | exact z6_1 | exact lt_end _ _ | refine lt_set ?_ | refine lt_new ?_ | refine lt_drew ?_)) n1
  have z7_1 : w.heap.size + 1 < w7.heap.size := Nat.lt_of_lt_of_le (by repeat (with_reducible first | exact z6_1 | exact lt_end _ _ | refine lt_set ?_ | refine lt_new ?_ | refine lt_drew ?_)) hk7.size
  have HS7 : Hid (w7.ownsRow (w.heap.size + 2) 119 4 (.slice sva svn svc) (pSum P (pWant P [61] (pName P (pWant P [58] (pName P s).2)).2)).1.length (flatS (pSum P (pWant P [61] (pName P (pWant P [58] (pName P s).2)).2)).1)) := owns_keeps (by repeat (with_reducible first | exact HS6.out | refine owns_set ?_ (by omega))) hk7 (by omega)
  have HN7 : Hid (w7.ownsRow (w.heap.size + 2) 122 7 (.slice nva nvn nvc) (pGuard P (pWant P kWhen (pSum P (pWant P [61] (pName P (pWant P [58] (pName P s).2)).2)).2)).2.nd.length (flatN (pGuard P (pWant P kWhen (pSum P (pWant P [61] (pName P (pWant P [58] (pName P s).2)).2)).2)).2.nd)) := owns_base2 ho7 (Nat.succ_le_of_lt (by repeat (with_reducible first | exact z6_1 | refine lt_set ?_ | refine lt_new ?_)))
  clear ho7
  have b7 : w7.heap[w.heap.size]? = some (.cells #[.int .i64 0, .string ⟨#[]⟩, .int .i64 0, .int .i64 0, .string ⟨#[]⟩, .slice none 0 0, .slice none 0 0, .int .i64 0, .int .i64 0, .int .i64 0, .string ⟨#[]⟩] 83 (0, 0)) := hb_keeps (by repeat (with_reducible first | exact b6 | refine hb_new ?_ | refine hb_drew ?_ | refine hb_set ?_ (by first | fail | exact (by omega : w.heap.size ≠ w.heap.size + 1)))) hk7 n0
  clear hc7 hk7
  go_wp2_with fail
  refine (want_s R g cap P _ (pGuard P (pWant P kWhen (pSum P (pWant P [61] (pName P (pWant P [58] (pName P s).2)).2)).2)).2.s [59] (by repeat (with_reducible first | exact HC7.out | refine Ctx.alloc ?_ _ | refine Ctx.drew ?_ | refine Ctx.set ?_ (by first | exact n0 | exact n1) (by first | exact m0 | exact m1)))).mono ?_
  rintro e w8 ⟨rfl, hc8, hk8⟩
  have HC8 := hideP2 hc8
  have HT8 : Hid (Keeps w.heap.size R w w8) := Keeps.step (by repeat (with_reducible first | exact HT7.out | refine Keeps.new ?_ | refine Keeps.drew ?_ | refine Keeps.set ?_ (by first | exact Nat.le_refl _ | exact Nat.le_add_right _ _))) hk8
  have q8_0 := fun o => hk8.cell (p := ⟨w.heap.size, o, none⟩) (by repeat (with_reducible first | exact z7_0 | exact lt_end _ _ | refine lt_set ?_ | refine lt_new ?_ | refine lt_drew ?_)) n0
  have r8_0 := fun o => hk8.frozen (p := ⟨w.heap.size, o, none⟩) (by repeat (with_reducible first | exact z7_0 | exact lt_end _ _ | refine lt_set ?_ | refine lt_new ?_ | refine lt_drew ?_)) n0
  have z8_0 : w.heap.size < w8.heap.size := Nat.lt_of_lt_of_le (by repeat (with_reducible first | exact z7_0 | exact lt_end _ _ | refine lt_set ?_ | refine lt_new ?_ | refine lt_drew ?_)) hk8.size
  have q8_1 := fun o => hk8.cell (p := ⟨w.heap.size + 1, o, none⟩) (by repeat (with_reducible first | exact z7_1 | exact lt_end _ _ | refine lt_set ?_ | refine lt_new ?_ | refine lt_drew ?_)) n1
  have r8_1 := fun o => hk8.frozen (p := ⟨w.heap.size + 1, o, none⟩) (by repeat (with_reducible first | exact z7_1 | exact lt_end _ _ | refine lt_set ?_ | refine lt_new ?_ | refine lt_drew ?_)) n1
  have z8_1 : w.heap.size + 1 < w8.heap.size := Nat.lt_of_lt_of_le (by repeat (with_reducible first | exact z7_1 | exact lt_end _ _ | refine lt_set ?_ | refine lt_new ?_ | refine lt_drew ?_)) hk8.size
  have HS8 : Hid (w8.ownsRow (w.heap.size + 2) 119 4 (.slice sva svn svc) (pSum P (pWant P [61] (pName P (pWant P [58] (pName P s).2)).2)).1.length (flatS (pSum P (pWant P [61] (pName P (pWant P [58] (pName P s).2)).2)).1)) := owns_keeps (by repeat (with_reducible first | exact HS7.out | refine owns_set ?_ (by omega))) hk8 (by omega)
  have HN8 : Hid (w8.ownsRow (w.heap.size + 2) 122 7 (.slice nva nvn nvc) (pGuard P (pWant P kWhen (pSum P (pWant P [61] (pName P (pWant P [58] (pName P s).2)).2)).2)).2.nd.length (flatN (pGuard P (pWant P kWhen (pSum P (pWant P [61] (pName P (pWant P [58] (pName P s).2)).2)).2)).2.nd)) := owns_keeps (by repeat (with_reducible first | exact HN7.out | refine owns_set ?_ (by omega))) hk8 (by omega)
  have b8 : w8.heap[w.heap.size]? = some (.cells #[.int .i64 0, .string ⟨#[]⟩, .int .i64 0, .int .i64 0, .string ⟨#[]⟩, .slice none 0 0, .slice none 0 0, .int .i64 0, .int .i64 0, .int .i64 0, .string ⟨#[]⟩] 83 (0, 0)) := hb_keeps (by repeat (with_reducible first | exact b7 | refine hb_new ?_ | refine hb_drew ?_ | refine hb_set ?_ (by first | fail | exact (by omega : w.heap.size ≠ w.heap.size + 1)))) hk8 n0
  clear hc8 hk8
  go_wp2_with fail
  have cz8 := fun j => cell_of_row _ _ j _ _ _ b8
  refine bodyPost_ret (v := lineV (.slice sva svn svc) (.slice nva nvn nvc) ⟨3, (pName P s).1, 0, 0, (pName P (pWant P [58] (pName P s).2)).1, (pSum P (pWant P [61] (pName P (pWant P [58] (pName P s).2)).2)).1, (pGuard P (pWant P kWhen (pSum P (pWant P [61] (pName P (pWant P [58] (pName P s).2)).2)).2)).2.nd, (pGuard P (pWant P kWhen (pSum P (pWant P [61] (pName P (pWant P [58] (pName P s).2)).2)).2)).1, (pGuard P (pWant P kWhen (pSum P (pWant P [61] (pName P (pWant P [58] (pName P s).2)).2)).2)).2.tests, (pGuard P (pWant P kWhen (pSum P (pWant P [61] (pName P (pWant P [58] (pName P s).2)).2)).2)).2.dep, []⟩) (by simp (maxDischargeDepth := 8) [results, Tryz.results44, go_sem, lineV, cz8]) rfl ⟨_, _, rfl, ⟨?_, ?_⟩, show CtxS _ R g cap P (pWant P [59] (pGuard P (pWant P kWhen (pSum P (pWant P [61] (pName P (pWant P [58] (pName P s).2)).2)).2)).2.s) from (by repeat (with_reducible first | exact HC8.out | refine Ctx.alloc ?_ _ | refine Ctx.drew ?_ | refine Ctx.set ?_ (by first | exact n0 | exact n1) (by first | exact m0 | exact m1))), (by repeat (with_reducible first | exact HT8.out | refine Keeps.new ?_ | refine Keeps.drew ?_ | refine Keeps.set ?_ (by first | exact Nat.le_refl _ | exact Nat.le_add_right _ _)))⟩
  · refine owns_base2 (b := w.heap.size + 2) ?_ (Nat.le_add_right _ 2)
    repeat (with_reducible refine owns_set ?_ (by omega))
    exact HS8.out
  · refine owns_base2 (b := w.heap.size + 2) ?_ (Nat.le_add_right _ 2)
    repeat (with_reducible refine owns_set ?_ (by omega))
    exact HN8.out
end Go.Proofs.YtnbpdffdnphbeaaGreat
