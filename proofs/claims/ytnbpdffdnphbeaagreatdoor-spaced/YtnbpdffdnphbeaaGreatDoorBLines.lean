/- What numLine, flagLine and overLine of the reader give. -/
import Derived.Test.YtnbpdffdnphbeaaGreatDoorFact
namespace Go.Proofs.YtnbpdffdnphbeaaGreatDoor
open Go.RowKit

structure PLine where
  kind : Int
  name : Bs
  low : Int
  high : Int
  conc : Bs
  sum : List PPart
  nd : List PNode
  root : Int
  tests : Int
  dep : Int
  lower : Bs

def lineV (sv nv : Value) (x : PLine) : Value := .agg #[.int .i64 x.kind, .string ⟨x.name.toArray⟩, .int .i64 x.low, .int .i64 x.high, .string ⟨x.conc.toArray⟩, sv, nv, .int .i64 x.root, .int .i64 x.tests, .int .i64 x.dep, .string ⟨x.lower.toArray⟩]

def pNumLine (P : List PT) (s : St) : PLine × St := (⟨1, (pName P s).1, (pNumber P (pName P s).2).1, (pNumber P (pWant P [46, 46] (pNumber P (pName P s).2).2)).1, [], [], [], 0, 0, 0, []⟩, (pWant P [59] (pNumber P (pWant P [46, 46] (pNumber P (pName P s).2).2)).2))
def pFlagLine (P : List PT) (s : St) : PLine × St := (⟨2, (pName P s).1, 0, 0, [], [], [], 0, 0, 0, []⟩, (pWant P [59] (pName P s).2))
def pOverLine (P : List PT) (s : St) : PLine × St := (⟨4, (pName P s).1, 0, 0, [], [], [], 0, 0, 0, (pName P (pName P s).2).1⟩, (pWant P [59] (pName P (pName P s).2).2))

set_option maxHeartbeats 1000000 in
theorem numLine_s (w : World) (R g cap : Nat) (P : List PT) (s : St) (h : CtxS w R g cap P s) :
    Calls Tryz.prog 149 #[.pointer (some ⟨R, 0, none⟩)] w fun e w' => e = .returned (lineV (.slice none 0 0) (.slice none 0 0) (pNumLine P s).1) ∧ CtxS w' R g cap P (pNumLine P s).2 ∧ Keeps w.heap.size R w w' := by
  have hR := h.rlt
  have hg := h.glt
  have n0 : w.heap.size ≠ R := by omega
  have n1 : w.heap.size + 1 ≠ R := by omega
  have m0 : w.heap.size ≠ g := by omega
  have m1 : w.heap.size + 1 ≠ g := by omega
  have HC0 := hideP2 h
  clear h
  go_enter Tryz.func149, Tryz.ntmps149
  go_wp2_with fail
  refine (name_s R g cap P _ s (Ctx.alloc (Ctx.alloc HC0.out _) _)).mono ?_
  rintro e w1 ⟨rfl, hc1, hk1⟩
  have HC1 := hideP2 hc1
  have HT1 : Hid (Keeps w.heap.size R w w1) := Keeps.step (Keeps.new (Keeps.new (Keeps.refl _ _ _))) hk1
  have q1_0 := fun o => hk1.cell (p := ⟨w.heap.size, o, none⟩) (by simp; try omega) n0
  have r1_0 := fun o => hk1.frozen (p := ⟨w.heap.size, o, none⟩) (by simp; try omega) n0
  have z1_0 : w.heap.size < w1.heap.size := Nat.lt_of_lt_of_le (by simp; try omega) hk1.size
  have q1_1 := fun o => hk1.cell (p := ⟨w.heap.size + 1, o, none⟩) (by simp; try omega) n1
  have r1_1 := fun o => hk1.frozen (p := ⟨w.heap.size + 1, o, none⟩) (by simp; try omega) n1
  have z1_1 : w.heap.size + 1 < w1.heap.size := Nat.lt_of_lt_of_le (by simp; try omega) hk1.size
  have b1 : w1.heap[w.heap.size]? = some (.cells #[.int .i64 0, .string ⟨#[]⟩, .int .i64 0, .int .i64 0, .string ⟨#[]⟩, .slice none 0 0, .slice none 0 0, .int .i64 0, .int .i64 0, .int .i64 0, .string ⟨#[]⟩] 234 (0, 0)) := hb_keeps (hb_new (hb_end _ _)) hk1 n0
  clear hc1 hk1
  go_wp2_with fail
  refine (number_s R g cap P _ (pName P s).2 (Ctx.set HC1.out n1 m1)).mono ?_
  rintro e w2 ⟨rfl, hc2, hk2⟩
  have HC2 := hideP2 hc2
  have HT2 : Hid (Keeps w.heap.size R w w2) := Keeps.step (Keeps.set HT1.out (Nat.le_add_right _ _)) hk2
  have q2_0 := fun o => hk2.cell (p := ⟨w.heap.size, o, none⟩) (lt_set z1_0) n0
  have r2_0 := fun o => hk2.frozen (p := ⟨w.heap.size, o, none⟩) (lt_set z1_0) n0
  have z2_0 : w.heap.size < w2.heap.size := Nat.lt_of_lt_of_le (lt_set z1_0) hk2.size
  have q2_1 := fun o => hk2.cell (p := ⟨w.heap.size + 1, o, none⟩) (lt_set z1_1) n1
  have r2_1 := fun o => hk2.frozen (p := ⟨w.heap.size + 1, o, none⟩) (lt_set z1_1) n1
  have z2_1 : w.heap.size + 1 < w2.heap.size := Nat.lt_of_lt_of_le (lt_set z1_1) hk2.size
  have b2 : w2.heap[w.heap.size]? = some (.cells #[.int .i64 0, .string ⟨#[]⟩, .int .i64 0, .int .i64 0, .string ⟨#[]⟩, .slice none 0 0, .slice none 0 0, .int .i64 0, .int .i64 0, .int .i64 0, .string ⟨#[]⟩] 234 (0, 0)) := hb_keeps (hb_set b1 ((by omega : w.heap.size ≠ w.heap.size + 1))) hk2 n0
  clear hc2 hk2
  go_wp2_with fail
  refine (want_s R g cap P _ (pNumber P (pName P s).2).2 [46, 46] (Ctx.set HC2.out n1 m1)).mono ?_
  rintro e w3 ⟨rfl, hc3, hk3⟩
  have HC3 := hideP2 hc3
  have HT3 : Hid (Keeps w.heap.size R w w3) := Keeps.step (Keeps.set HT2.out (Nat.le_add_right _ _)) hk3
  have q3_0 := fun o => hk3.cell (p := ⟨w.heap.size, o, none⟩) (lt_set z2_0) n0
  have r3_0 := fun o => hk3.frozen (p := ⟨w.heap.size, o, none⟩) (lt_set z2_0) n0
  have z3_0 : w.heap.size < w3.heap.size := Nat.lt_of_lt_of_le (lt_set z2_0) hk3.size
  have q3_1 := fun o => hk3.cell (p := ⟨w.heap.size + 1, o, none⟩) (lt_set z2_1) n1
  have r3_1 := fun o => hk3.frozen (p := ⟨w.heap.size + 1, o, none⟩) (lt_set z2_1) n1
  have z3_1 : w.heap.size + 1 < w3.heap.size := Nat.lt_of_lt_of_le (lt_set z2_1) hk3.size
  have b3 : w3.heap[w.heap.size]? = some (.cells #[.int .i64 0, .string ⟨#[]⟩, .int .i64 0, .int .i64 0, .string ⟨#[]⟩, .slice none 0 0, .slice none 0 0, .int .i64 0, .int .i64 0, .int .i64 0, .string ⟨#[]⟩] 234 (0, 0)) := hb_keeps (hb_set b2 ((by omega : w.heap.size ≠ w.heap.size + 1))) hk3 n0
  clear hc3 hk3
  go_wp2_with fail
  refine (number_s R g cap P _ (pWant P [46, 46] (pNumber P (pName P s).2).2) HC3.out).mono ?_
  rintro e w4 ⟨rfl, hc4, hk4⟩
  have HC4 := hideP2 hc4
  have HT4 : Hid (Keeps w.heap.size R w w4) := Keeps.step HT3.out hk4
  have q4_0 := fun o => hk4.cell (p := ⟨w.heap.size, o, none⟩) z3_0 n0
  have r4_0 := fun o => hk4.frozen (p := ⟨w.heap.size, o, none⟩) z3_0 n0
  have z4_0 : w.heap.size < w4.heap.size := Nat.lt_of_lt_of_le z3_0 hk4.size
  have q4_1 := fun o => hk4.cell (p := ⟨w.heap.size + 1, o, none⟩) z3_1 n1
  have r4_1 := fun o => hk4.frozen (p := ⟨w.heap.size + 1, o, none⟩) z3_1 n1
  have z4_1 : w.heap.size + 1 < w4.heap.size := Nat.lt_of_lt_of_le z3_1 hk4.size
  have b4 : w4.heap[w.heap.size]? = some (.cells #[.int .i64 0, .string ⟨#[]⟩, .int .i64 0, .int .i64 0, .string ⟨#[]⟩, .slice none 0 0, .slice none 0 0, .int .i64 0, .int .i64 0, .int .i64 0, .string ⟨#[]⟩] 234 (0, 0)) := hb_keeps b3 hk4 n0
  clear hc4 hk4
  go_wp2_with fail
  refine (want_s R g cap P _ (pNumber P (pWant P [46, 46] (pNumber P (pName P s).2).2)).2 [59] (Ctx.set HC4.out n1 m1)).mono ?_
  rintro e w5 ⟨rfl, hc5, hk5⟩
  have HC5 := hideP2 hc5
  have HT5 : Hid (Keeps w.heap.size R w w5) := Keeps.step (Keeps.set HT4.out (Nat.le_add_right _ _)) hk5
  have q5_0 := fun o => hk5.cell (p := ⟨w.heap.size, o, none⟩) (lt_set z4_0) n0
  have r5_0 := fun o => hk5.frozen (p := ⟨w.heap.size, o, none⟩) (lt_set z4_0) n0
  have z5_0 : w.heap.size < w5.heap.size := Nat.lt_of_lt_of_le (lt_set z4_0) hk5.size
  have q5_1 := fun o => hk5.cell (p := ⟨w.heap.size + 1, o, none⟩) (lt_set z4_1) n1
  have r5_1 := fun o => hk5.frozen (p := ⟨w.heap.size + 1, o, none⟩) (lt_set z4_1) n1
  have z5_1 : w.heap.size + 1 < w5.heap.size := Nat.lt_of_lt_of_le (lt_set z4_1) hk5.size
  have b5 : w5.heap[w.heap.size]? = some (.cells #[.int .i64 0, .string ⟨#[]⟩, .int .i64 0, .int .i64 0, .string ⟨#[]⟩, .slice none 0 0, .slice none 0 0, .int .i64 0, .int .i64 0, .int .i64 0, .string ⟨#[]⟩] 234 (0, 0)) := hb_keeps (hb_set b4 ((by omega : w.heap.size ≠ w.heap.size + 1))) hk5 n0
  clear hc5 hk5
  go_wp2_with fail
  have cz5 := fun j => cell_of_row _ _ j _ _ _ b5
  refine bodyPost_ret (v := lineV (.slice none 0 0) (.slice none 0 0) ⟨1, (pName P s).1, (pNumber P (pName P s).2).1, (pNumber P (pWant P [46, 46] (pNumber P (pName P s).2).2)).1, [], [], [], 0, 0, 0, []⟩) (by simp (maxDischargeDepth := 8) [results, Tryz.results149, go_sem, lineV, cz5]) rfl ⟨rfl, show CtxS _ R g cap P (pWant P [59] (pNumber P (pWant P [46, 46] (pNumber P (pName P s).2).2)).2) from (Ctx.set (Ctx.set (Ctx.set (Ctx.set (Ctx.set (Ctx.set (Ctx.set (Ctx.set (Ctx.set (Ctx.set (Ctx.set HC5.out n0 m0) n0 m0) n0 m0) n0 m0) n0 m0) n0 m0) n0 m0) n0 m0) n0 m0) n0 m0) n0 m0), (Keeps.set (Keeps.set (Keeps.set (Keeps.set (Keeps.set (Keeps.set (Keeps.set (Keeps.set (Keeps.set (Keeps.set (Keeps.set HT5.out (Nat.le_refl _)) (Nat.le_refl _)) (Nat.le_refl _)) (Nat.le_refl _)) (Nat.le_refl _)) (Nat.le_refl _)) (Nat.le_refl _)) (Nat.le_refl _)) (Nat.le_refl _)) (Nat.le_refl _)) (Nat.le_refl _))⟩

set_option maxHeartbeats 1000000 in
theorem flagLine_s (w : World) (R g cap : Nat) (P : List PT) (s : St) (h : CtxS w R g cap P s) :
    Calls Tryz.prog 150 #[.pointer (some ⟨R, 0, none⟩)] w fun e w' => e = .returned (lineV (.slice none 0 0) (.slice none 0 0) (pFlagLine P s).1) ∧ CtxS w' R g cap P (pFlagLine P s).2 ∧ Keeps w.heap.size R w w' := by
  have hR := h.rlt
  have hg := h.glt
  have n0 : w.heap.size ≠ R := by omega
  have n1 : w.heap.size + 1 ≠ R := by omega
  have m0 : w.heap.size ≠ g := by omega
  have m1 : w.heap.size + 1 ≠ g := by omega
  have HC0 := hideP2 h
  clear h
  go_enter Tryz.func150, Tryz.ntmps150
  go_wp2_with fail
  refine (name_s R g cap P _ s (Ctx.alloc (Ctx.alloc HC0.out _) _)).mono ?_
  rintro e w1 ⟨rfl, hc1, hk1⟩
  have HC1 := hideP2 hc1
  have HT1 : Hid (Keeps w.heap.size R w w1) := Keeps.step (Keeps.new (Keeps.new (Keeps.refl _ _ _))) hk1
  have q1_0 := fun o => hk1.cell (p := ⟨w.heap.size, o, none⟩) (by simp; try omega) n0
  have r1_0 := fun o => hk1.frozen (p := ⟨w.heap.size, o, none⟩) (by simp; try omega) n0
  have z1_0 : w.heap.size < w1.heap.size := Nat.lt_of_lt_of_le (by simp; try omega) hk1.size
  have q1_1 := fun o => hk1.cell (p := ⟨w.heap.size + 1, o, none⟩) (by simp; try omega) n1
  have r1_1 := fun o => hk1.frozen (p := ⟨w.heap.size + 1, o, none⟩) (by simp; try omega) n1
  have z1_1 : w.heap.size + 1 < w1.heap.size := Nat.lt_of_lt_of_le (by simp; try omega) hk1.size
  have b1 : w1.heap[w.heap.size]? = some (.cells #[.int .i64 0, .string ⟨#[]⟩, .int .i64 0, .int .i64 0, .string ⟨#[]⟩, .slice none 0 0, .slice none 0 0, .int .i64 0, .int .i64 0, .int .i64 0, .string ⟨#[]⟩] 234 (0, 0)) := hb_keeps (hb_new (hb_end _ _)) hk1 n0
  clear hc1 hk1
  go_wp2_with fail
  refine (want_s R g cap P _ (pName P s).2 [59] (Ctx.set HC1.out n1 m1)).mono ?_
  rintro e w2 ⟨rfl, hc2, hk2⟩
  have HC2 := hideP2 hc2
  have HT2 : Hid (Keeps w.heap.size R w w2) := Keeps.step (Keeps.set HT1.out (Nat.le_add_right _ _)) hk2
  have q2_0 := fun o => hk2.cell (p := ⟨w.heap.size, o, none⟩) (lt_set z1_0) n0
  have r2_0 := fun o => hk2.frozen (p := ⟨w.heap.size, o, none⟩) (lt_set z1_0) n0
  have z2_0 : w.heap.size < w2.heap.size := Nat.lt_of_lt_of_le (lt_set z1_0) hk2.size
  have q2_1 := fun o => hk2.cell (p := ⟨w.heap.size + 1, o, none⟩) (lt_set z1_1) n1
  have r2_1 := fun o => hk2.frozen (p := ⟨w.heap.size + 1, o, none⟩) (lt_set z1_1) n1
  have z2_1 : w.heap.size + 1 < w2.heap.size := Nat.lt_of_lt_of_le (lt_set z1_1) hk2.size
  have b2 : w2.heap[w.heap.size]? = some (.cells #[.int .i64 0, .string ⟨#[]⟩, .int .i64 0, .int .i64 0, .string ⟨#[]⟩, .slice none 0 0, .slice none 0 0, .int .i64 0, .int .i64 0, .int .i64 0, .string ⟨#[]⟩] 234 (0, 0)) := hb_keeps (hb_set b1 ((by omega : w.heap.size ≠ w.heap.size + 1))) hk2 n0
  clear hc2 hk2
  go_wp2_with fail
  have cz2 := fun j => cell_of_row _ _ j _ _ _ b2
  refine bodyPost_ret (v := lineV (.slice none 0 0) (.slice none 0 0) ⟨2, (pName P s).1, 0, 0, [], [], [], 0, 0, 0, []⟩) (by simp (maxDischargeDepth := 8) [results, Tryz.results150, go_sem, lineV, cz2]) rfl ⟨rfl, show CtxS _ R g cap P (pWant P [59] (pName P s).2) from (Ctx.set (Ctx.set (Ctx.set (Ctx.set (Ctx.set (Ctx.set (Ctx.set (Ctx.set (Ctx.set (Ctx.set (Ctx.set HC2.out n0 m0) n0 m0) n0 m0) n0 m0) n0 m0) n0 m0) n0 m0) n0 m0) n0 m0) n0 m0) n0 m0), (Keeps.set (Keeps.set (Keeps.set (Keeps.set (Keeps.set (Keeps.set (Keeps.set (Keeps.set (Keeps.set (Keeps.set (Keeps.set HT2.out (Nat.le_refl _)) (Nat.le_refl _)) (Nat.le_refl _)) (Nat.le_refl _)) (Nat.le_refl _)) (Nat.le_refl _)) (Nat.le_refl _)) (Nat.le_refl _)) (Nat.le_refl _)) (Nat.le_refl _)) (Nat.le_refl _))⟩

set_option maxHeartbeats 1000000 in
theorem overLine_s (w : World) (R g cap : Nat) (P : List PT) (s : St) (h : CtxS w R g cap P s) :
    Calls Tryz.prog 153 #[.pointer (some ⟨R, 0, none⟩)] w fun e w' => e = .returned (lineV (.slice none 0 0) (.slice none 0 0) (pOverLine P s).1) ∧ CtxS w' R g cap P (pOverLine P s).2 ∧ Keeps w.heap.size R w w' := by
  have hR := h.rlt
  have hg := h.glt
  have n0 : w.heap.size ≠ R := by omega
  have n1 : w.heap.size + 1 ≠ R := by omega
  have m0 : w.heap.size ≠ g := by omega
  have m1 : w.heap.size + 1 ≠ g := by omega
  have HC0 := hideP2 h
  clear h
  go_enter Tryz.func153, Tryz.ntmps153
  go_wp2_with fail
  refine (name_s R g cap P _ s (Ctx.alloc (Ctx.alloc HC0.out _) _)).mono ?_
  rintro e w1 ⟨rfl, hc1, hk1⟩
  have HC1 := hideP2 hc1
  have HT1 : Hid (Keeps w.heap.size R w w1) := Keeps.step (Keeps.new (Keeps.new (Keeps.refl _ _ _))) hk1
  have q1_0 := fun o => hk1.cell (p := ⟨w.heap.size, o, none⟩) (by simp; try omega) n0
  have r1_0 := fun o => hk1.frozen (p := ⟨w.heap.size, o, none⟩) (by simp; try omega) n0
  have z1_0 : w.heap.size < w1.heap.size := Nat.lt_of_lt_of_le (by simp; try omega) hk1.size
  have q1_1 := fun o => hk1.cell (p := ⟨w.heap.size + 1, o, none⟩) (by simp; try omega) n1
  have r1_1 := fun o => hk1.frozen (p := ⟨w.heap.size + 1, o, none⟩) (by simp; try omega) n1
  have z1_1 : w.heap.size + 1 < w1.heap.size := Nat.lt_of_lt_of_le (by simp; try omega) hk1.size
  have b1 : w1.heap[w.heap.size]? = some (.cells #[.int .i64 0, .string ⟨#[]⟩, .int .i64 0, .int .i64 0, .string ⟨#[]⟩, .slice none 0 0, .slice none 0 0, .int .i64 0, .int .i64 0, .int .i64 0, .string ⟨#[]⟩] 234 (0, 0)) := hb_keeps (hb_new (hb_end _ _)) hk1 n0
  clear hc1 hk1
  go_wp2_with fail
  refine (name_s R g cap P _ (pName P s).2 (Ctx.set HC1.out n1 m1)).mono ?_
  rintro e w2 ⟨rfl, hc2, hk2⟩
  have HC2 := hideP2 hc2
  have HT2 : Hid (Keeps w.heap.size R w w2) := Keeps.step (Keeps.set HT1.out (Nat.le_add_right _ _)) hk2
  have q2_0 := fun o => hk2.cell (p := ⟨w.heap.size, o, none⟩) (lt_set z1_0) n0
  have r2_0 := fun o => hk2.frozen (p := ⟨w.heap.size, o, none⟩) (lt_set z1_0) n0
  have z2_0 : w.heap.size < w2.heap.size := Nat.lt_of_lt_of_le (lt_set z1_0) hk2.size
  have q2_1 := fun o => hk2.cell (p := ⟨w.heap.size + 1, o, none⟩) (lt_set z1_1) n1
  have r2_1 := fun o => hk2.frozen (p := ⟨w.heap.size + 1, o, none⟩) (lt_set z1_1) n1
  have z2_1 : w.heap.size + 1 < w2.heap.size := Nat.lt_of_lt_of_le (lt_set z1_1) hk2.size
  have b2 : w2.heap[w.heap.size]? = some (.cells #[.int .i64 0, .string ⟨#[]⟩, .int .i64 0, .int .i64 0, .string ⟨#[]⟩, .slice none 0 0, .slice none 0 0, .int .i64 0, .int .i64 0, .int .i64 0, .string ⟨#[]⟩] 234 (0, 0)) := hb_keeps (hb_set b1 ((by omega : w.heap.size ≠ w.heap.size + 1))) hk2 n0
  clear hc2 hk2
  go_wp2_with fail
  refine (want_s R g cap P _ (pName P (pName P s).2).2 [59] (Ctx.set HC2.out n1 m1)).mono ?_
  rintro e w3 ⟨rfl, hc3, hk3⟩
  have HC3 := hideP2 hc3
  have HT3 : Hid (Keeps w.heap.size R w w3) := Keeps.step (Keeps.set HT2.out (Nat.le_add_right _ _)) hk3
  have q3_0 := fun o => hk3.cell (p := ⟨w.heap.size, o, none⟩) (lt_set z2_0) n0
  have r3_0 := fun o => hk3.frozen (p := ⟨w.heap.size, o, none⟩) (lt_set z2_0) n0
  have z3_0 : w.heap.size < w3.heap.size := Nat.lt_of_lt_of_le (lt_set z2_0) hk3.size
  have q3_1 := fun o => hk3.cell (p := ⟨w.heap.size + 1, o, none⟩) (lt_set z2_1) n1
  have r3_1 := fun o => hk3.frozen (p := ⟨w.heap.size + 1, o, none⟩) (lt_set z2_1) n1
  have z3_1 : w.heap.size + 1 < w3.heap.size := Nat.lt_of_lt_of_le (lt_set z2_1) hk3.size
  have b3 : w3.heap[w.heap.size]? = some (.cells #[.int .i64 0, .string ⟨#[]⟩, .int .i64 0, .int .i64 0, .string ⟨#[]⟩, .slice none 0 0, .slice none 0 0, .int .i64 0, .int .i64 0, .int .i64 0, .string ⟨#[]⟩] 234 (0, 0)) := hb_keeps (hb_set b2 ((by omega : w.heap.size ≠ w.heap.size + 1))) hk3 n0
  clear hc3 hk3
  go_wp2_with fail
  have cz3 := fun j => cell_of_row _ _ j _ _ _ b3
  refine bodyPost_ret (v := lineV (.slice none 0 0) (.slice none 0 0) ⟨4, (pName P s).1, 0, 0, [], [], [], 0, 0, 0, (pName P (pName P s).2).1⟩) (by simp (maxDischargeDepth := 8) [results, Tryz.results153, go_sem, lineV, cz3]) rfl ⟨rfl, show CtxS _ R g cap P (pWant P [59] (pName P (pName P s).2).2) from (Ctx.set (Ctx.set (Ctx.set (Ctx.set (Ctx.set (Ctx.set (Ctx.set (Ctx.set (Ctx.set (Ctx.set (Ctx.set HC3.out n0 m0) n0 m0) n0 m0) n0 m0) n0 m0) n0 m0) n0 m0) n0 m0) n0 m0) n0 m0) n0 m0), (Keeps.set (Keeps.set (Keeps.set (Keeps.set (Keeps.set (Keeps.set (Keeps.set (Keeps.set (Keeps.set (Keeps.set (Keeps.set HT3.out (Nat.le_refl _)) (Nat.le_refl _)) (Nat.le_refl _)) (Nat.le_refl _)) (Nat.le_refl _)) (Nat.le_refl _)) (Nat.le_refl _)) (Nat.le_refl _)) (Nat.le_refl _)) (Nat.le_refl _)) (Nat.le_refl _))⟩

end Go.Proofs.YtnbpdffdnphbeaaGreatDoor

/- What ruleLine of the reader gives. -/
namespace Go.Proofs.YtnbpdffdnphbeaaGreatDoor
open Go.RowKit

def pRuleLine (P : List PT) (s : St) : PLine × St := (⟨3, (pName P s).1, 0, 0, (pName P (pWant P [58] (pName P s).2)).1, (pSum P (pWant P [61] (pName P (pWant P [58] (pName P s).2)).2)).1, (pGuard P (pWant P kWhen (pSum P (pWant P [61] (pName P (pWant P [58] (pName P s).2)).2)).2)).2.nd, (pGuard P (pWant P kWhen (pSum P (pWant P [61] (pName P (pWant P [58] (pName P s).2)).2)).2)).1, (pGuard P (pWant P kWhen (pSum P (pWant P [61] (pName P (pWant P [58] (pName P s).2)).2)).2)).2.tests, (pGuard P (pWant P kWhen (pSum P (pWant P [61] (pName P (pWant P [58] (pName P s).2)).2)).2)).2.dep, []⟩, (pWant P [59] (pGuard P (pWant P kWhen (pSum P (pWant P [61] (pName P (pWant P [58] (pName P s).2)).2)).2)).2.s))

theorem own_slice {w : World} {B : Nat} {e : TypeId} {size : Nat} {v : Value} {n : Nat} {xs : List Value} (h : w.ownsRow B e size v n xs) : ∃ a m c, v = .slice a m c := by
  rcases h.2 with ⟨h1, _⟩ | ⟨g, cap, cur, h1, _⟩
  · exact ⟨_, _, _, h1⟩
  · exact ⟨_, _, _, h1⟩

/-- The row of a line's sum and that of its nodes lie in memory, from block B on. -/
def LineRows (w : World) (B : Nat) (sv nv : Value) (x : PLine) : Prop :=
  w.ownsRow B 301 4 sv x.sum.length (flatS x.sum) ∧ w.ownsRow B 304 7 nv x.nd.length (flatN x.nd)

set_option maxHeartbeats 2000000 in
theorem ruleLine_s (w : World) (R g cap : Nat) (P : List PT) (s : St) (h : CtxS w R g cap P s) :
    Calls Tryz.prog 151 #[.pointer (some ⟨R, 0, none⟩)] w fun e w' => ∃ sv nv, e = .returned (lineV sv nv (pRuleLine P s).1) ∧ LineRows w' w.heap.size sv nv (pRuleLine P s).1 ∧ CtxS w' R g cap P (pRuleLine P s).2 ∧ Keeps w.heap.size R w w' := by
  have hR := h.rlt
  have hg := h.glt
  have n0 : w.heap.size ≠ R := by omega
  have n1 : w.heap.size + 1 ≠ R := by omega
  have m0 : w.heap.size ≠ g := by omega
  have m1 : w.heap.size + 1 ≠ g := by omega
  have HC0 := hideP2 h
  clear h
  go_enter Tryz.func151, Tryz.ntmps151
  go_wp2_with fail
  refine (name_s R g cap P _ s (Ctx.alloc (Ctx.alloc HC0.out _) _)).mono ?_
  rintro e w1 ⟨rfl, hc1, hk1⟩
  have HC1 := hideP2 hc1
  have HT1 : Hid (Keeps w.heap.size R w w1) := Keeps.step (Keeps.new (Keeps.new (Keeps.refl _ _ _))) hk1
  have q1_0 := fun o => hk1.cell (p := ⟨w.heap.size, o, none⟩) (by simp; try omega) n0
  have r1_0 := fun o => hk1.frozen (p := ⟨w.heap.size, o, none⟩) (by simp; try omega) n0
  have z1_0 : w.heap.size < w1.heap.size := Nat.lt_of_lt_of_le (by simp; try omega) hk1.size
  have q1_1 := fun o => hk1.cell (p := ⟨w.heap.size + 1, o, none⟩) (by simp; try omega) n1
  have r1_1 := fun o => hk1.frozen (p := ⟨w.heap.size + 1, o, none⟩) (by simp; try omega) n1
  have z1_1 : w.heap.size + 1 < w1.heap.size := Nat.lt_of_lt_of_le (by simp; try omega) hk1.size
  have b1 : w1.heap[w.heap.size]? = some (.cells #[.int .i64 0, .string ⟨#[]⟩, .int .i64 0, .int .i64 0, .string ⟨#[]⟩, .slice none 0 0, .slice none 0 0, .int .i64 0, .int .i64 0, .int .i64 0, .string ⟨#[]⟩] 234 (0, 0)) := hb_keeps (hb_new (hb_end _ _)) hk1 n0
  clear hc1 hk1
  go_wp2_with fail
  refine (want_s R g cap P _ (pName P s).2 [58] (Ctx.set HC1.out n1 m1)).mono ?_
  rintro e w2 ⟨rfl, hc2, hk2⟩
  have HC2 := hideP2 hc2
  have HT2 : Hid (Keeps w.heap.size R w w2) := Keeps.step (Keeps.set HT1.out (Nat.le_add_right _ _)) hk2
  have q2_0 := fun o => hk2.cell (p := ⟨w.heap.size, o, none⟩) (lt_set z1_0) n0
  have r2_0 := fun o => hk2.frozen (p := ⟨w.heap.size, o, none⟩) (lt_set z1_0) n0
  have z2_0 : w.heap.size < w2.heap.size := Nat.lt_of_lt_of_le (lt_set z1_0) hk2.size
  have q2_1 := fun o => hk2.cell (p := ⟨w.heap.size + 1, o, none⟩) (lt_set z1_1) n1
  have r2_1 := fun o => hk2.frozen (p := ⟨w.heap.size + 1, o, none⟩) (lt_set z1_1) n1
  have z2_1 : w.heap.size + 1 < w2.heap.size := Nat.lt_of_lt_of_le (lt_set z1_1) hk2.size
  have b2 : w2.heap[w.heap.size]? = some (.cells #[.int .i64 0, .string ⟨#[]⟩, .int .i64 0, .int .i64 0, .string ⟨#[]⟩, .slice none 0 0, .slice none 0 0, .int .i64 0, .int .i64 0, .int .i64 0, .string ⟨#[]⟩] 234 (0, 0)) := hb_keeps (hb_set b1 ((by omega : w.heap.size ≠ w.heap.size + 1))) hk2 n0
  clear hc2 hk2
  go_wp2_with fail
  refine (name_s R g cap P _ (pWant P [58] (pName P s).2) HC2.out).mono ?_
  rintro e w3 ⟨rfl, hc3, hk3⟩
  have HC3 := hideP2 hc3
  have HT3 : Hid (Keeps w.heap.size R w w3) := Keeps.step HT2.out hk3
  have q3_0 := fun o => hk3.cell (p := ⟨w.heap.size, o, none⟩) z2_0 n0
  have r3_0 := fun o => hk3.frozen (p := ⟨w.heap.size, o, none⟩) z2_0 n0
  have z3_0 : w.heap.size < w3.heap.size := Nat.lt_of_lt_of_le z2_0 hk3.size
  have q3_1 := fun o => hk3.cell (p := ⟨w.heap.size + 1, o, none⟩) z2_1 n1
  have r3_1 := fun o => hk3.frozen (p := ⟨w.heap.size + 1, o, none⟩) z2_1 n1
  have z3_1 : w.heap.size + 1 < w3.heap.size := Nat.lt_of_lt_of_le z2_1 hk3.size
  have b3 : w3.heap[w.heap.size]? = some (.cells #[.int .i64 0, .string ⟨#[]⟩, .int .i64 0, .int .i64 0, .string ⟨#[]⟩, .slice none 0 0, .slice none 0 0, .int .i64 0, .int .i64 0, .int .i64 0, .string ⟨#[]⟩] 234 (0, 0)) := hb_keeps b2 hk3 n0
  clear hc3 hk3
  go_wp2_with fail
  refine (want_s R g cap P _ (pName P (pWant P [58] (pName P s).2)).2 [61] (Ctx.set HC3.out n1 m1)).mono ?_
  rintro e w4 ⟨rfl, hc4, hk4⟩
  have HC4 := hideP2 hc4
  have HT4 : Hid (Keeps w.heap.size R w w4) := Keeps.step (Keeps.set HT3.out (Nat.le_add_right _ _)) hk4
  have q4_0 := fun o => hk4.cell (p := ⟨w.heap.size, o, none⟩) (lt_set z3_0) n0
  have r4_0 := fun o => hk4.frozen (p := ⟨w.heap.size, o, none⟩) (lt_set z3_0) n0
  have z4_0 : w.heap.size < w4.heap.size := Nat.lt_of_lt_of_le (lt_set z3_0) hk4.size
  have q4_1 := fun o => hk4.cell (p := ⟨w.heap.size + 1, o, none⟩) (lt_set z3_1) n1
  have r4_1 := fun o => hk4.frozen (p := ⟨w.heap.size + 1, o, none⟩) (lt_set z3_1) n1
  have z4_1 : w.heap.size + 1 < w4.heap.size := Nat.lt_of_lt_of_le (lt_set z3_1) hk4.size
  have b4 : w4.heap[w.heap.size]? = some (.cells #[.int .i64 0, .string ⟨#[]⟩, .int .i64 0, .int .i64 0, .string ⟨#[]⟩, .slice none 0 0, .slice none 0 0, .int .i64 0, .int .i64 0, .int .i64 0, .string ⟨#[]⟩] 234 (0, 0)) := hb_keeps (hb_set b3 ((by omega : w.heap.size ≠ w.heap.size + 1))) hk4 n0
  clear hc4 hk4
  go_wp2_with fail
  refine (sum_s _ R g cap P (pWant P [61] (pName P (pWant P [58] (pName P s).2)).2) HC4.out).mono ?_
  rintro e w5 ⟨sv, rfl, ho5, hc5, hk5⟩
  obtain ⟨sva, svn, svc, rfl⟩ := own_slice ho5
  have HC5 := hideP2 hc5
  have HT5 : Hid (Keeps w.heap.size R w w5) := Keeps.step HT4.out hk5
  have q5_0 := fun o => hk5.cell (p := ⟨w.heap.size, o, none⟩) z4_0 n0
  have r5_0 := fun o => hk5.frozen (p := ⟨w.heap.size, o, none⟩) z4_0 n0
  have z5_0 : w.heap.size < w5.heap.size := Nat.lt_of_lt_of_le z4_0 hk5.size
  have q5_1 := fun o => hk5.cell (p := ⟨w.heap.size + 1, o, none⟩) z4_1 n1
  have r5_1 := fun o => hk5.frozen (p := ⟨w.heap.size + 1, o, none⟩) z4_1 n1
  have z5_1 : w.heap.size + 1 < w5.heap.size := Nat.lt_of_lt_of_le z4_1 hk5.size
  have HS5 : Hid (w5.ownsRow (w.heap.size + 2) 301 4 (.slice sva svn svc) (pSum P (pWant P [61] (pName P (pWant P [58] (pName P s).2)).2)).1.length (flatS (pSum P (pWant P [61] (pName P (pWant P [58] (pName P s).2)).2)).1)) := owns_base2 ho5 (Nat.succ_le_of_lt z4_1)
  clear ho5
  have b5 : w5.heap[w.heap.size]? = some (.cells #[.int .i64 0, .string ⟨#[]⟩, .int .i64 0, .int .i64 0, .string ⟨#[]⟩, .slice none 0 0, .slice none 0 0, .int .i64 0, .int .i64 0, .int .i64 0, .string ⟨#[]⟩] 234 (0, 0)) := hb_keeps b4 hk5 n0
  clear hc5 hk5
  go_wp2_with fail
  refine (want_s R g cap P _ (pSum P (pWant P [61] (pName P (pWant P [58] (pName P s).2)).2)).2 kWhen (Ctx.set HC5.out n1 m1)).mono ?_
  rintro e w6 ⟨rfl, hc6, hk6⟩
  have HC6 := hideP2 hc6
  have HT6 : Hid (Keeps w.heap.size R w w6) := Keeps.step (Keeps.set HT5.out (Nat.le_add_right _ _)) hk6
  have q6_0 := fun o => hk6.cell (p := ⟨w.heap.size, o, none⟩) (lt_set z5_0) n0
  have r6_0 := fun o => hk6.frozen (p := ⟨w.heap.size, o, none⟩) (lt_set z5_0) n0
  have z6_0 : w.heap.size < w6.heap.size := Nat.lt_of_lt_of_le (lt_set z5_0) hk6.size
  have q6_1 := fun o => hk6.cell (p := ⟨w.heap.size + 1, o, none⟩) (lt_set z5_1) n1
  have r6_1 := fun o => hk6.frozen (p := ⟨w.heap.size + 1, o, none⟩) (lt_set z5_1) n1
  have z6_1 : w.heap.size + 1 < w6.heap.size := Nat.lt_of_lt_of_le (lt_set z5_1) hk6.size
  have HS6 : Hid (w6.ownsRow (w.heap.size + 2) 301 4 (.slice sva svn svc) (pSum P (pWant P [61] (pName P (pWant P [58] (pName P s).2)).2)).1.length (flatS (pSum P (pWant P [61] (pName P (pWant P [58] (pName P s).2)).2)).1)) := owns_keeps (owns_set HS5.out (by omega)) hk6 (by omega)
  have b6 : w6.heap[w.heap.size]? = some (.cells #[.int .i64 0, .string ⟨#[]⟩, .int .i64 0, .int .i64 0, .string ⟨#[]⟩, .slice none 0 0, .slice none 0 0, .int .i64 0, .int .i64 0, .int .i64 0, .string ⟨#[]⟩] 234 (0, 0)) := hb_keeps (hb_set b5 ((by omega : w.heap.size ≠ w.heap.size + 1))) hk6 n0
  clear hc6 hk6
  go_wp2_with fail
  refine (guard_s _ R g cap P (pWant P kWhen (pSum P (pWant P [61] (pName P (pWant P [58] (pName P s).2)).2)).2) HC6.out).mono ?_
  rintro e w7 ⟨nv, rfl, ho7, hc7, hk7⟩
  obtain ⟨nva, nvn, nvc, rfl⟩ := own_slice ho7
  unfold guardV
  have HC7 := hideP2 hc7
  have HT7 : Hid (Keeps w.heap.size R w w7) := Keeps.step HT6.out hk7
  have q7_0 := fun o => hk7.cell (p := ⟨w.heap.size, o, none⟩) z6_0 n0
  have r7_0 := fun o => hk7.frozen (p := ⟨w.heap.size, o, none⟩) z6_0 n0
  have z7_0 : w.heap.size < w7.heap.size := Nat.lt_of_lt_of_le z6_0 hk7.size
  have q7_1 := fun o => hk7.cell (p := ⟨w.heap.size + 1, o, none⟩) z6_1 n1
  have r7_1 := fun o => hk7.frozen (p := ⟨w.heap.size + 1, o, none⟩) z6_1 n1
  have z7_1 : w.heap.size + 1 < w7.heap.size := Nat.lt_of_lt_of_le z6_1 hk7.size
  have HS7 : Hid (w7.ownsRow (w.heap.size + 2) 301 4 (.slice sva svn svc) (pSum P (pWant P [61] (pName P (pWant P [58] (pName P s).2)).2)).1.length (flatS (pSum P (pWant P [61] (pName P (pWant P [58] (pName P s).2)).2)).1)) := owns_keeps HS6.out hk7 (by omega)
  have HN7 : Hid (w7.ownsRow (w.heap.size + 2) 304 7 (.slice nva nvn nvc) (pGuard P (pWant P kWhen (pSum P (pWant P [61] (pName P (pWant P [58] (pName P s).2)).2)).2)).2.nd.length (flatN (pGuard P (pWant P kWhen (pSum P (pWant P [61] (pName P (pWant P [58] (pName P s).2)).2)).2)).2.nd)) := owns_base2 ho7 (Nat.succ_le_of_lt z6_1)
  clear ho7
  have b7 : w7.heap[w.heap.size]? = some (.cells #[.int .i64 0, .string ⟨#[]⟩, .int .i64 0, .int .i64 0, .string ⟨#[]⟩, .slice none 0 0, .slice none 0 0, .int .i64 0, .int .i64 0, .int .i64 0, .string ⟨#[]⟩] 234 (0, 0)) := hb_keeps b6 hk7 n0
  clear hc7 hk7
  go_wp2_with fail
  refine (want_s R g cap P _ (pGuard P (pWant P kWhen (pSum P (pWant P [61] (pName P (pWant P [58] (pName P s).2)).2)).2)).2.s [59] (Ctx.set (Ctx.set (Ctx.set (Ctx.set HC7.out n1 m1) n1 m1) n1 m1) n1 m1)).mono ?_
  rintro e w8 ⟨rfl, hc8, hk8⟩
  have HC8 := hideP2 hc8
  have HT8 : Hid (Keeps w.heap.size R w w8) := Keeps.step (Keeps.set (Keeps.set (Keeps.set (Keeps.set HT7.out (Nat.le_add_right _ _)) (Nat.le_add_right _ _)) (Nat.le_add_right _ _)) (Nat.le_add_right _ _)) hk8
  have q8_0 := fun o => hk8.cell (p := ⟨w.heap.size, o, none⟩) (lt_set (lt_set (lt_set (lt_set z7_0)))) n0
  have r8_0 := fun o => hk8.frozen (p := ⟨w.heap.size, o, none⟩) (lt_set (lt_set (lt_set (lt_set z7_0)))) n0
  have z8_0 : w.heap.size < w8.heap.size := Nat.lt_of_lt_of_le (lt_set (lt_set (lt_set (lt_set z7_0)))) hk8.size
  have q8_1 := fun o => hk8.cell (p := ⟨w.heap.size + 1, o, none⟩) (lt_set (lt_set (lt_set (lt_set z7_1)))) n1
  have r8_1 := fun o => hk8.frozen (p := ⟨w.heap.size + 1, o, none⟩) (lt_set (lt_set (lt_set (lt_set z7_1)))) n1
  have z8_1 : w.heap.size + 1 < w8.heap.size := Nat.lt_of_lt_of_le (lt_set (lt_set (lt_set (lt_set z7_1)))) hk8.size
  have HS8 : Hid (w8.ownsRow (w.heap.size + 2) 301 4 (.slice sva svn svc) (pSum P (pWant P [61] (pName P (pWant P [58] (pName P s).2)).2)).1.length (flatS (pSum P (pWant P [61] (pName P (pWant P [58] (pName P s).2)).2)).1)) := owns_keeps (owns_set (owns_set (owns_set (owns_set HS7.out (by omega)) (by omega)) (by omega)) (by omega)) hk8 (by omega)
  have HN8 : Hid (w8.ownsRow (w.heap.size + 2) 304 7 (.slice nva nvn nvc) (pGuard P (pWant P kWhen (pSum P (pWant P [61] (pName P (pWant P [58] (pName P s).2)).2)).2)).2.nd.length (flatN (pGuard P (pWant P kWhen (pSum P (pWant P [61] (pName P (pWant P [58] (pName P s).2)).2)).2)).2.nd)) := owns_keeps (owns_set (owns_set (owns_set (owns_set HN7.out (by omega)) (by omega)) (by omega)) (by omega)) hk8 (by omega)
  have b8 : w8.heap[w.heap.size]? = some (.cells #[.int .i64 0, .string ⟨#[]⟩, .int .i64 0, .int .i64 0, .string ⟨#[]⟩, .slice none 0 0, .slice none 0 0, .int .i64 0, .int .i64 0, .int .i64 0, .string ⟨#[]⟩] 234 (0, 0)) := hb_keeps (hb_set (hb_set (hb_set (hb_set b7 ((by omega : w.heap.size ≠ w.heap.size + 1))) ((by omega : w.heap.size ≠ w.heap.size + 1))) ((by omega : w.heap.size ≠ w.heap.size + 1))) ((by omega : w.heap.size ≠ w.heap.size + 1))) hk8 n0
  clear hc8 hk8
  go_wp2_with fail
  have cz8 := fun j => cell_of_row _ _ j _ _ _ b8
  refine bodyPost_ret (v := lineV (.slice sva svn svc) (.slice nva nvn nvc) ⟨3, (pName P s).1, 0, 0, (pName P (pWant P [58] (pName P s).2)).1, (pSum P (pWant P [61] (pName P (pWant P [58] (pName P s).2)).2)).1, (pGuard P (pWant P kWhen (pSum P (pWant P [61] (pName P (pWant P [58] (pName P s).2)).2)).2)).2.nd, (pGuard P (pWant P kWhen (pSum P (pWant P [61] (pName P (pWant P [58] (pName P s).2)).2)).2)).1, (pGuard P (pWant P kWhen (pSum P (pWant P [61] (pName P (pWant P [58] (pName P s).2)).2)).2)).2.tests, (pGuard P (pWant P kWhen (pSum P (pWant P [61] (pName P (pWant P [58] (pName P s).2)).2)).2)).2.dep, []⟩) (by simp (maxDischargeDepth := 8) [results, Tryz.results151, go_sem, lineV, cz8]) rfl ⟨_, _, rfl, ⟨?_, ?_⟩, show CtxS _ R g cap P (pWant P [59] (pGuard P (pWant P kWhen (pSum P (pWant P [61] (pName P (pWant P [58] (pName P s).2)).2)).2)).2.s) from (Ctx.set (Ctx.set (Ctx.set (Ctx.set (Ctx.set (Ctx.set (Ctx.set (Ctx.set (Ctx.set (Ctx.set (Ctx.set HC8.out n0 m0) n0 m0) n0 m0) n0 m0) n0 m0) n0 m0) n0 m0) n0 m0) n0 m0) n0 m0) n0 m0), (Keeps.set (Keeps.set (Keeps.set (Keeps.set (Keeps.set (Keeps.set (Keeps.set (Keeps.set (Keeps.set (Keeps.set (Keeps.set HT8.out (Nat.le_refl _)) (Nat.le_refl _)) (Nat.le_refl _)) (Nat.le_refl _)) (Nat.le_refl _)) (Nat.le_refl _)) (Nat.le_refl _)) (Nat.le_refl _)) (Nat.le_refl _)) (Nat.le_refl _)) (Nat.le_refl _))⟩
  · refine owns_base2 (b := w.heap.size + 2) ?_ (Nat.le_add_right _ 2)
    repeat (with_reducible refine owns_set ?_ (by omega))
    exact HS8.out
  · refine owns_base2 (b := w.heap.size + 2) ?_ (Nat.le_add_right _ 2)
    repeat (with_reducible refine owns_set ?_ (by omega))
    exact HN8.out
end Go.Proofs.YtnbpdffdnphbeaaGreatDoor

/- What line of the reader gives: a line of a rulebook. -/
namespace Go.Proofs.YtnbpdffdnphbeaaGreatDoor
open Go.RowKit

def pLine (P : List PT) (s : St) : PLine × St :=
  match (pSkip P [110, 117, 109] s).1 with
  | true => pNumLine P (pSkip P [110, 117, 109] s).2
  | false =>
    match (pSkip P [102, 108, 97, 103] (pSkip P [110, 117, 109] s).2).1 with
    | true => pFlagLine P (pSkip P [102, 108, 97, 103] (pSkip P [110, 117, 109] s).2).2
    | false =>
      match (pSkip P [114, 117, 108, 101] (pSkip P [102, 108, 97, 103] (pSkip P [110, 117, 109] s).2).2).1 with
      | true => pRuleLine P (pSkip P [114, 117, 108, 101] (pSkip P [102, 108, 97, 103] (pSkip P [110, 117, 109] s).2).2).2
      | false => pOverLine P (pWant P [111, 118, 101, 114] (pSkip P [114, 117, 108, 101] (pSkip P [102, 108, 97, 103] (pSkip P [110, 117, 109] s).2).2).2)

set_option maxHeartbeats 1000000 in
theorem line_num (w : World) (R g cap : Nat) (P : List PT) (s : St) (h : CtxS w R g cap P s) (h1 : (pSkip P [110, 117, 109] s).1 = true) :
    Calls Tryz.prog 102 #[.pointer (some ⟨R, 0, none⟩)] w fun e w' => ∃ sv nv, e = .returned (lineV sv nv (pLine P s).1) ∧ LineRows w' w.heap.size sv nv (pLine P s).1 ∧ CtxS w' R g cap P (pLine P s).2 ∧ Keeps w.heap.size R w w' := by
  have hR := h.rlt
  have hg := h.glt
  have n0 : w.heap.size ≠ R := by omega
  have m0 : w.heap.size ≠ g := by omega
  have HC0 := hideP2 h
  have HP : Hid (pLine P s = pNumLine P (pSkip P [110, 117, 109] s).2) := by unfold Hid pLine; simp only [h1]
  have H1 := hideP2 h1
  clear h h1
  go_enter Tryz.func102, Tryz.ntmps102
  go_wp2_with fail
  refine (skip_s R g cap P _ s [110, 117, 109] (Ctx.alloc HC0.out _)).mono ?_
  rintro e w1 ⟨rfl, hc1, hk1⟩
  rw [H1.out]
  have HC1 := hideP2 hc1
  have HT1 : Hid (Keeps w.heap.size R w w1) := Keeps.step (Keeps.new (Keeps.refl _ _ _)) hk1
  have q1_0 := fun o => hk1.cell (p := ⟨w.heap.size, o, none⟩) (by simp; try omega) n0
  have r1_0 := fun o => hk1.frozen (p := ⟨w.heap.size, o, none⟩) (by simp; try omega) n0
  have z1_0 : w.heap.size < w1.heap.size := Nat.lt_of_lt_of_le (by simp; try omega) hk1.size
  have b1 : w1.heap[w.heap.size]? = some (.cells #[.int .i64 0, .string ⟨#[]⟩, .int .i64 0, .int .i64 0, .string ⟨#[]⟩, .slice none 0 0, .slice none 0 0, .int .i64 0, .int .i64 0, .int .i64 0, .string ⟨#[]⟩] 234 (0, 0)) := hb_keeps (hb_end _ _) hk1 n0
  clear hc1 hk1
  go_wp2_with fail
  refine (numLine_s _ R g cap P (pSkip P [110, 117, 109] s).2 HC1.out).mono ?_
  rintro e w2 ⟨rfl, hc2, hk2⟩
  unfold lineV
  have HC2 := hideP2 hc2
  have HT2 : Hid (Keeps w.heap.size R w w2) := Keeps.step HT1.out hk2
  have q2_0 := fun o => hk2.cell (p := ⟨w.heap.size, o, none⟩) z1_0 n0
  have r2_0 := fun o => hk2.frozen (p := ⟨w.heap.size, o, none⟩) z1_0 n0
  have z2_0 : w.heap.size < w2.heap.size := Nat.lt_of_lt_of_le z1_0 hk2.size
  have b2 : w2.heap[w.heap.size]? = some (.cells #[.int .i64 0, .string ⟨#[]⟩, .int .i64 0, .int .i64 0, .string ⟨#[]⟩, .slice none 0 0, .slice none 0 0, .int .i64 0, .int .i64 0, .int .i64 0, .string ⟨#[]⟩] 234 (0, 0)) := hb_keeps b1 hk2 n0
  clear hc2 hk2
  go_wp2_with fail
  have cz2 := fun j => cell_of_row _ _ j _ _ _ b2
  refine bodyPost_ret (v := lineV (.slice none 0 0) (.slice none 0 0) (pNumLine P (pSkip P [110, 117, 109] s).2).1) (by simp (maxDischargeDepth := 8) [results, Tryz.results102, go_sem, lineV, cz2]) rfl ⟨_, _, by rw [HP.out], ?_, by rw [HP.out]; exact (Ctx.set (Ctx.set (Ctx.set (Ctx.set (Ctx.set (Ctx.set (Ctx.set (Ctx.set (Ctx.set (Ctx.set (Ctx.set HC2.out n0 m0) n0 m0) n0 m0) n0 m0) n0 m0) n0 m0) n0 m0) n0 m0) n0 m0) n0 m0) n0 m0), (Keeps.set (Keeps.set (Keeps.set (Keeps.set (Keeps.set (Keeps.set (Keeps.set (Keeps.set (Keeps.set (Keeps.set (Keeps.set HT2.out (Nat.le_refl _)) (Nat.le_refl _)) (Nat.le_refl _)) (Nat.le_refl _)) (Nat.le_refl _)) (Nat.le_refl _)) (Nat.le_refl _)) (Nat.le_refl _)) (Nat.le_refl _)) (Nat.le_refl _)) (Nat.le_refl _))⟩
  rw [HP.out]
  exact ⟨World.ownsRow_nil _ _ _ _, World.ownsRow_nil _ _ _ _⟩

set_option maxHeartbeats 1000000 in
theorem line_flag (w : World) (R g cap : Nat) (P : List PT) (s : St) (h : CtxS w R g cap P s) (h1 : (pSkip P [110, 117, 109] s).1 = false) (h2 : (pSkip P [102, 108, 97, 103] (pSkip P [110, 117, 109] s).2).1 = true) :
    Calls Tryz.prog 102 #[.pointer (some ⟨R, 0, none⟩)] w fun e w' => ∃ sv nv, e = .returned (lineV sv nv (pLine P s).1) ∧ LineRows w' w.heap.size sv nv (pLine P s).1 ∧ CtxS w' R g cap P (pLine P s).2 ∧ Keeps w.heap.size R w w' := by
  have hR := h.rlt
  have hg := h.glt
  have n0 : w.heap.size ≠ R := by omega
  have m0 : w.heap.size ≠ g := by omega
  have HC0 := hideP2 h
  have HP : Hid (pLine P s = pFlagLine P (pSkip P [102, 108, 97, 103] (pSkip P [110, 117, 109] s).2).2) := by unfold Hid pLine; simp only [h1, h2]
  have H1 := hideP2 h1; have H2 := hideP2 h2
  clear h h1 h2
  go_enter Tryz.func102, Tryz.ntmps102
  go_wp2_with fail
  refine (skip_s R g cap P _ s [110, 117, 109] (Ctx.alloc HC0.out _)).mono ?_
  rintro e w1 ⟨rfl, hc1, hk1⟩
  rw [H1.out]
  have HC1 := hideP2 hc1
  have HT1 : Hid (Keeps w.heap.size R w w1) := Keeps.step (Keeps.new (Keeps.refl _ _ _)) hk1
  have q1_0 := fun o => hk1.cell (p := ⟨w.heap.size, o, none⟩) (by simp; try omega) n0
  have r1_0 := fun o => hk1.frozen (p := ⟨w.heap.size, o, none⟩) (by simp; try omega) n0
  have z1_0 : w.heap.size < w1.heap.size := Nat.lt_of_lt_of_le (by simp; try omega) hk1.size
  have b1 : w1.heap[w.heap.size]? = some (.cells #[.int .i64 0, .string ⟨#[]⟩, .int .i64 0, .int .i64 0, .string ⟨#[]⟩, .slice none 0 0, .slice none 0 0, .int .i64 0, .int .i64 0, .int .i64 0, .string ⟨#[]⟩] 234 (0, 0)) := hb_keeps (hb_end _ _) hk1 n0
  clear hc1 hk1
  go_wp2_with fail
  refine (skip_s R g cap P _ (pSkip P [110, 117, 109] s).2 [102, 108, 97, 103] HC1.out).mono ?_
  rintro e w2 ⟨rfl, hc2, hk2⟩
  rw [H2.out]
  have HC2 := hideP2 hc2
  have HT2 : Hid (Keeps w.heap.size R w w2) := Keeps.step HT1.out hk2
  have q2_0 := fun o => hk2.cell (p := ⟨w.heap.size, o, none⟩) z1_0 n0
  have r2_0 := fun o => hk2.frozen (p := ⟨w.heap.size, o, none⟩) z1_0 n0
  have z2_0 : w.heap.size < w2.heap.size := Nat.lt_of_lt_of_le z1_0 hk2.size
  have b2 : w2.heap[w.heap.size]? = some (.cells #[.int .i64 0, .string ⟨#[]⟩, .int .i64 0, .int .i64 0, .string ⟨#[]⟩, .slice none 0 0, .slice none 0 0, .int .i64 0, .int .i64 0, .int .i64 0, .string ⟨#[]⟩] 234 (0, 0)) := hb_keeps b1 hk2 n0
  clear hc2 hk2
  go_wp2_with fail
  refine (flagLine_s _ R g cap P (pSkip P [102, 108, 97, 103] (pSkip P [110, 117, 109] s).2).2 HC2.out).mono ?_
  rintro e w3 ⟨rfl, hc3, hk3⟩
  unfold lineV
  have HC3 := hideP2 hc3
  have HT3 : Hid (Keeps w.heap.size R w w3) := Keeps.step HT2.out hk3
  have q3_0 := fun o => hk3.cell (p := ⟨w.heap.size, o, none⟩) z2_0 n0
  have r3_0 := fun o => hk3.frozen (p := ⟨w.heap.size, o, none⟩) z2_0 n0
  have z3_0 : w.heap.size < w3.heap.size := Nat.lt_of_lt_of_le z2_0 hk3.size
  have b3 : w3.heap[w.heap.size]? = some (.cells #[.int .i64 0, .string ⟨#[]⟩, .int .i64 0, .int .i64 0, .string ⟨#[]⟩, .slice none 0 0, .slice none 0 0, .int .i64 0, .int .i64 0, .int .i64 0, .string ⟨#[]⟩] 234 (0, 0)) := hb_keeps b2 hk3 n0
  clear hc3 hk3
  go_wp2_with fail
  have cz3 := fun j => cell_of_row _ _ j _ _ _ b3
  refine bodyPost_ret (v := lineV (.slice none 0 0) (.slice none 0 0) (pFlagLine P (pSkip P [102, 108, 97, 103] (pSkip P [110, 117, 109] s).2).2).1) (by simp (maxDischargeDepth := 8) [results, Tryz.results102, go_sem, lineV, cz3]) rfl ⟨_, _, by rw [HP.out], ?_, by rw [HP.out]; exact (Ctx.set (Ctx.set (Ctx.set (Ctx.set (Ctx.set (Ctx.set (Ctx.set (Ctx.set (Ctx.set (Ctx.set (Ctx.set HC3.out n0 m0) n0 m0) n0 m0) n0 m0) n0 m0) n0 m0) n0 m0) n0 m0) n0 m0) n0 m0) n0 m0), (Keeps.set (Keeps.set (Keeps.set (Keeps.set (Keeps.set (Keeps.set (Keeps.set (Keeps.set (Keeps.set (Keeps.set (Keeps.set HT3.out (Nat.le_refl _)) (Nat.le_refl _)) (Nat.le_refl _)) (Nat.le_refl _)) (Nat.le_refl _)) (Nat.le_refl _)) (Nat.le_refl _)) (Nat.le_refl _)) (Nat.le_refl _)) (Nat.le_refl _)) (Nat.le_refl _))⟩
  rw [HP.out]
  exact ⟨World.ownsRow_nil _ _ _ _, World.ownsRow_nil _ _ _ _⟩

set_option maxHeartbeats 1000000 in
theorem line_rule (w : World) (R g cap : Nat) (P : List PT) (s : St) (h : CtxS w R g cap P s) (h1 : (pSkip P [110, 117, 109] s).1 = false) (h2 : (pSkip P [102, 108, 97, 103] (pSkip P [110, 117, 109] s).2).1 = false) (h3 : (pSkip P [114, 117, 108, 101] (pSkip P [102, 108, 97, 103] (pSkip P [110, 117, 109] s).2).2).1 = true) :
    Calls Tryz.prog 102 #[.pointer (some ⟨R, 0, none⟩)] w fun e w' => ∃ sv nv, e = .returned (lineV sv nv (pLine P s).1) ∧ LineRows w' w.heap.size sv nv (pLine P s).1 ∧ CtxS w' R g cap P (pLine P s).2 ∧ Keeps w.heap.size R w w' := by
  have hR := h.rlt
  have hg := h.glt
  have n0 : w.heap.size ≠ R := by omega
  have m0 : w.heap.size ≠ g := by omega
  have HC0 := hideP2 h
  have HP : Hid (pLine P s = pRuleLine P (pSkip P [114, 117, 108, 101] (pSkip P [102, 108, 97, 103] (pSkip P [110, 117, 109] s).2).2).2) := by unfold Hid pLine; simp only [h1, h2, h3]
  have H1 := hideP2 h1; have H2 := hideP2 h2; have H3 := hideP2 h3
  clear h h1 h2 h3
  go_enter Tryz.func102, Tryz.ntmps102
  go_wp2_with fail
  refine (skip_s R g cap P _ s [110, 117, 109] (Ctx.alloc HC0.out _)).mono ?_
  rintro e w1 ⟨rfl, hc1, hk1⟩
  rw [H1.out]
  have HC1 := hideP2 hc1
  have HT1 : Hid (Keeps w.heap.size R w w1) := Keeps.step (Keeps.new (Keeps.refl _ _ _)) hk1
  have q1_0 := fun o => hk1.cell (p := ⟨w.heap.size, o, none⟩) (by simp; try omega) n0
  have r1_0 := fun o => hk1.frozen (p := ⟨w.heap.size, o, none⟩) (by simp; try omega) n0
  have z1_0 : w.heap.size < w1.heap.size := Nat.lt_of_lt_of_le (by simp; try omega) hk1.size
  have b1 : w1.heap[w.heap.size]? = some (.cells #[.int .i64 0, .string ⟨#[]⟩, .int .i64 0, .int .i64 0, .string ⟨#[]⟩, .slice none 0 0, .slice none 0 0, .int .i64 0, .int .i64 0, .int .i64 0, .string ⟨#[]⟩] 234 (0, 0)) := hb_keeps (hb_end _ _) hk1 n0
  clear hc1 hk1
  go_wp2_with fail
  refine (skip_s R g cap P _ (pSkip P [110, 117, 109] s).2 [102, 108, 97, 103] HC1.out).mono ?_
  rintro e w2 ⟨rfl, hc2, hk2⟩
  rw [H2.out]
  have HC2 := hideP2 hc2
  have HT2 : Hid (Keeps w.heap.size R w w2) := Keeps.step HT1.out hk2
  have q2_0 := fun o => hk2.cell (p := ⟨w.heap.size, o, none⟩) z1_0 n0
  have r2_0 := fun o => hk2.frozen (p := ⟨w.heap.size, o, none⟩) z1_0 n0
  have z2_0 : w.heap.size < w2.heap.size := Nat.lt_of_lt_of_le z1_0 hk2.size
  have b2 : w2.heap[w.heap.size]? = some (.cells #[.int .i64 0, .string ⟨#[]⟩, .int .i64 0, .int .i64 0, .string ⟨#[]⟩, .slice none 0 0, .slice none 0 0, .int .i64 0, .int .i64 0, .int .i64 0, .string ⟨#[]⟩] 234 (0, 0)) := hb_keeps b1 hk2 n0
  clear hc2 hk2
  go_wp2_with fail
  refine (skip_s R g cap P _ (pSkip P [102, 108, 97, 103] (pSkip P [110, 117, 109] s).2).2 [114, 117, 108, 101] HC2.out).mono ?_
  rintro e w3 ⟨rfl, hc3, hk3⟩
  rw [H3.out]
  have HC3 := hideP2 hc3
  have HT3 : Hid (Keeps w.heap.size R w w3) := Keeps.step HT2.out hk3
  have q3_0 := fun o => hk3.cell (p := ⟨w.heap.size, o, none⟩) z2_0 n0
  have r3_0 := fun o => hk3.frozen (p := ⟨w.heap.size, o, none⟩) z2_0 n0
  have z3_0 : w.heap.size < w3.heap.size := Nat.lt_of_lt_of_le z2_0 hk3.size
  have b3 : w3.heap[w.heap.size]? = some (.cells #[.int .i64 0, .string ⟨#[]⟩, .int .i64 0, .int .i64 0, .string ⟨#[]⟩, .slice none 0 0, .slice none 0 0, .int .i64 0, .int .i64 0, .int .i64 0, .string ⟨#[]⟩] 234 (0, 0)) := hb_keeps b2 hk3 n0
  clear hc3 hk3
  go_wp2_with fail
  refine (ruleLine_s _ R g cap P (pSkip P [114, 117, 108, 101] (pSkip P [102, 108, 97, 103] (pSkip P [110, 117, 109] s).2).2).2 HC3.out).mono ?_
  rintro e w4 ⟨sv, nv, rfl, ⟨ho4, hp4⟩, hc4, hk4⟩
  obtain ⟨sva, svn, svc, rfl⟩ := own_slice ho4
  obtain ⟨nva, nvn, nvc, rfl⟩ := own_slice hp4
  unfold lineV
  have HC4 := hideP2 hc4
  have HT4 : Hid (Keeps w.heap.size R w w4) := Keeps.step HT3.out hk4
  have r4_0 := fun o => hk4.frozen (p := ⟨w.heap.size, o, none⟩) z3_0 n0
  have b4 : w4.heap[w.heap.size]? = some (.cells #[.int .i64 0, .string ⟨#[]⟩, .int .i64 0, .int .i64 0, .string ⟨#[]⟩, .slice none 0 0, .slice none 0 0, .int .i64 0, .int .i64 0, .int .i64 0, .string ⟨#[]⟩] 234 (0, 0)) := hb_keeps b3 hk4 n0
  have q4_0 := fun o => hk4.cell (p := ⟨w.heap.size, o, none⟩) z3_0 n0
  have HO4 := hideP2 ho4
  have HP4 := hideP2 hp4
  clear ho4 hp4 hc4 hk4
  go_wp2_with fail
  have cz4 := fun j => cell_of_row _ _ j _ _ _ b4
  refine bodyPost_ret (v := lineV (.slice sva svn svc) (.slice nva nvn nvc) (pRuleLine P (pSkip P [114, 117, 108, 101] (pSkip P [102, 108, 97, 103] (pSkip P [110, 117, 109] s).2).2).2).1) (by simp (maxDischargeDepth := 8) [results, Tryz.results102, go_sem, lineV, cz4]) rfl ⟨_, _, by rw [HP.out], ?_, by rw [HP.out]; exact (Ctx.set (Ctx.set (Ctx.set (Ctx.set (Ctx.set (Ctx.set (Ctx.set (Ctx.set (Ctx.set (Ctx.set (Ctx.set HC4.out n0 m0) n0 m0) n0 m0) n0 m0) n0 m0) n0 m0) n0 m0) n0 m0) n0 m0) n0 m0) n0 m0), (Keeps.set (Keeps.set (Keeps.set (Keeps.set (Keeps.set (Keeps.set (Keeps.set (Keeps.set (Keeps.set (Keeps.set (Keeps.set HT4.out (Nat.le_refl _)) (Nat.le_refl _)) (Nat.le_refl _)) (Nat.le_refl _)) (Nat.le_refl _)) (Nat.le_refl _)) (Nat.le_refl _)) (Nat.le_refl _)) (Nat.le_refl _)) (Nat.le_refl _)) (Nat.le_refl _))⟩
  rw [HP.out]
  refine ⟨owns_base2 (b := w3.heap.size) ?_ (Nat.le_of_lt z3_0), owns_base2 (b := w3.heap.size) ?_ (Nat.le_of_lt z3_0)⟩
  · repeat (with_reducible refine owns_set ?_ z3_0)
    exact HO4.out
  · repeat (with_reducible refine owns_set ?_ z3_0)
    exact HP4.out

set_option maxHeartbeats 1000000 in
theorem line_over (w : World) (R g cap : Nat) (P : List PT) (s : St) (h : CtxS w R g cap P s) (h1 : (pSkip P [110, 117, 109] s).1 = false) (h2 : (pSkip P [102, 108, 97, 103] (pSkip P [110, 117, 109] s).2).1 = false) (h3 : (pSkip P [114, 117, 108, 101] (pSkip P [102, 108, 97, 103] (pSkip P [110, 117, 109] s).2).2).1 = false) :
    Calls Tryz.prog 102 #[.pointer (some ⟨R, 0, none⟩)] w fun e w' => ∃ sv nv, e = .returned (lineV sv nv (pLine P s).1) ∧ LineRows w' w.heap.size sv nv (pLine P s).1 ∧ CtxS w' R g cap P (pLine P s).2 ∧ Keeps w.heap.size R w w' := by
  have hR := h.rlt
  have hg := h.glt
  have n0 : w.heap.size ≠ R := by omega
  have m0 : w.heap.size ≠ g := by omega
  have HC0 := hideP2 h
  have HP : Hid (pLine P s = pOverLine P (pWant P [111, 118, 101, 114] (pSkip P [114, 117, 108, 101] (pSkip P [102, 108, 97, 103] (pSkip P [110, 117, 109] s).2).2).2)) := by unfold Hid pLine; simp only [h1, h2, h3]
  have H1 := hideP2 h1; have H2 := hideP2 h2; have H3 := hideP2 h3
  clear h h1 h2 h3
  go_enter Tryz.func102, Tryz.ntmps102
  go_wp2_with fail
  refine (skip_s R g cap P _ s [110, 117, 109] (Ctx.alloc HC0.out _)).mono ?_
  rintro e w1 ⟨rfl, hc1, hk1⟩
  rw [H1.out]
  have HC1 := hideP2 hc1
  have HT1 : Hid (Keeps w.heap.size R w w1) := Keeps.step (Keeps.new (Keeps.refl _ _ _)) hk1
  have q1_0 := fun o => hk1.cell (p := ⟨w.heap.size, o, none⟩) (by simp; try omega) n0
  have r1_0 := fun o => hk1.frozen (p := ⟨w.heap.size, o, none⟩) (by simp; try omega) n0
  have z1_0 : w.heap.size < w1.heap.size := Nat.lt_of_lt_of_le (by simp; try omega) hk1.size
  have b1 : w1.heap[w.heap.size]? = some (.cells #[.int .i64 0, .string ⟨#[]⟩, .int .i64 0, .int .i64 0, .string ⟨#[]⟩, .slice none 0 0, .slice none 0 0, .int .i64 0, .int .i64 0, .int .i64 0, .string ⟨#[]⟩] 234 (0, 0)) := hb_keeps (hb_end _ _) hk1 n0
  clear hc1 hk1
  go_wp2_with fail
  refine (skip_s R g cap P _ (pSkip P [110, 117, 109] s).2 [102, 108, 97, 103] HC1.out).mono ?_
  rintro e w2 ⟨rfl, hc2, hk2⟩
  rw [H2.out]
  have HC2 := hideP2 hc2
  have HT2 : Hid (Keeps w.heap.size R w w2) := Keeps.step HT1.out hk2
  have q2_0 := fun o => hk2.cell (p := ⟨w.heap.size, o, none⟩) z1_0 n0
  have r2_0 := fun o => hk2.frozen (p := ⟨w.heap.size, o, none⟩) z1_0 n0
  have z2_0 : w.heap.size < w2.heap.size := Nat.lt_of_lt_of_le z1_0 hk2.size
  have b2 : w2.heap[w.heap.size]? = some (.cells #[.int .i64 0, .string ⟨#[]⟩, .int .i64 0, .int .i64 0, .string ⟨#[]⟩, .slice none 0 0, .slice none 0 0, .int .i64 0, .int .i64 0, .int .i64 0, .string ⟨#[]⟩] 234 (0, 0)) := hb_keeps b1 hk2 n0
  clear hc2 hk2
  go_wp2_with fail
  refine (skip_s R g cap P _ (pSkip P [102, 108, 97, 103] (pSkip P [110, 117, 109] s).2).2 [114, 117, 108, 101] HC2.out).mono ?_
  rintro e w3 ⟨rfl, hc3, hk3⟩
  rw [H3.out]
  have HC3 := hideP2 hc3
  have HT3 : Hid (Keeps w.heap.size R w w3) := Keeps.step HT2.out hk3
  have q3_0 := fun o => hk3.cell (p := ⟨w.heap.size, o, none⟩) z2_0 n0
  have r3_0 := fun o => hk3.frozen (p := ⟨w.heap.size, o, none⟩) z2_0 n0
  have z3_0 : w.heap.size < w3.heap.size := Nat.lt_of_lt_of_le z2_0 hk3.size
  have b3 : w3.heap[w.heap.size]? = some (.cells #[.int .i64 0, .string ⟨#[]⟩, .int .i64 0, .int .i64 0, .string ⟨#[]⟩, .slice none 0 0, .slice none 0 0, .int .i64 0, .int .i64 0, .int .i64 0, .string ⟨#[]⟩] 234 (0, 0)) := hb_keeps b2 hk3 n0
  clear hc3 hk3
  go_wp2_with fail
  refine (want_s R g cap P _ (pSkip P [114, 117, 108, 101] (pSkip P [102, 108, 97, 103] (pSkip P [110, 117, 109] s).2).2).2 [111, 118, 101, 114] HC3.out).mono ?_
  rintro e w4 ⟨rfl, hc4, hk4⟩
  have HC4 := hideP2 hc4
  have HT4 : Hid (Keeps w.heap.size R w w4) := Keeps.step HT3.out hk4
  have q4_0 := fun o => hk4.cell (p := ⟨w.heap.size, o, none⟩) z3_0 n0
  have r4_0 := fun o => hk4.frozen (p := ⟨w.heap.size, o, none⟩) z3_0 n0
  have z4_0 : w.heap.size < w4.heap.size := Nat.lt_of_lt_of_le z3_0 hk4.size
  have b4 : w4.heap[w.heap.size]? = some (.cells #[.int .i64 0, .string ⟨#[]⟩, .int .i64 0, .int .i64 0, .string ⟨#[]⟩, .slice none 0 0, .slice none 0 0, .int .i64 0, .int .i64 0, .int .i64 0, .string ⟨#[]⟩] 234 (0, 0)) := hb_keeps b3 hk4 n0
  clear hc4 hk4
  go_wp2_with fail
  refine (overLine_s _ R g cap P (pWant P [111, 118, 101, 114] (pSkip P [114, 117, 108, 101] (pSkip P [102, 108, 97, 103] (pSkip P [110, 117, 109] s).2).2).2) HC4.out).mono ?_
  rintro e w5 ⟨rfl, hc5, hk5⟩
  unfold lineV
  have HC5 := hideP2 hc5
  have HT5 : Hid (Keeps w.heap.size R w w5) := Keeps.step HT4.out hk5
  have q5_0 := fun o => hk5.cell (p := ⟨w.heap.size, o, none⟩) z4_0 n0
  have r5_0 := fun o => hk5.frozen (p := ⟨w.heap.size, o, none⟩) z4_0 n0
  have z5_0 : w.heap.size < w5.heap.size := Nat.lt_of_lt_of_le z4_0 hk5.size
  have b5 : w5.heap[w.heap.size]? = some (.cells #[.int .i64 0, .string ⟨#[]⟩, .int .i64 0, .int .i64 0, .string ⟨#[]⟩, .slice none 0 0, .slice none 0 0, .int .i64 0, .int .i64 0, .int .i64 0, .string ⟨#[]⟩] 234 (0, 0)) := hb_keeps b4 hk5 n0
  clear hc5 hk5
  go_wp2_with fail
  have cz5 := fun j => cell_of_row _ _ j _ _ _ b5
  refine bodyPost_ret (v := lineV (.slice none 0 0) (.slice none 0 0) (pOverLine P (pWant P [111, 118, 101, 114] (pSkip P [114, 117, 108, 101] (pSkip P [102, 108, 97, 103] (pSkip P [110, 117, 109] s).2).2).2)).1) (by simp (maxDischargeDepth := 8) [results, Tryz.results102, go_sem, lineV, cz5]) rfl ⟨_, _, by rw [HP.out], ?_, by rw [HP.out]; exact (Ctx.set (Ctx.set (Ctx.set (Ctx.set (Ctx.set (Ctx.set (Ctx.set (Ctx.set (Ctx.set (Ctx.set (Ctx.set HC5.out n0 m0) n0 m0) n0 m0) n0 m0) n0 m0) n0 m0) n0 m0) n0 m0) n0 m0) n0 m0) n0 m0), (Keeps.set (Keeps.set (Keeps.set (Keeps.set (Keeps.set (Keeps.set (Keeps.set (Keeps.set (Keeps.set (Keeps.set (Keeps.set HT5.out (Nat.le_refl _)) (Nat.le_refl _)) (Nat.le_refl _)) (Nat.le_refl _)) (Nat.le_refl _)) (Nat.le_refl _)) (Nat.le_refl _)) (Nat.le_refl _)) (Nat.le_refl _)) (Nat.le_refl _)) (Nat.le_refl _))⟩
  rw [HP.out]
  exact ⟨World.ownsRow_nil _ _ _ _, World.ownsRow_nil _ _ _ _⟩

theorem line_s (w : World) (R g cap : Nat) (P : List PT) (s : St) (h : CtxS w R g cap P s) :
    Calls Tryz.prog 102 #[.pointer (some ⟨R, 0, none⟩)] w fun e w' => ∃ sv nv, e = .returned (lineV sv nv (pLine P s).1) ∧ LineRows w' w.heap.size sv nv (pLine P s).1 ∧ CtxS w' R g cap P (pLine P s).2 ∧ Keeps w.heap.size R w w' := by
  cases h1 : (pSkip P [110, 117, 109] s).1
  · cases h2 : (pSkip P [102, 108, 97, 103] (pSkip P [110, 117, 109] s).2).1
    · cases h3 : (pSkip P [114, 117, 108, 101] (pSkip P [102, 108, 97, 103] (pSkip P [110, 117, 109] s).2).2).1
      · exact line_over w R g cap P s h h1 h2 h3
      · exact line_rule w R g cap P s h h1 h2 h3
    · exact line_flag w R g cap P s h h1 h2
  · exact line_num w R g cap P s h h1
end Go.Proofs.YtnbpdffdnphbeaaGreatDoor
