/- The reader's steps as plain functions: each takes where the reader stands, and whether it has failed, and tells what it read and where it stands then. -/
import Derived.Test.YtnbpdffdnphbeaaGreatDoorCtx
namespace Go.Proofs.YtnbpdffdnphbeaaGreatDoor
open Go.RowKit

abbrev St := Nat × Bool

def pSkip (P : List PT) (t : Bs) (s : St) : Bool × St := (skipB P t s.1 s.2, (adv (skipB P t s.1 s.2) s.1, s.2))
def pWant (P : List PT) (t : Bs) (s : St) : St := (adv (skipB P t s.1 s.2) s.1, !skipB P t s.1 s.2)
def pName (P : List PT) (s : St) : Bs × St := ((tk (takeB P 2 s.1 s.2) (cur P s.1)).s, (adv (takeB P 2 s.1 s.2) s.1, !takeB P 2 s.1 s.2))
def pNumber (P : List PT) (s : St) : Int × St := ((tk (takeB P 3 s.1 s.2) (cur P s.1)).v, (adv (takeB P 3 s.1 s.2) s.1, !takeB P 3 s.1 s.2))
def isNum (P : List PT) (s : St) : Bool := (cur P s.1).k == 3

structure PPart where
  minus : Bool
  starred : Bool
  num : Int
  name : Bs

def pPart (P : List PT) (m : Bool) (s : St) : PPart × St :=
  match isNum P s with
  | true =>
    match (pSkip P [42] (pNumber P s).2).1 with
    | true => (⟨m, true, (pNumber P s).1, (pName P (pSkip P [42] (pNumber P s).2).2).1⟩, (pName P (pSkip P [42] (pNumber P s).2).2).2)
    | false => (⟨m, false, (pNumber P s).1, []⟩, (pSkip P [42] (pNumber P s).2).2)
  | false => (⟨m, false, 0, (pName P s).1⟩, (pName P s).2)

/-- The reader's place in memory, by a state. -/
abbrev CtxS (w : World) (R g cap : Nat) (P : List PT) (s : St) : Prop := Ctx w R g cap P s.1 s.2

def skipSaid (R g cap : Nat) (P : List PT) : Prop := ∀ (w : World) (s : St) (t : Bs), CtxS w R g cap P s →
    Calls Tryz.prog 148 #[.pointer (some ⟨R, 0, none⟩), .string ⟨t.toArray⟩] w fun e w' => e = .returned (.bool (pSkip P t s).1) ∧ CtxS w' R g cap P (pSkip P t s).2 ∧ Keeps w.heap.size R w w'
theorem skip_s (R g cap : Nat) (P : List PT) : skipSaid R g cap P := fun w s t h => skip_rd w R g cap P s.1 s.2 h t
def wantSaid (R g cap : Nat) (P : List PT) : Prop := ∀ (w : World) (s : St) (t : Bs), CtxS w R g cap P s →
    Calls Tryz.prog 152 #[.pointer (some ⟨R, 0, none⟩), .string ⟨t.toArray⟩] w fun e w' => e = .returned (.tuple #[]) ∧ CtxS w' R g cap P (pWant P t s) ∧ Keeps w.heap.size R w w'
theorem want_s (R g cap : Nat) (P : List PT) : wantSaid R g cap P := fun w s t h => want_rd w R g cap P s.1 s.2 h t
def nameSaid (R g cap : Nat) (P : List PT) : Prop := ∀ (w : World) (s : St), CtxS w R g cap P s →
    Calls Tryz.prog 211 #[.pointer (some ⟨R, 0, none⟩)] w fun e w' => e = .returned (.string ⟨(pName P s).1.toArray⟩) ∧ CtxS w' R g cap P (pName P s).2 ∧ Keeps w.heap.size R w w'
theorem name_s (R g cap : Nat) (P : List PT) : nameSaid R g cap P := fun w s h => name_rd w R g cap P s.1 s.2 h
def numberSaid (R g cap : Nat) (P : List PT) : Prop := ∀ (w : World) (s : St), CtxS w R g cap P s →
    Calls Tryz.prog 212 #[.pointer (some ⟨R, 0, none⟩)] w fun e w' => e = .returned (.int .i64 (pNumber P s).1) ∧ CtxS w' R g cap P (pNumber P s).2 ∧ Keeps w.heap.size R w w'
theorem number_s (R g cap : Nat) (P : List PT) : numberSaid R g cap P := fun w s h => number_rd w R g cap P s.1 s.2 h
def nextSaid (R g cap : Nat) (P : List PT) : Prop := ∀ (w : World) (s : St) (kd : Int), CtxS w R g cap P s →
    Calls Tryz.prog 101 #[.pointer (some ⟨R, 0, none⟩), .int .i64 kd] w fun e w' => e = .returned (.bool ((cur P s.1).k == kd)) ∧ CtxS w' R g cap P s ∧ Keeps w.heap.size R w w'
theorem next_s (R g cap : Nat) (P : List PT) : nextSaid R g cap P := fun w s kd h => next_rd w R g cap P s.1 s.2 h kd

section
variable {w : World} {R g cap : Nat} {P : List PT} {s : St}
theorem Ctx.alloc (h : CtxS w R g cap P s) (o : Obj) : CtxS (w.alloc o) R g cap P s :=
  h.keeps (kept_alloc h.rlt h.blk) ((Keeps.refl _ _ _).alloc (Nat.le_refl _) _) h.at'
theorem Ctx.drew (h : CtxS w R g cap P s) : CtxS w.drew R g cap P s := h.keeps h.blk (Keeps.refl _ _ _).drew h.at'
theorem Ctx.setCell (h : CtxS w R g cap P s) {p : Addr} (hr : p.block ≠ R) (hg : p.block ≠ g) (u : Value) : CtxS (w.setCell p u) R g cap P s := by
  refine ⟨?_, ?_, h.gR, by rw [size_setCell]; exact h.glt, h.at', h.cap1, h.cap2, h.many, h.endk⟩
  · rw [Below.heap_setCell _ _ _ _ (Ne.symm hr)]; exact h.blk
  · intro i hi
    have hb : ∀ o, (w.setCell p u).cell? ⟨g, o, none⟩ = w.cell? ⟨g, o, none⟩ := fun o => World.cell?_of_block (w := w) (Below.heap_setCell _ _ _ _ (Ne.symm hg))
    rw [hb, hb, hb, hb]; exact h.tok i hi
end

theorem Ctx.set {w : World} {R g cap : Nat} {P : List PT} {s : St} {b o : Nat} {u : Value} (h : CtxS w R g cap P s) (hr : b ≠ R) (hg : b ≠ g) : CtxS (w.setCell ⟨b, o, none⟩ u) R g cap P s := Ctx.setCell h (p := ⟨b, o, none⟩) hr hg u
theorem Keeps.set {w w' : World} {R b o : Nat} {u : Value} (h : Keeps w.heap.size R w w') (hb : w.heap.size ≤ b) : Keeps w.heap.size R w (w'.setCell ⟨b, o, none⟩ u) := Keeps.setCell h (p := ⟨b, o, none⟩) (.inl hb) u
theorem Keeps.new {w w' : World} {R : Nat} {x : Obj} (h : Keeps w.heap.size R w w') : Keeps w.heap.size R w (w'.alloc x) := Keeps.alloc h h.size x
theorem Keeps.step {w W w1 : World} {R : Nat} (h : Keeps w.heap.size R w W) (k : Keeps W.heap.size R W w1) : Keeps w.heap.size R w w1 := h.trans (k.mono h.size)

def partV (x : PPart) : Value := .agg #[.bool x.minus, .bool x.starred, .int .i64 x.num, .string ⟨x.name.toArray⟩]

set_option maxHeartbeats 1000000 in
theorem part_s (w : World) (R g cap : Nat) (P : List PT) (m : Bool) (s : St) (h : CtxS w R g cap P s) :
    Calls Tryz.prog 247 #[.pointer (some ⟨R, 0, none⟩), .bool m] w fun e w' => e = .returned (partV (pPart P m s).1) ∧ CtxS w' R g cap P (pPart P m s).2 ∧ Keeps w.heap.size R w w' := by
  have hR := h.rlt
  have hg := h.glt
  have n0 : w.heap.size ≠ R := by omega
  have n1 : w.heap.size + 1 ≠ R := by omega
  have m0 : w.heap.size ≠ g := by omega
  have m1 : w.heap.size + 1 ≠ g := by omega
  have HC0 := hideP2 h
  clear h
  cases hb : isNum P s
  · have HP : Hid (pPart P m s = (⟨m, false, 0, (pName P s).1⟩, (pName P s).2)) := by unfold Hid pPart; rw [hb]
    have HN := hideP2 hb
    clear hb
    go_enter Tryz.func247, Tryz.ntmps247
    go_wp2_with fail
    refine (next_s R g cap P _ s 3 (Ctx.alloc (Ctx.alloc HC0.out _) _)).mono ?_
    rintro e w1 ⟨rfl, hc1, hk1⟩
    rw [show ((cur P s.1).k == 3) = false from HN.out]
    have HC1 := hideP2 hc1
    have HT1 : Hid (Keeps w.heap.size R w w1) := Keeps.step (Keeps.new (Keeps.new (Keeps.refl _ _ _))) hk1
    have q1_0 := fun o => hk1.cell (p := ⟨w.heap.size, o, none⟩) (by simp; try omega) n0
    have r1_0 := fun o => hk1.frozen (p := ⟨w.heap.size, o, none⟩) (by simp; try omega) n0
    have z1_0 : w.heap.size < w1.heap.size := Nat.lt_of_lt_of_le (by simp; try omega) hk1.size
    have q1_1 := fun o => hk1.cell (p := ⟨w.heap.size + 1, o, none⟩) (by simp; try omega) n1
    have r1_1 := fun o => hk1.frozen (p := ⟨w.heap.size + 1, o, none⟩) (by simp; try omega) n1
    have z1_1 : w.heap.size + 1 < w1.heap.size := Nat.lt_of_lt_of_le (by simp; try omega) hk1.size
    clear hc1 hk1
    go_wp2_with fail
    refine (name_s R g cap P _ s HC1.out).mono ?_
    rintro e w2 ⟨rfl, hc2, hk2⟩
    have HC2 := hideP2 hc2
    have HT2 : Hid (Keeps w.heap.size R w w2) := Keeps.step HT1.out hk2
    have q2_0 := fun o => hk2.cell (p := ⟨w.heap.size, o, none⟩) (by first | exact z1_0 | (simp only [size_setCell]; exact z1_0)) n0
    have r2_0 := fun o => hk2.frozen (p := ⟨w.heap.size, o, none⟩) (by first | exact z1_0 | (simp only [size_setCell]; exact z1_0)) n0
    have z2_0 : w.heap.size < w2.heap.size := Nat.lt_of_lt_of_le (by first | exact z1_0 | (simp only [size_setCell]; exact z1_0)) hk2.size
    have q2_1 := fun o => hk2.cell (p := ⟨w.heap.size + 1, o, none⟩) (by first | exact z1_1 | (simp only [size_setCell]; exact z1_1)) n1
    have r2_1 := fun o => hk2.frozen (p := ⟨w.heap.size + 1, o, none⟩) (by first | exact z1_1 | (simp only [size_setCell]; exact z1_1)) n1
    have z2_1 : w.heap.size + 1 < w2.heap.size := Nat.lt_of_lt_of_le (by first | exact z1_1 | (simp only [size_setCell]; exact z1_1)) hk2.size
    clear hc2 hk2
    go_wp2_with fail
    refine bodyPost_ret (v := partV ⟨m, false, 0, (pName P s).1⟩) (by simp [results, Tryz.results247, go_sem, partV, q1_0, q2_0]) rfl ⟨by rw [HP.out], by rw [HP.out]; exact (Ctx.set (Ctx.set (Ctx.set (Ctx.set (Ctx.set HC2.out n1 m1) n0 m0) n0 m0) n0 m0) n0 m0), (Keeps.set (Keeps.set (Keeps.set (Keeps.set (Keeps.set HT2.out (Nat.le_add_right _ _)) (Nat.le_refl _)) (Nat.le_refl _)) (Nat.le_refl _)) (Nat.le_refl _))⟩
  · have HN := hideP2 hb
    cases hs : (pSkip P [42] (pNumber P s).2).1
    · have HP : Hid (pPart P m s = (⟨m, false, (pNumber P s).1, []⟩, (pSkip P [42] (pNumber P s).2).2)) := by unfold Hid pPart; rw [hb]; simp only [hs]
      have HS := hideP2 hs
      clear hb hs
      go_enter Tryz.func247, Tryz.ntmps247
      go_wp2_with fail
      refine (next_s R g cap P _ s 3 (Ctx.alloc (Ctx.alloc HC0.out _) _)).mono ?_
      rintro e w1 ⟨rfl, hc1, hk1⟩
      rw [show ((cur P s.1).k == 3) = true from HN.out]
      have HC1 := hideP2 hc1
      have HT1 : Hid (Keeps w.heap.size R w w1) := Keeps.step (Keeps.new (Keeps.new (Keeps.refl _ _ _))) hk1
      have q1_0 := fun o => hk1.cell (p := ⟨w.heap.size, o, none⟩) (by simp; try omega) n0
      have r1_0 := fun o => hk1.frozen (p := ⟨w.heap.size, o, none⟩) (by simp; try omega) n0
      have z1_0 : w.heap.size < w1.heap.size := Nat.lt_of_lt_of_le (by simp; try omega) hk1.size
      have q1_1 := fun o => hk1.cell (p := ⟨w.heap.size + 1, o, none⟩) (by simp; try omega) n1
      have r1_1 := fun o => hk1.frozen (p := ⟨w.heap.size + 1, o, none⟩) (by simp; try omega) n1
      have z1_1 : w.heap.size + 1 < w1.heap.size := Nat.lt_of_lt_of_le (by simp; try omega) hk1.size
      clear hc1 hk1
      go_wp2_with fail
      refine (number_s R g cap P _ s HC1.out).mono ?_
      rintro e w2 ⟨rfl, hc2, hk2⟩
      have HC2 := hideP2 hc2
      have HT2 : Hid (Keeps w.heap.size R w w2) := Keeps.step HT1.out hk2
      have q2_0 := fun o => hk2.cell (p := ⟨w.heap.size, o, none⟩) (by first | exact z1_0 | (simp only [size_setCell]; exact z1_0)) n0
      have r2_0 := fun o => hk2.frozen (p := ⟨w.heap.size, o, none⟩) (by first | exact z1_0 | (simp only [size_setCell]; exact z1_0)) n0
      have z2_0 : w.heap.size < w2.heap.size := Nat.lt_of_lt_of_le (by first | exact z1_0 | (simp only [size_setCell]; exact z1_0)) hk2.size
      have q2_1 := fun o => hk2.cell (p := ⟨w.heap.size + 1, o, none⟩) (by first | exact z1_1 | (simp only [size_setCell]; exact z1_1)) n1
      have r2_1 := fun o => hk2.frozen (p := ⟨w.heap.size + 1, o, none⟩) (by first | exact z1_1 | (simp only [size_setCell]; exact z1_1)) n1
      have z2_1 : w.heap.size + 1 < w2.heap.size := Nat.lt_of_lt_of_le (by first | exact z1_1 | (simp only [size_setCell]; exact z1_1)) hk2.size
      clear hc2 hk2
      go_wp2_with fail
      refine (skip_s R g cap P _ (pNumber P s).2 [42] (Ctx.set HC2.out n1 m1)).mono ?_
      rintro e w3 ⟨rfl, hc3, hk3⟩
      rw [HS.out]
      have HC3 := hideP2 hc3
      have HT3 : Hid (Keeps w.heap.size R w w3) := Keeps.step (Keeps.set HT2.out (Nat.le_add_right _ _)) hk3
      have q3_0 := fun o => hk3.cell (p := ⟨w.heap.size, o, none⟩) (by first | exact z2_0 | (simp only [size_setCell]; exact z2_0)) n0
      have r3_0 := fun o => hk3.frozen (p := ⟨w.heap.size, o, none⟩) (by first | exact z2_0 | (simp only [size_setCell]; exact z2_0)) n0
      have z3_0 : w.heap.size < w3.heap.size := Nat.lt_of_lt_of_le (by first | exact z2_0 | (simp only [size_setCell]; exact z2_0)) hk3.size
      have q3_1 := fun o => hk3.cell (p := ⟨w.heap.size + 1, o, none⟩) (by first | exact z2_1 | (simp only [size_setCell]; exact z2_1)) n1
      have r3_1 := fun o => hk3.frozen (p := ⟨w.heap.size + 1, o, none⟩) (by first | exact z2_1 | (simp only [size_setCell]; exact z2_1)) n1
      have z3_1 : w.heap.size + 1 < w3.heap.size := Nat.lt_of_lt_of_le (by first | exact z2_1 | (simp only [size_setCell]; exact z2_1)) hk3.size
      clear hc3 hk3
      go_wp2_with fail
      refine bodyPost_ret (v := partV ⟨m, false, (pNumber P s).1, []⟩) (by simp [results, Tryz.results247, go_sem, partV, q1_0, q2_0, q3_0]) rfl ⟨by rw [HP.out], by rw [HP.out]; exact (Ctx.set (Ctx.set (Ctx.set (Ctx.set (Ctx.set HC3.out n1 m1) n0 m0) n0 m0) n0 m0) n0 m0), (Keeps.set (Keeps.set (Keeps.set (Keeps.set (Keeps.set HT3.out (Nat.le_add_right _ _)) (Nat.le_refl _)) (Nat.le_refl _)) (Nat.le_refl _)) (Nat.le_refl _))⟩
    · have HP : Hid (pPart P m s = (⟨m, true, (pNumber P s).1, (pName P (pSkip P [42] (pNumber P s).2).2).1⟩, (pName P (pSkip P [42] (pNumber P s).2).2).2)) := by unfold Hid pPart; rw [hb]; simp only [hs]
      have HS := hideP2 hs
      clear hb hs
      go_enter Tryz.func247, Tryz.ntmps247
      go_wp2_with fail
      refine (next_s R g cap P _ s 3 (Ctx.alloc (Ctx.alloc HC0.out _) _)).mono ?_
      rintro e w1 ⟨rfl, hc1, hk1⟩
      rw [show ((cur P s.1).k == 3) = true from HN.out]
      have HC1 := hideP2 hc1
      have HT1 : Hid (Keeps w.heap.size R w w1) := Keeps.step (Keeps.new (Keeps.new (Keeps.refl _ _ _))) hk1
      have q1_0 := fun o => hk1.cell (p := ⟨w.heap.size, o, none⟩) (by simp; try omega) n0
      have r1_0 := fun o => hk1.frozen (p := ⟨w.heap.size, o, none⟩) (by simp; try omega) n0
      have z1_0 : w.heap.size < w1.heap.size := Nat.lt_of_lt_of_le (by simp; try omega) hk1.size
      have q1_1 := fun o => hk1.cell (p := ⟨w.heap.size + 1, o, none⟩) (by simp; try omega) n1
      have r1_1 := fun o => hk1.frozen (p := ⟨w.heap.size + 1, o, none⟩) (by simp; try omega) n1
      have z1_1 : w.heap.size + 1 < w1.heap.size := Nat.lt_of_lt_of_le (by simp; try omega) hk1.size
      clear hc1 hk1
      go_wp2_with fail
      refine (number_s R g cap P _ s HC1.out).mono ?_
      rintro e w2 ⟨rfl, hc2, hk2⟩
      have HC2 := hideP2 hc2
      have HT2 : Hid (Keeps w.heap.size R w w2) := Keeps.step HT1.out hk2
      have q2_0 := fun o => hk2.cell (p := ⟨w.heap.size, o, none⟩) (by first | exact z1_0 | (simp only [size_setCell]; exact z1_0)) n0
      have r2_0 := fun o => hk2.frozen (p := ⟨w.heap.size, o, none⟩) (by first | exact z1_0 | (simp only [size_setCell]; exact z1_0)) n0
      have z2_0 : w.heap.size < w2.heap.size := Nat.lt_of_lt_of_le (by first | exact z1_0 | (simp only [size_setCell]; exact z1_0)) hk2.size
      have q2_1 := fun o => hk2.cell (p := ⟨w.heap.size + 1, o, none⟩) (by first | exact z1_1 | (simp only [size_setCell]; exact z1_1)) n1
      have r2_1 := fun o => hk2.frozen (p := ⟨w.heap.size + 1, o, none⟩) (by first | exact z1_1 | (simp only [size_setCell]; exact z1_1)) n1
      have z2_1 : w.heap.size + 1 < w2.heap.size := Nat.lt_of_lt_of_le (by first | exact z1_1 | (simp only [size_setCell]; exact z1_1)) hk2.size
      clear hc2 hk2
      go_wp2_with fail
      refine (skip_s R g cap P _ (pNumber P s).2 [42] (Ctx.set HC2.out n1 m1)).mono ?_
      rintro e w3 ⟨rfl, hc3, hk3⟩
      rw [HS.out]
      have HC3 := hideP2 hc3
      have HT3 : Hid (Keeps w.heap.size R w w3) := Keeps.step (Keeps.set HT2.out (Nat.le_add_right _ _)) hk3
      have q3_0 := fun o => hk3.cell (p := ⟨w.heap.size, o, none⟩) (by first | exact z2_0 | (simp only [size_setCell]; exact z2_0)) n0
      have r3_0 := fun o => hk3.frozen (p := ⟨w.heap.size, o, none⟩) (by first | exact z2_0 | (simp only [size_setCell]; exact z2_0)) n0
      have z3_0 : w.heap.size < w3.heap.size := Nat.lt_of_lt_of_le (by first | exact z2_0 | (simp only [size_setCell]; exact z2_0)) hk3.size
      have q3_1 := fun o => hk3.cell (p := ⟨w.heap.size + 1, o, none⟩) (by first | exact z2_1 | (simp only [size_setCell]; exact z2_1)) n1
      have r3_1 := fun o => hk3.frozen (p := ⟨w.heap.size + 1, o, none⟩) (by first | exact z2_1 | (simp only [size_setCell]; exact z2_1)) n1
      have z3_1 : w.heap.size + 1 < w3.heap.size := Nat.lt_of_lt_of_le (by first | exact z2_1 | (simp only [size_setCell]; exact z2_1)) hk3.size
      clear hc3 hk3
      go_wp2_with fail
      refine (name_s R g cap P _ (pSkip P [42] (pNumber P s).2).2 (Ctx.set HC3.out n1 m1)).mono ?_
      rintro e w4 ⟨rfl, hc4, hk4⟩
      have HC4 := hideP2 hc4
      have HT4 : Hid (Keeps w.heap.size R w w4) := Keeps.step (Keeps.set HT3.out (Nat.le_add_right _ _)) hk4
      have q4_0 := fun o => hk4.cell (p := ⟨w.heap.size, o, none⟩) (by first | exact z3_0 | (simp only [size_setCell]; exact z3_0)) n0
      have r4_0 := fun o => hk4.frozen (p := ⟨w.heap.size, o, none⟩) (by first | exact z3_0 | (simp only [size_setCell]; exact z3_0)) n0
      have z4_0 : w.heap.size < w4.heap.size := Nat.lt_of_lt_of_le (by first | exact z3_0 | (simp only [size_setCell]; exact z3_0)) hk4.size
      have q4_1 := fun o => hk4.cell (p := ⟨w.heap.size + 1, o, none⟩) (by first | exact z3_1 | (simp only [size_setCell]; exact z3_1)) n1
      have r4_1 := fun o => hk4.frozen (p := ⟨w.heap.size + 1, o, none⟩) (by first | exact z3_1 | (simp only [size_setCell]; exact z3_1)) n1
      have z4_1 : w.heap.size + 1 < w4.heap.size := Nat.lt_of_lt_of_le (by first | exact z3_1 | (simp only [size_setCell]; exact z3_1)) hk4.size
      clear hc4 hk4
      go_wp2_with fail
      refine bodyPost_ret (v := partV ⟨m, true, (pNumber P s).1, (pName P (pSkip P [42] (pNumber P s).2).2).1⟩) (by simp [results, Tryz.results247, go_sem, partV, q1_0, q2_0, q3_0, q4_0]) rfl ⟨by rw [HP.out], by rw [HP.out]; exact (Ctx.set (Ctx.set (Ctx.set (Ctx.set (Ctx.set HC4.out n1 m1) n0 m0) n0 m0) n0 m0) n0 m0), (Keeps.set (Keeps.set (Keeps.set (Keeps.set (Keeps.set HT4.out (Nat.le_add_right _ _)) (Nat.le_refl _)) (Nat.le_refl _)) (Nat.le_refl _)) (Nat.le_refl _))⟩
end Go.Proofs.YtnbpdffdnphbeaaGreatDoor

/- What sum of the reader gives: the parts of a sum, in a row of its own. -/
namespace Go.Proofs.YtnbpdffdnphbeaaGreatDoor
open Go.RowKit

def pSumG (P : List PT) : Nat → Bool → St → List PPart → List PPart × St
  | 0, _, s, ps => (ps, s)
  | n + 1, m, s, ps =>
    match (pSkip P [45] (pPart P m s).2).1 with
    | true => pSumG P n true (pSkip P [45] (pPart P m s).2).2 (ps ++ [(pPart P m s).1])
    | false =>
      match (pSkip P [43] (pSkip P [45] (pPart P m s).2).2).1 with
      | true => pSumG P n false (pSkip P [43] (pSkip P [45] (pPart P m s).2).2).2 (ps ++ [(pPart P m s).1])
      | false => (ps ++ [(pPart P m s).1], (pSkip P [43] (pSkip P [45] (pPart P m s).2).2).2)

def pSum (P : List PT) (s : St) : List PPart × St := pSumG P P.length false s []

def partC (x : PPart) : List Value := [.bool x.minus, .bool x.starred, .int .i64 x.num, .string ⟨x.name.toArray⟩]
def flatS (ps : List PPart) : List Value := ps.flatMap partC
theorem flatS_snoc (ps : List PPart) (x : PPart) : flatS (ps ++ [x]) = flatS ps ++ partC x := by simp [flatS]

theorem adv_le (b : Bool) (a : Nat) : a ≤ adv b a := by cases b <;> simp [adv]
theorem pPart_mono (P : List PT) (m : Bool) (s : St) : s.1 ≤ (pPart P m s).2.1 := by
  have h1 := adv_le (takeB P 3 s.1 s.2) s.1
  have h2 := adv_le (takeB P 2 s.1 s.2) s.1
  unfold pPart
  split
  · have h3 := adv_le (skipB P [42] (pNumber P s).2.1 (pNumber P s).2.2) (pNumber P s).2.1
    split
    · have h4 := adv_le (takeB P 2 (pSkip P [42] (pNumber P s).2).2.1 (pSkip P [42] (pNumber P s).2).2.2) (pSkip P [42] (pNumber P s).2).2.1
      simp only [pName, pSkip, pNumber] at h3 h4 ⊢; omega
    · simp only [pSkip, pNumber] at h3 ⊢; omega
  · exact h2

theorem pSkip_true {P : List PT} {t : Bs} {s : St} (h : (pSkip P t s).1 = true) : (pSkip P t s).2.1 = s.1 + 1 := by
  simp only [pSkip] at h ⊢; rw [h]; rfl
theorem pSkip_mono (P : List PT) (t : Bs) (s : St) : s.1 ≤ (pSkip P t s).2.1 := adv_le _ _

theorem owns_keeps {w w' : World} {B R : Nat} {e : TypeId} {size : Nat} {v : Value} {n : Nat} {xs : List Value} (h : w.ownsRow B e size v n xs) (hb : Keeps w.heap.size R w w') (hR : R < B) : w'.ownsRow B e size v n xs := by
  refine ⟨h.1, ?_⟩
  rcases h.2 with h1 | ⟨g, cap, cur, h1, h2, h3, r⟩
  · exact .inl h1
  · refine .inr ⟨g, cap, cur, h1, h2, ?_, r⟩
    have hg : g < w.heap.size := by
      rcases Nat.lt_or_ge g w.heap.size with h | h
      · exact h
      · rw [Array.getElem?_eq_none h] at h3; cases h3
    rw [hb.block g hg (by omega)]; exact h3

theorem lt_set {w : World} {a : Addr} {v : Value} {k : Nat} (h : k < w.heap.size) : k < (w.setCell a v).heap.size := by rw [size_setCell]; exact h
theorem lt_new {w : World} {o : Obj} {k : Nat} (h : k < w.heap.size) : k < (w.alloc o).heap.size := by simp; omega
theorem lt_end (w : World) (o : Obj) : w.heap.size < (w.alloc o).heap.size := by simp
theorem lt_drew {w : World} {k : Nat} (h : k < w.heap.size) : k < w.drew.heap.size := h

theorem infoPart : (Tryz.prog.info? 301).map (fun i => (i.zero, i.size, i.bytes)) = some (some (.agg #[.bool false, .bool false, .int .i64 0, .string ⟨#[]⟩]), 4, 32) := by kernel_rfl

/-- A context behind an append to a row of the call's own. -/
theorem Ctx.grown {w w' : World} {R g cap : Nat} {P : List PT} {s : St} {row : Option Nat} (h : CtxS w R g cap P s) (hg : w.grownBy w' row) (h1 : row ≠ some R) (h2 : row ≠ some g) : CtxS w' R g cap P s := by
  refine ⟨?_, ?_, h.gR, Nat.lt_of_lt_of_le h.glt hg.size, h.at', h.cap1, h.cap2, h.many, h.endk⟩
  · rw [hg.block R h.rlt (Ne.symm h1)]; exact h.blk
  · intro i hi
    have hb : ∀ o, w'.cell? ⟨g, o, none⟩ = w.cell? ⟨g, o, none⟩ := fun o => World.cell?_of_block (w := w) (hg.block g h.glt (Ne.symm h2))
    rw [hb, hb, hb, hb]; exact h.tok i hi

theorem Keeps.grown {B R : Nat} {a w w' : World} {row : Option Nat} (h : Keeps B R a w) (hg : w.grownBy w' row) (hB : B ≤ w.heap.size) (hr : ∀ k, row = some k → B ≤ k) : Keeps B R a w' :=
  h.trans ⟨hg.os, hg.tape, hg.output, hg.size, fun k hk _ => hg.block k (by omega) (fun e => by have := hr k e.symm; omega)⟩

/-- Where the reader stands, read off memory. -/
def rdAt (w : World) (R : Nat) : Nat := match w.cell? ⟨R, 1, none⟩ with | some v => (intOf v).toNat | none => 0
def sumMeas (L R : Nat) (ov : Value) (w : World) : Nat := match ov with | .bool true => L - rdAt w R | _ => 0
theorem Ctx.rdAt {w : World} {R g cap : Nat} {P : List PT} {s : St} (h : CtxS w R g cap P s) : rdAt w R = s.1 := by
  unfold Go.Proofs.YtnbpdffdnphbeaaGreatDoor.rdAt; rw [h.cells.2.1]; simp [intOf]
theorem Ctx.meas {w : World} {R g cap : Nat} {P : List PT} {s : St} (h : CtxS w R g cap P s) : sumMeas P.length R (.bool true) w = P.length - s.1 := by
  simp only [sumMeas]; rw [Ctx.rdAt h]

set_option maxHeartbeats 1000000 in
theorem sum_s (w : World) (R g cap : Nat) (P : List PT) (s0 : St) (h : CtxS w R g cap P s0) :
    Calls Tryz.prog 213 #[.pointer (some ⟨R, 0, none⟩)] w fun e w' => ∃ v, e = .returned v ∧ w'.ownsRow w.heap.size 301 4 v (pSum P s0).1.length (flatS (pSum P s0).1) ∧ CtxS w' R g cap P (pSum P s0).2 ∧ Keeps w.heap.size R w w' := by
  obtain ⟨i0, hi0, hz0, hz1, hz2⟩ := info_parts infoPart
  have hR := h.rlt
  have hg := h.glt
  have hmany := h.many
  have hat := h.at'
  have HC := hideP2 h
  obtain ⟨B, hB⟩ : ∃ B, B = w.heap.size := ⟨_, rfl⟩
  have HB : Hid (B = w.heap.size) := hB
  rw [← hB]
  have hRB : R < B := by omega
  have hgB : g < B := by omega
  have HF : Hid (pSum P s0 = pSumG P P.length false s0 []) := rfl
  generalize pSum P s0 = F at *
  clear h hB hR hg
  go_enter Tryz.func213, Tryz.ntmps213
  go_wp2_with fail
  have h0 : (w.alloc (.cells #[] 301)).ownsRow B 301 4 (.slice (some ⟨w.heap.size, 0, none⟩) 0 0) 0 (flatS []) :=
    ⟨rfl, .inr ⟨w.heap.size, 0, #[], rfl, by rw [HB.out]; exact Nat.le_refl _, heap_alloc_new w _, Nat.le_refl _, by simp [maxLen], rfl, rfl⟩⟩
  have H0 := hideP2 h0
  clear h0
  go_loopw [3, 4, 5] (fun pv mv ov wr => ∃ (n : Nat) (s : St) (ps : List PPart) (m o : Bool), mv = .bool m ∧ ov = .bool o ∧ wr.ownsRow B 301 4 pv ps.length (flatS ps) ∧ Hid (CtxS wr R g cap P s) ∧ Hid (Keeps w.heap.size R w wr) ∧ Hid ((o = true → ps.length ≤ s.1 ∧ P.length - s.1 ≤ n ∧ pSumG P n m s ps = F) ∧ (o = false → (ps, s) = F))) (fun _ _ ov wr => sumMeas P.length R ov wr)
  case atStart => exact ⟨P.length, s0, [], false, true, rfl, rfl, H0.out, hideP2 (Ctx.alloc HC.out _), hideP2 (Keeps.new (Keeps.refl _ _ _)), hideP2 ⟨fun _ => ⟨Nat.zero_le _, by omega, HF.out.symm⟩, fun h => by cases h⟩⟩
  case round =>
    obtain ⟨n, s, ps, m, o, rfl, rfl, hown, HCr, HKr, HH⟩ := hrel
    clear H0 HF
    cases o with
    | false =>
      have HE := hideP2 (HH.out.2 rfl)
      clear HH
      go_wp2_with fail
      go_ret
      obtain rfl := HE.out
      exact ⟨_, rfl, hown, HCr.out, by rw [HB.out]; exact HKr.out⟩
    | true =>
      obtain ⟨hps, hn, hE⟩ := HH.out.1 rfl
      have hat := HCr.out.at'
      have HM : Hid (sumMeas P.length R (.bool true) wr = P.length - s.1) := HCr.out.meas
      obtain ⟨n, rfl⟩ : ∃ k, n = k + 1 := ⟨n - 1, by omega⟩
      have hpm := pPart_mono P m s
      have HPart := hideP2 (part_s wr R g cap P m s HCr.out)
      rw [pSumG] at hE
      have HE := hideP2 hE
      clear HH hE
      have hBr : B ≤ wr.heap.size := by have h1 := HKr.out.size; have h2 := HB.out; omega
      go_wp2_with fail
      refine HPart.out.mono ?_
      rintro e w1 ⟨rfl, hc1, hk1⟩
      have hown1 := owns_keeps hown hk1 hRB
      have HK1 : Hid (Keeps w.heap.size R w w1) := HKr.out.step hk1
      have HC1 := hideP2 hc1
      have hB1 : B ≤ w1.heap.size := Nat.le_trans hBr hk1.size
      have HOB := hideP2 (own_block_lt hown1)
      have hpc : ∀ x : PPart, partC x = [.bool x.minus, .bool x.starred, .int .i64 x.num, .string ⟨x.name.toArray⟩] := fun _ => rfl
      generalize hx : pPart P m s = px at *
      obtain ⟨x, s1⟩ := px
      simp only at hpm HC1 HE
      obtain ⟨xm, xs, xn, xnm⟩ := x
      simp only [partV]
      have HX := hideP2 hx
      clear hx hc1 hk1 hown HPart HCr HKr hpc
      go_wp2_with (at_builtin; refine wpList_append_own _ rfl _ _ 229 rfl B 301 i0 _ 4 32 Tryz.underlying229 hi0 hz0 hz1 hz2 rfl (by decide) _ _ _ rfl ((hown1.alloc _).alloc _) ⟨w1.heap.size + 1, 0, none⟩ 1 1 (partC ⟨xm, xs, xn, xnm⟩) rfl rfl ?c1 ?c2 ?c3 ?c4 ?c5 ?_)
      case c1 => exact news_cellsH _ _ _ _ rfl (by simp)
      case c2 => intro u hu; simp [partC] at hu; rcases hu with rfl | rfl | rfl | rfl <;> rfl
      case c3 => unfold maxLen; omega
      case c4 => omega
      case c5 => simp; omega
      intro v' w2 hown2 hgrow _
      have hc2 : CtxS w2 R g cap P s1 := Ctx.grown (Ctx.alloc (Ctx.alloc HC1.out _) _) hgrow
        (fun e => by have h1 := (HOB.out R e).1; omega) (fun e => by have h1 := (HOB.out g e).1; omega)
      have HC2 := hideP2 hc2
      have HK2 : Hid (Keeps w.heap.size R w w2) := Keeps.grown (Keeps.new (Keeps.new HK1.out)) hgrow (by simp; have h1 := HB.out; omega) (fun k hk => by have h1 := (HOB.out k hk).1; have h2 := HB.out; omega)
      have hown2' : w2.ownsRow B 301 4 v' (ps ++ [PPart.mk xm xs xn xnm]).length (flatS (ps ++ [PPart.mk xm xs xn xnm])) := by rw [flatS_snoc, List.length_append]; exact hown2
      have hB2 : B ≤ w2.heap.size := by have h1 := HK2.out.size; have h2 := HB.out; omega
      clear hown1 hown2 hgrow HOB HC1 HK1 hc2
      go_wp2_with fail
      refine (skip_s R g cap P _ s1 [45] HC2.out).mono ?_
      rintro e w3 ⟨rfl, hc3, hk3⟩
      have hown3 := owns_keeps hown2' hk3 hRB
      have HK3 : Hid (Keeps w.heap.size R w w3) := HK2.out.step hk3
      have HC3 := hideP2 hc3
      clear hown2' hk3 hc3 HK2 HC2
      cases hs1 : (pSkip P [45] s1).1
      · have hE2 := HE.out
        simp only [hs1] at hE2
        have HE2 := hideP2 hE2
        clear hE2 HE
        generalize hy : (pSkip P [45] s1).2 = s2 at *
        have hmono : s1.1 ≤ s2.1 := by rw [← hy]; exact pSkip_mono P [45] s1
        clear hs1 hy
        go_wp2_with fail
        refine (skip_s R g cap P _ s2 [43] HC3.out).mono ?_
        rintro e w4 ⟨rfl, hc4, hk4⟩
        have hown4 := owns_keeps hown3 hk4 hRB
        have HK4 : Hid (Keeps w.heap.size R w w4) := HK3.out.step hk4
        have HC4 := hideP2 hc4
        clear hown3 hk4 hc4 HK3 HC3
        cases hs2 : (pSkip P [43] s2).1
        · have hE2 := HE2.out
          simp only [hs2] at hE2
          have HE3 := hideP2 hE2
          clear hE2 HE2 hs2
          go_wp2_with fail
          go_roundw
          case rel => exact ⟨0, _, _, false, false, rfl, rfl, hown4, HC4, HK4, hideP2 ⟨(fun h => by cases h), fun _ => HE3.out⟩⟩
          case measure => rw [HM.out]; simp only [sumMeas]; omega
        · have hE2 := HE2.out
          simp only [hs2] at hE2
          have HE3 := hideP2 hE2
          have hst := pSkip_true hs2
          clear hE2 HE2 hs2
          have hat4 := HC4.out.at'
          go_wp2_with fail
          go_roundw
          case rel => exact ⟨n, _, _, false, true, rfl, rfl, hown4, HC4, HK4, hideP2 ⟨fun _ => ⟨by rw [List.length_append, hst]; simp only [List.length_cons, List.length_nil]; omega, by rw [hst]; omega, HE3.out⟩, fun h => by cases h⟩⟩
          case measure => rw [HM.out, Ctx.meas HC4.out, hst]; omega
      · have hE2 := HE.out
        simp only [hs1] at hE2
        have HE3 := hideP2 hE2
        have hst := pSkip_true hs1
        clear hE2 HE hs1
        have hat3 := HC3.out.at'
        go_wp2_with fail
        go_roundw
        case rel => exact ⟨n, _, _, true, true, rfl, rfl, hown3, HC3, HK3, hideP2 ⟨fun _ => ⟨by rw [List.length_append, hst]; simp only [List.length_cons, List.length_nil]; omega, by rw [hst]; omega, HE3.out⟩, fun h => by cases h⟩⟩
        case measure => rw [HM.out, Ctx.meas HC3.out, hst]; omega
end Go.Proofs.YtnbpdffdnphbeaaGreatDoor
