/- What makeNode of the program's model gives. -/
import Derived.Test.YtnbpdffdnphbeaaGreatRnkLaw
import Derived.Test.YtnbpdffdnphbeaaGreatMAbv
import Derived.Deep.CutBlock
namespace Go.Proofs.YtnbpdffdnphbeaaGreat
open Go.RowKit

/-- The inputs and the conclusions of a model lie in memory. -/
structure NmsV (w : World) (b o : Nat) (I : List MInp) (C : List (Bs × Nat)) : Prop where
  inp : ∃ ia ic, w.cell? ⟨b, o, none⟩ = some (.slice ia I.length ic) ∧ CelV w ia (I.flatMap minpC)
  con : ∃ ca cc, w.cell? ⟨b, o + 1, none⟩ = some (.slice ca C.length cc) ∧ CelV w ca (C.flatMap lvlC)
  few1 : I.length ≤ 10000
  few2 : C.length ≤ 10000
theorem NmsV.below {w w' : World} {b o : Nat} {I : List MInp} {C : List (Bs × Nat)} (h : NmsV w b o I C) (hb : Below w.heap.size w w') : NmsV w' b o I C := by
  obtain ⟨ia, ic, h1, h2⟩ := h.inp
  obtain ⟨ca, cc, h3, h4⟩ := h.con
  exact ⟨⟨ia, ic, by rw [hb.cell (p := ⟨b, o, none⟩) (cell_lt h1)]; exact h1, h2.below hb⟩, ⟨ca, cc, by rw [hb.cell (p := ⟨b, o + 1, none⟩) (cell_lt h3)]; exact h3, h4.below hb⟩, h.few1, h.few2⟩
theorem NmsV.find {w : World} {b o : Nat} {I : List MInp} {C : List (Bs × Nat)} (h : NmsV w b o I C) (nm : Bs) : Calls Tryz.prog 100 #[.pointer (some ⟨b, o, none⟩), .string ⟨nm.toArray⟩] w fun e w' => e = .returned (.int .i64 (findN (I.map MInp.name) nm)) ∧ Below w.heap.size w w' := by
  obtain ⟨ia, ic, h1, h2⟩ := h.inp
  exact FindInput_s w b o ia ic I nm h1 h2 h.few1
theorem NmsV.findC {w : World} {b o : Nat} {I : List MInp} {C : List (Bs × Nat)} (h : NmsV w b o I C) (nm : Bs) : Calls Tryz.prog 86 #[.pointer (some ⟨b, o, none⟩), .string ⟨nm.toArray⟩] w fun e w' => e = .returned (.int .i64 (findN (C.map Prod.fst) nm)) ∧ Below w.heap.size w w' := by
  obtain ⟨ca, cc, h1, h2⟩ := h.con
  exact findConc_s w b o ca cc C nm h1 h2 h.few2

def ndC (y : MNode) : Array Value := #[.int .i64 y.kind, .int .i64 y.left, .int .i64 y.right, .int .i64 y.place, .bool y.two, .int .i64 y.other, .int .i64 y.num, .bool y.less, .bool y.equal, .bool y.more]
def ndO (y : MNode) : Obj := .cells (ndC y) 161 (0, 0)
def nsO (x : PNode) : Obj := .cells #[.int .i64 x.kind, .int .i64 x.left, .int .i64 x.right, .string ⟨x.name.toArray⟩, .string ⟨x.mark.toArray⟩, .string ⟨x.other.toArray⟩, .int .i64 x.num] 122 (0, 0)
theorem ndInfo (y : MNode) : (Tryz.prog.info? 161).map (·.size) = some (ndC y).size := by show _ = some 10; kernel_rfl
/-- How it stands with memory on the way: the node that is read, the answer's room, the node that is made. -/
structure NdS (w W : World) (x : PNode) (y : MNode) : Prop where
  src : W.heap[w.heap.size]? = some (nsO x)
  res : W.heap[w.heap.size + 1]? = some (ndO mn0)
  mad : W.heap[w.heap.size + 1 + 1]? = some (ndO y)
  bel : Below w.heap.size w W
theorem NdS.below {w W W' : World} {x : PNode} {y : MNode} (h : NdS w W x y) (hb : Below W.heap.size W W') : NdS w W' x y :=
  ⟨by rw [hb.block _ (hlt_of h.src)]; exact h.src, by rw [hb.block _ (hlt_of h.res)]; exact h.res, by rw [hb.block _ (hlt_of h.mad)]; exact h.mad, h.bel.trans (hb.mono h.bel.size)⟩
theorem NdS.set {w W : World} {x : PNode} {y y' : MNode} (h : NdS w W x y) {j : Nat} {v : Value} (e : (ndC y).setIfInBounds j v = ndC y') : NdS w (W.setCell ⟨w.heap.size + 1 + 1, j, none⟩ v) x y' :=
  ⟨by rw [Below.heap_setCell _ _ _ _ (show w.heap.size ≠ w.heap.size + 1 + 1 by omega)]; exact h.src, by rw [Below.heap_setCell _ _ _ _ (show w.heap.size + 1 ≠ w.heap.size + 1 + 1 by omega)]; exact h.res, by have h1 := h.mad; unfold ndO at h1 ⊢; rw [heap_setCell_same W _ j _ _ _ h1, ← e], h.bel.setCell (p := ⟨w.heap.size + 1 + 1, j, none⟩) (show w.heap.size ≤ w.heap.size + 1 + 1 by omega) _⟩
theorem NdS.cells {w W : World} {x : PNode} {y : MNode} (h : NdS w W x y) : (W.cell? ⟨w.heap.size, 0, none⟩ = some (.int .i64 x.kind) ∧ W.cell? ⟨w.heap.size, 3, none⟩ = some (.string ⟨x.name.toArray⟩) ∧ W.cell? ⟨w.heap.size, 4, none⟩ = some (.string ⟨x.mark.toArray⟩) ∧ W.cell? ⟨w.heap.size, 5, none⟩ = some (.string ⟨x.other.toArray⟩)) ∧
    (W.cell? ⟨w.heap.size + 1 + 1, 3, none⟩ = some (.int .i64 y.place) ∧ W.cell? ⟨w.heap.size + 1 + 1, 4, none⟩ = some (.bool y.two) ∧ W.cell? ⟨w.heap.size + 1 + 1, 5, none⟩ = some (.int .i64 y.other) ∧ W.cell? ⟨w.heap.size + 1 + 1, 7, none⟩ = some (.bool y.less) ∧ W.cell? ⟨w.heap.size + 1 + 1, 8, none⟩ = some (.bool y.equal) ∧ W.cell? ⟨w.heap.size + 1 + 1, 9, none⟩ = some (.bool y.more)) ∧
    (W.frozen? ⟨w.heap.size + 1 + 1, 3, none⟩ = false ∧ W.frozen? ⟨w.heap.size + 1 + 1, 4, none⟩ = false ∧ W.frozen? ⟨w.heap.size + 1 + 1, 5, none⟩ = false ∧ W.frozen? ⟨w.heap.size + 1 + 1, 7, none⟩ = false ∧ W.frozen? ⟨w.heap.size + 1 + 1, 8, none⟩ = false ∧ W.frozen? ⟨w.heap.size + 1 + 1, 9, none⟩ = false) := by
  have h1 := h.src
  unfold nsO at h1
  have h2 := h.mad
  unfold ndO ndC at h2
  have hf : ∀ j, W.frozen? ⟨w.heap.size + 1 + 1, j, none⟩ = false := fun j => by simp [World.frozen?, h2]
  exact ⟨⟨(cell_row h1 0).trans rfl, (cell_row h1 3).trans rfl, (cell_row h1 4).trans rfl, (cell_row h1 5).trans rfl⟩, ⟨(cell_row h2 3).trans rfl, (cell_row h2 4).trans rfl, (cell_row h2 5).trans rfl, (cell_row h2 7).trans rfl, (cell_row h2 8).trans rfl, (cell_row h2 9).trans rfl⟩, hf 3, hf 4, hf 5, hf 7, hf 8, hf 9⟩

set_option maxRecDepth 100000 in
set_option maxHeartbeats 10000000 in
theorem makeNode_s (w : World) (b o : Nat) (I : List MInp) (C : List (Bs × Nat)) (h : NmsV w b o I C) (x : PNode) :
    Calls Tryz.prog 88 #[.pointer (some ⟨b, o, none⟩), nodeV x] w fun e w' => e = .returned (mnodeV (mnodeOf (I.map MInp.name) (C.map Prod.fst) x)) ∧ Below w.heap.size w w' := by
  have HF := hideP2 (fun w' (hb : Below w.heap.size w w') nm => (h.below hb).find nm)
  have HC := hideP2 (fun w' (hb : Below w.heap.size w w') nm => (h.below hb).findC nm)
  have HPl : Hid (mnP (I.map MInp.name) (C.map Prod.fst) x = if x.kind = 5 then findN (C.map Prod.fst) x.name else if x.kind = 6 ∨ x.kind = 7 then findN (I.map MInp.name) x.name else 0) := rfl
  have HOt : Hid (mnO (I.map MInp.name) x = if x.other = [] then 0 else findN (I.map MInp.name) x.other) := rfl
  have HA : Hid (mnodeOf (I.map MInp.name) (C.map Prod.fst) x = ⟨x.kind, x.left, x.right, mnP (I.map MInp.name) (C.map Prod.fst) x, decide (x.other ≠ []), mnO (I.map MInp.name) x, x.num, mLess x.mark, mEqual x.mark, mMore x.mark⟩) := rfl
  have HLs : Hid (∀ m, mLess m = decide (m = [60] ∨ m = [60, 61] ∨ m = [33, 61])) := fun _ => rfl
  have HEq : Hid (∀ m, mEqual m = decide (m = [60, 61] ∨ m = [61] ∨ m = [62, 61])) := fun _ => rfl
  have HMo : Hid (∀ m, mMore m = decide (m = [62] ∨ m = [62, 61] ∨ m = [33, 61])) := fun _ => rfl
  generalize mnodeOf (I.map MInp.name) (C.map Prod.fst) x = ans at *
  generalize mnP (I.map MInp.name) (C.map Prod.fst) x = pl at *
  generalize mnO (I.map MInp.name) x = oth at *
  clear h
  obtain ⟨kd, lf, rg, nm, mk, ot, nu⟩ := x
  simp only at HA HPl HOt
  replace HLs := hideP2 (HLs.out mk)
  replace HEq := hideP2 (HEq.out mk)
  replace HMo := hideP2 (HMo.out mk)
  generalize mLess mk = ls at *
  generalize mEqual mk = eq at *
  generalize mMore mk = mo at *
  have HF1 := hideP2 (fun w' hb => HF.out w' hb nm)
  have HF2 := hideP2 (fun w' hb => HF.out w' hb ot)
  have HC1 := hideP2 (fun w' hb => HC.out w' hb nm)
  clear HF HC
  generalize findN (I.map MInp.name) nm = f1 at *
  generalize findN (I.map MInp.name) ot = f3 at *
  generalize findN (C.map Prod.fst) nm = f2 at *
  simp only [nodeV]
  have HS0 : Hid (NdS w (((w.alloc (nsO ⟨kd, lf, rg, nm, mk, ot, nu⟩)).alloc (ndO mn0)).alloc (ndO ⟨kd, lf, rg, 0, false, 0, nu, false, false, false⟩)) ⟨kd, lf, rg, nm, mk, ot, nu⟩ ⟨kd, lf, rg, 0, false, 0, nu, false, false, false⟩) := ⟨hb_new (hb_new (hb_end _ _)), hb_new (hb_endK _ _ _ (by simp)), hb_endK _ _ _ (by simp), (((Below.refl _ _).alloc (Nat.le_refl _) _).alloc (by simp) _).alloc (by simp; omega) _⟩
  go_enter Tryz.func88, Tryz.ntmps88
  go_upto_block 0 with fail
  go_cut [5] from 6 to 62 (fun v5 wx => v5 = .pointer (some ⟨w.heap.size + 1 + 1, 0, none⟩) ∧ Hid (NdS w wx ⟨kd, lf, rg, nm, mk, ot, nu⟩ ⟨kd, lf, rg, pl, false, 0, nu, false, false, false⟩))
  case first =>
    by_cases k5 : kd = 5
    · subst k5
      have HP2 : Hid (pl = f2) := HPl.out.trans (if_pos rfl)
      go_wp2_with fail
      refine (HC1.out _ HS0.out.bel).mono ?_
      rintro e w4 ⟨rfl, hb4⟩
      have HS4 := hideP2 (HS0.out.below hb4)
      obtain ⟨⟨s0, s3, s4, s5⟩, ⟨m3, m4, m5, m7, m8, m9⟩, z3, z4, z5, z7, z8, z9⟩ := HS4.out.cells
      simp only at s0 s3 s4 s5 m3 m4 m5 m7 m8 m9
      clear hb4
      go_wp2_with fail
      go_meet
      exact ⟨rfl, hideP2 (HS4.out.set (by rw [HP2.out]; rfl))⟩
    · by_cases k67 : kd = 6 ∨ kd = 7
      · have HP2 : Hid (pl = f1) := HPl.out.trans ((if_neg k5).trans (if_pos k67))
        have b5 : (kd == 5) = false := by simpa using k5
        rcases k67 with rfl | rfl
        · go_wp2_with fail
          refine (HF1.out _ HS0.out.bel).mono ?_
          rintro e w4 ⟨rfl, hb4⟩
          have HS4 := hideP2 (HS0.out.below hb4)
          obtain ⟨⟨s0, s3, s4, s5⟩, ⟨m3, m4, m5, m7, m8, m9⟩, z3, z4, z5, z7, z8, z9⟩ := HS4.out.cells
          simp only at s0 s3 s4 s5 m3 m4 m5 m7 m8 m9
          clear hb4
          go_wp2_with fail
          go_meet
          exact ⟨rfl, hideP2 (HS4.out.set (by rw [HP2.out]; rfl))⟩
        · go_wp2_with fail
          refine (HF1.out _ HS0.out.bel).mono ?_
          rintro e w4 ⟨rfl, hb4⟩
          have HS4 := hideP2 (HS0.out.below hb4)
          obtain ⟨⟨s0, s3, s4, s5⟩, ⟨m3, m4, m5, m7, m8, m9⟩, z3, z4, z5, z7, z8, z9⟩ := HS4.out.cells
          simp only at s0 s3 s4 s5 m3 m4 m5 m7 m8 m9
          clear hb4
          go_wp2_with fail
          go_meet
          exact ⟨rfl, hideP2 (HS4.out.set (by rw [HP2.out]; rfl))⟩
      · have HP2 : Hid (pl = 0) := HPl.out.trans ((if_neg k5).trans (if_neg k67))
        have b5 : (kd == 5) = false := by simpa using k5
        have b6 : (kd == 6) = false := by simpa using fun e => k67 (.inl e)
        have b7 : (kd == 7) = false := by simpa using fun e => k67 (.inr e)
        clear k5 k67
        go_wp2_with fail
        go_meet
        exact ⟨rfl, by rw [HP2.out]; exact HS0⟩
  case rest =>
    obtain ⟨rfl, HS1⟩ := hcut
    clear HS0 HPl HC1 HF1
    obtain ⟨⟨s0, s3, s4, s5⟩, ⟨m3, m4, m5, m7, m8, m9⟩, z3, z4, z5, z7, z8, z9⟩ := HS1.out.cells
    simp only at s0 s3 s4 s5 m3 m4 m5 m7 m8 m9
    go_upto_if 34 with fail
    go_cut [5] from 6 to 62 (fun v5 wx => v5 = .pointer (some ⟨w.heap.size + 1 + 1, 0, none⟩) ∧ Hid (NdS w wx ⟨kd, lf, rg, nm, mk, ot, nu⟩ ⟨kd, lf, rg, pl, decide (ot ≠ []), oth, nu, false, false, false⟩))
    case first =>
      by_cases ko : ot = []
      · subst ko
        have HO2 : Hid (oth = 0) := HOt.out.trans (if_pos rfl)
        go_wp2_with fail
        go_meet
        exact ⟨rfl, by rw [HO2.out]; exact HS1⟩
      · have HO2 : Hid (oth = f3) := HOt.out.trans (if_neg ko)
        have HDe : Hid (decide (ot ≠ []) = true) := decide_eq_true ko
        have b0 : List.isEmpty ot = false := by cases ot with | nil => exact absurd rfl ko | cons _ _ => rfl
        clear ko
        have b1 : (!List.isEmpty ot) = true := by rw [b0]; rfl
        rw [b1]
        have HS2 : Hid (NdS w (wc.setCell ⟨w.heap.size + 1 + 1, 4, none⟩ (.bool true)) ⟨kd, lf, rg, nm, mk, ot, nu⟩ ⟨kd, lf, rg, pl, true, 0, nu, false, false, false⟩) := HS1.out.set rfl
        go_wp2_with fail
        refine (HF2.out _ HS2.out.bel).mono ?_
        rintro e w4 ⟨rfl, hb4⟩
        have HS4 := hideP2 (HS2.out.below hb4)
        obtain ⟨⟨t0, t3, t4, t5⟩, ⟨n3, n4, n5, n7, n8, n9⟩, y3, y4, y5, y7, y8, y9⟩ := HS4.out.cells
        simp only at t0 t3 t4 t5 n3 n4 n5 n7 n8 n9
        clear hb4
        go_wp2_with fail
        go_meet
        exact ⟨rfl, hideP2 (HS4.out.set (by rw [HO2.out, HDe.out]; rfl))⟩
    case rest =>
      obtain ⟨rfl, HS2⟩ := hcut
      clear HS1 s0 s3 s4 s5 m3 m4 m5 m7 m8 m9 z3 z4 z5 z7 z8 z9 HF2 HOt
      generalize decide (ot ≠ []) = tw at *
      rename_i wd
      obtain ⟨⟨s0, s3, s4, s5⟩, ⟨m3, m4, m5, m7, m8, m9⟩, z3, z4, z5, z7, z8, z9⟩ := HS2.out.cells
      simp only at s0 s3 s4 s5 m3 m4 m5 m7 m8 m9
      go_upto_block 1 with fail
      go_cut [5] from 6 to 62 (fun v5 wx => v5 = .pointer (some ⟨w.heap.size + 1 + 1, 0, none⟩) ∧ Hid (NdS w wx ⟨kd, lf, rg, nm, mk, ot, nu⟩ ⟨kd, lf, rg, pl, tw, oth, nu, ls, false, false⟩))
      case first =>
        by_cases e0 : mk = [60]
        · subst e0
          have HV : Hid (ls = true) := HLs.out.trans (by decide)
          go_wp2_with fail
          go_meet
          exact ⟨rfl, hideP2 (HS2.out.set (by rw [HV.out]; rfl))⟩
        by_cases e1 : mk = [60, 61]
        · subst e1
          have HV : Hid (ls = true) := HLs.out.trans (by decide)
          go_wp2_with fail
          go_meet
          exact ⟨rfl, hideP2 (HS2.out.set (by rw [HV.out]; rfl))⟩
        by_cases e2 : mk = [33, 61]
        · subst e2
          have HV : Hid (ls = true) := HLs.out.trans (by decide)
          go_wp2_with fail
          go_meet
          exact ⟨rfl, hideP2 (HS2.out.set (by rw [HV.out]; rfl))⟩
        have HV : Hid (ls = false) := HLs.out.trans (decide_eq_false (by rintro (h | h | h); exact e0 h; exact e1 h; exact e2 h))
        have b0 : (mk == [60]) = false := by simpa using e0
        have b1 : (mk == [60, 61]) = false := by simpa using e1
        have b2 : (mk == [33, 61]) = false := by simpa using e2
        clear e0 e1 e2
        go_wp2_with fail
        go_meet
        exact ⟨rfl, by rw [HV.out]; exact HS2⟩
      case rest =>
        obtain ⟨rfl, HS3⟩ := hcut
        clear HS2 s0 s3 s4 s5 m3 m4 m5 m7 m8 m9 z3 z4 z5 z7 z8 z9
        obtain ⟨⟨s0, s3, s4, s5⟩, ⟨m3, m4, m5, m7, m8, m9⟩, z3, z4, z5, z7, z8, z9⟩ := HS3.out.cells
        simp only at s0 s3 s4 s5 m3 m4 m5 m7 m8 m9
        go_upto_block 2 with fail
        go_cut [5] from 6 to 62 (fun v5 wx => v5 = .pointer (some ⟨w.heap.size + 1 + 1, 0, none⟩) ∧ Hid (NdS w wx ⟨kd, lf, rg, nm, mk, ot, nu⟩ ⟨kd, lf, rg, pl, tw, oth, nu, ls, eq, false⟩))
        case first =>
          by_cases e0 : mk = [60, 61]
          · subst e0
            have HV : Hid (eq = true) := HEq.out.trans (by decide)
            go_wp2_with fail
            go_meet
            exact ⟨rfl, hideP2 (HS3.out.set (by rw [HV.out]; rfl))⟩
          by_cases e1 : mk = [61]
          · subst e1
            have HV : Hid (eq = true) := HEq.out.trans (by decide)
            go_wp2_with fail
            go_meet
            exact ⟨rfl, hideP2 (HS3.out.set (by rw [HV.out]; rfl))⟩
          by_cases e2 : mk = [62, 61]
          · subst e2
            have HV : Hid (eq = true) := HEq.out.trans (by decide)
            go_wp2_with fail
            go_meet
            exact ⟨rfl, hideP2 (HS3.out.set (by rw [HV.out]; rfl))⟩
          have HV : Hid (eq = false) := HEq.out.trans (decide_eq_false (by rintro (h | h | h); exact e0 h; exact e1 h; exact e2 h))
          have b0 : (mk == [60, 61]) = false := by simpa using e0
          have b1 : (mk == [61]) = false := by simpa using e1
          have b2 : (mk == [62, 61]) = false := by simpa using e2
          clear e0 e1 e2
          go_wp2_with fail
          go_meet
          exact ⟨rfl, by rw [HV.out]; exact HS3⟩
        case rest =>
          obtain ⟨rfl, HS4⟩ := hcut
          clear HS3 s0 s3 s4 s5 m3 m4 m5 m7 m8 m9 z3 z4 z5 z7 z8 z9
          obtain ⟨⟨s0, s3, s4, s5⟩, ⟨m3, m4, m5, m7, m8, m9⟩, z3, z4, z5, z7, z8, z9⟩ := HS4.out.cells
          simp only at s0 s3 s4 s5 m3 m4 m5 m7 m8 m9
          go_upto_block 3 with fail
          go_cut [5] from 6 to 62 (fun v5 wx => v5 = .pointer (some ⟨w.heap.size + 1 + 1, 0, none⟩) ∧ Hid (NdS w wx ⟨kd, lf, rg, nm, mk, ot, nu⟩ ⟨kd, lf, rg, pl, tw, oth, nu, ls, eq, mo⟩))
          case first =>
            by_cases e0 : mk = [62]
            · subst e0
              have HV : Hid (mo = true) := HMo.out.trans (by decide)
              go_wp2_with fail
              go_meet
              exact ⟨rfl, hideP2 (HS4.out.set (by rw [HV.out]; rfl))⟩
            by_cases e1 : mk = [62, 61]
            · subst e1
              have HV : Hid (mo = true) := HMo.out.trans (by decide)
              go_wp2_with fail
              go_meet
              exact ⟨rfl, hideP2 (HS4.out.set (by rw [HV.out]; rfl))⟩
            by_cases e2 : mk = [33, 61]
            · subst e2
              have HV : Hid (mo = true) := HMo.out.trans (by decide)
              go_wp2_with fail
              go_meet
              exact ⟨rfl, hideP2 (HS4.out.set (by rw [HV.out]; rfl))⟩
            have HV : Hid (mo = false) := HMo.out.trans (decide_eq_false (by rintro (h | h | h); exact e0 h; exact e1 h; exact e2 h))
            have b0 : (mk == [62]) = false := by simpa using e0
            have b1 : (mk == [62, 61]) = false := by simpa using e1
            have b2 : (mk == [33, 61]) = false := by simpa using e2
            clear e0 e1 e2
            go_wp2_with fail
            go_meet
            exact ⟨rfl, by rw [HV.out]; exact HS4⟩
          case rest =>
            obtain ⟨rfl, HS5⟩ := hcut
            clear HS4 s0 s3 s4 s5 m3 m4 m5 m7 m8 m9 z3 z4 z5 z7 z8 z9
            obtain ⟨⟨s0, s3, s4, s5⟩, ⟨m3, m4, m5, m7, m8, m9⟩, z3, z4, z5, z7, z8, z9⟩ := HS5.out.cells
            simp only at s0 s3 s4 s5 m3 m4 m5 m7 m8 m9
            go_wp2_with (first
              | (refine wpList_load_row ?hgd 161 (.tmp 5) ?ho (w.heap.size + 1 + 1) ?hx 161 (ndC ⟨kd, lf, rg, pl, tw, oth, nu, ls, eq, mo⟩) (0, 0) _ HS5.out.mad Tryz.underlying161 rfl (ndInfo _) ?_
                 case ho => rfl
                 case hgd => rfl
                 case hx => rfl)
              | (refine wpList_store_row ?hgd 161 (.tmp 4) (.tmp 62) ?ho (w.heap.size + 1) (ndC ⟨kd, lf, rg, pl, tw, oth, nu, ls, eq, mo⟩) ?hx ?hy 161 (ndC mn0) HS5.out.res (ndInfo _) rfl (by simp [ndC, Value.oneCell']) ?_
                 case ho => rfl
                 case hgd => rfl
                 case hx => rfl
                 case hy => rfl))
            refine bodyPost_ret (v := mnodeV ⟨kd, lf, rg, pl, tw, oth, nu, ls, eq, mo⟩) (results_cell_row Tryz.results88 _ _ (w.heap.size + 1) 161 (ndC ⟨kd, lf, rg, pl, tw, oth, nu, ls, eq, mo⟩) (0, 0) _ rfl (setRow_heap _ _ _ _ _ _ HS5.out.res) Tryz.underlying161 rfl (ndInfo _)) rfl ⟨by rw [HA.out], below_row HS5.out.bel (by omega) _⟩
end Go.Proofs.YtnbpdffdnphbeaaGreat
