/- What comparison of the reader gives: the mark that compares, or nothing. -/
import Derived.Test.YtnbpdffdnphbeaaGreatDoorPars
namespace Go.Proofs.YtnbpdffdnphbeaaGreatDoor
open Go.RowKit

def cmpL : List Bs := [[60], [60, 61], [61], [33, 61], [62, 61], [62]]
def pComp (P : List PT) (s : St) : Bs × St :=
  match cmpL.contains (cur P s.1).s with
  | true => match (pSkip P (cur P s.1).s s).1 with
    | true => ((cur P s.1).s, (pSkip P (cur P s.1).s s).2)
    | false => ([], (pSkip P (cur P s.1).s s).2)
  | false => ([], s)

set_option maxHeartbeats 1000000 in
theorem comparison_s (w : World) (R g cap : Nat) (P : List PT) (s : St) (h : CtxS w R g cap P s) :
    Calls Tryz.prog 261 #[.pointer (some ⟨R, 0, none⟩)] w fun e w' => e = .returned (.string ⟨(pComp P s).1.toArray⟩) ∧ CtxS w' R g cap P (pComp P s).2 ∧ Keeps w.heap.size R w w' := by
  obtain ⟨c0, c1, _⟩ := h.cells
  obtain ⟨_, t1, _, _⟩ := h.tok s.1 h.at'
  have i1 : (0 : Int) ≤ (s.1 : Int) := by omega
  have i2 : (s.1 : Int) < (P.length : Int) := by have := h.at'; omega
  have HC := hideP2 h
  have HP : Hid (pComp P s = match cmpL.contains (cur P s.1).s with | true => (match (pSkip P (cur P s.1).s s).1 with | true => ((cur P s.1).s, (pSkip P (cur P s.1).s s).2) | false => ([], (pSkip P (cur P s.1).s s).2)) | false => ([], s)) := rfl
  generalize (cur P s.1).s = x at *
  generalize pComp P s = F at *
  clear h
  by_cases c0' : x = [60]
  · subst c0'
    have hP := HP.out
    rw [show cmpL.contains [60] = true from by decide] at hP
    have HP2 := hideP2 hP
    clear HP hP
    go_enter Tryz.func261, Tryz.ntmps261
    go_wp2_with fail
    go_region_held3 (fun w' => w'.cell? ⟨R, 0, none⟩ = some (.slice (some ⟨g, 0, none⟩) P.length cap) ∧ w'.cell? ⟨R, 1, none⟩ = some (.int .i64 s.1) ∧ w'.cell? ⟨g, s.1 * 4 + 1, none⟩ = some (.string ⟨[60].toArray⟩)) (go_keep) (fail)
    go_wp2_with fail
    refine (skip_s R g cap P _ s [60] (Ctx.drew HC.out)).mono ?_
    rintro e w1 ⟨rfl, hc1, hk1⟩
    have HC1 := hideP2 hc1
    have HK1 : Hid (Keeps w.heap.size R w w1) := Keeps.step (Keeps.drew (Keeps.refl _ _ _)) hk1
    clear hc1 hk1
    cases hs : (pSkip P [60] s).1
    · have hP := HP2.out
      simp only [hs] at hP
      have HP3 := hideP2 hP
      clear HP2 hP hs
      go_wp2_with fail
      go_ret
      exact ⟨ret_str (by rw [HP3.out]), by rw [HP3.out]; exact HC1.out, HK1.out⟩
    · have hP := HP2.out
      simp only [hs] at hP
      have HP3 := hideP2 hP
      clear HP2 hP hs
      go_wp2_with fail
      go_ret
      exact ⟨ret_str (by rw [HP3.out]), by rw [HP3.out]; exact HC1.out, HK1.out⟩
  by_cases c1' : x = [60, 61]
  · subst c1'
    have hP := HP.out
    rw [show cmpL.contains [60, 61] = true from by decide] at hP
    have HP2 := hideP2 hP
    clear HP hP
    go_enter Tryz.func261, Tryz.ntmps261
    go_wp2_with fail
    go_region_held3 (fun w' => w'.cell? ⟨R, 0, none⟩ = some (.slice (some ⟨g, 0, none⟩) P.length cap) ∧ w'.cell? ⟨R, 1, none⟩ = some (.int .i64 s.1) ∧ w'.cell? ⟨g, s.1 * 4 + 1, none⟩ = some (.string ⟨[60, 61].toArray⟩)) (go_keep) (fail)
    go_wp2_with fail
    refine (skip_s R g cap P _ s [60, 61] (Ctx.drew HC.out)).mono ?_
    rintro e w1 ⟨rfl, hc1, hk1⟩
    have HC1 := hideP2 hc1
    have HK1 : Hid (Keeps w.heap.size R w w1) := Keeps.step (Keeps.drew (Keeps.refl _ _ _)) hk1
    clear hc1 hk1
    cases hs : (pSkip P [60, 61] s).1
    · have hP := HP2.out
      simp only [hs] at hP
      have HP3 := hideP2 hP
      clear HP2 hP hs
      go_wp2_with fail
      go_ret
      exact ⟨ret_str (by rw [HP3.out]), by rw [HP3.out]; exact HC1.out, HK1.out⟩
    · have hP := HP2.out
      simp only [hs] at hP
      have HP3 := hideP2 hP
      clear HP2 hP hs
      go_wp2_with fail
      go_ret
      exact ⟨ret_str (by rw [HP3.out]), by rw [HP3.out]; exact HC1.out, HK1.out⟩
  by_cases c2' : x = [61]
  · subst c2'
    have hP := HP.out
    rw [show cmpL.contains [61] = true from by decide] at hP
    have HP2 := hideP2 hP
    clear HP hP
    go_enter Tryz.func261, Tryz.ntmps261
    go_wp2_with fail
    go_region_held3 (fun w' => w'.cell? ⟨R, 0, none⟩ = some (.slice (some ⟨g, 0, none⟩) P.length cap) ∧ w'.cell? ⟨R, 1, none⟩ = some (.int .i64 s.1) ∧ w'.cell? ⟨g, s.1 * 4 + 1, none⟩ = some (.string ⟨[61].toArray⟩)) (go_keep) (fail)
    go_wp2_with fail
    refine (skip_s R g cap P _ s [61] (Ctx.drew HC.out)).mono ?_
    rintro e w1 ⟨rfl, hc1, hk1⟩
    have HC1 := hideP2 hc1
    have HK1 : Hid (Keeps w.heap.size R w w1) := Keeps.step (Keeps.drew (Keeps.refl _ _ _)) hk1
    clear hc1 hk1
    cases hs : (pSkip P [61] s).1
    · have hP := HP2.out
      simp only [hs] at hP
      have HP3 := hideP2 hP
      clear HP2 hP hs
      go_wp2_with fail
      go_ret
      exact ⟨ret_str (by rw [HP3.out]), by rw [HP3.out]; exact HC1.out, HK1.out⟩
    · have hP := HP2.out
      simp only [hs] at hP
      have HP3 := hideP2 hP
      clear HP2 hP hs
      go_wp2_with fail
      go_ret
      exact ⟨ret_str (by rw [HP3.out]), by rw [HP3.out]; exact HC1.out, HK1.out⟩
  by_cases c3' : x = [33, 61]
  · subst c3'
    have hP := HP.out
    rw [show cmpL.contains [33, 61] = true from by decide] at hP
    have HP2 := hideP2 hP
    clear HP hP
    go_enter Tryz.func261, Tryz.ntmps261
    go_wp2_with fail
    go_region_held3 (fun w' => w'.cell? ⟨R, 0, none⟩ = some (.slice (some ⟨g, 0, none⟩) P.length cap) ∧ w'.cell? ⟨R, 1, none⟩ = some (.int .i64 s.1) ∧ w'.cell? ⟨g, s.1 * 4 + 1, none⟩ = some (.string ⟨[33, 61].toArray⟩)) (go_keep) (fail)
    go_wp2_with fail
    refine (skip_s R g cap P _ s [33, 61] (Ctx.drew HC.out)).mono ?_
    rintro e w1 ⟨rfl, hc1, hk1⟩
    have HC1 := hideP2 hc1
    have HK1 : Hid (Keeps w.heap.size R w w1) := Keeps.step (Keeps.drew (Keeps.refl _ _ _)) hk1
    clear hc1 hk1
    cases hs : (pSkip P [33, 61] s).1
    · have hP := HP2.out
      simp only [hs] at hP
      have HP3 := hideP2 hP
      clear HP2 hP hs
      go_wp2_with fail
      go_ret
      exact ⟨ret_str (by rw [HP3.out]), by rw [HP3.out]; exact HC1.out, HK1.out⟩
    · have hP := HP2.out
      simp only [hs] at hP
      have HP3 := hideP2 hP
      clear HP2 hP hs
      go_wp2_with fail
      go_ret
      exact ⟨ret_str (by rw [HP3.out]), by rw [HP3.out]; exact HC1.out, HK1.out⟩
  by_cases c4' : x = [62, 61]
  · subst c4'
    have hP := HP.out
    rw [show cmpL.contains [62, 61] = true from by decide] at hP
    have HP2 := hideP2 hP
    clear HP hP
    go_enter Tryz.func261, Tryz.ntmps261
    go_wp2_with fail
    go_region_held3 (fun w' => w'.cell? ⟨R, 0, none⟩ = some (.slice (some ⟨g, 0, none⟩) P.length cap) ∧ w'.cell? ⟨R, 1, none⟩ = some (.int .i64 s.1) ∧ w'.cell? ⟨g, s.1 * 4 + 1, none⟩ = some (.string ⟨[62, 61].toArray⟩)) (go_keep) (fail)
    go_wp2_with fail
    refine (skip_s R g cap P _ s [62, 61] (Ctx.drew HC.out)).mono ?_
    rintro e w1 ⟨rfl, hc1, hk1⟩
    have HC1 := hideP2 hc1
    have HK1 : Hid (Keeps w.heap.size R w w1) := Keeps.step (Keeps.drew (Keeps.refl _ _ _)) hk1
    clear hc1 hk1
    cases hs : (pSkip P [62, 61] s).1
    · have hP := HP2.out
      simp only [hs] at hP
      have HP3 := hideP2 hP
      clear HP2 hP hs
      go_wp2_with fail
      go_ret
      exact ⟨ret_str (by rw [HP3.out]), by rw [HP3.out]; exact HC1.out, HK1.out⟩
    · have hP := HP2.out
      simp only [hs] at hP
      have HP3 := hideP2 hP
      clear HP2 hP hs
      go_wp2_with fail
      go_ret
      exact ⟨ret_str (by rw [HP3.out]), by rw [HP3.out]; exact HC1.out, HK1.out⟩
  by_cases c5' : x = [62]
  · subst c5'
    have hP := HP.out
    rw [show cmpL.contains [62] = true from by decide] at hP
    have HP2 := hideP2 hP
    clear HP hP
    go_enter Tryz.func261, Tryz.ntmps261
    go_wp2_with fail
    go_region_held3 (fun w' => w'.cell? ⟨R, 0, none⟩ = some (.slice (some ⟨g, 0, none⟩) P.length cap) ∧ w'.cell? ⟨R, 1, none⟩ = some (.int .i64 s.1) ∧ w'.cell? ⟨g, s.1 * 4 + 1, none⟩ = some (.string ⟨[62].toArray⟩)) (go_keep) (fail)
    go_wp2_with fail
    refine (skip_s R g cap P _ s [62] (Ctx.drew HC.out)).mono ?_
    rintro e w1 ⟨rfl, hc1, hk1⟩
    have HC1 := hideP2 hc1
    have HK1 : Hid (Keeps w.heap.size R w w1) := Keeps.step (Keeps.drew (Keeps.refl _ _ _)) hk1
    clear hc1 hk1
    cases hs : (pSkip P [62] s).1
    · have hP := HP2.out
      simp only [hs] at hP
      have HP3 := hideP2 hP
      clear HP2 hP hs
      go_wp2_with fail
      go_ret
      exact ⟨ret_str (by rw [HP3.out]), by rw [HP3.out]; exact HC1.out, HK1.out⟩
    · have hP := HP2.out
      simp only [hs] at hP
      have HP3 := hideP2 hP
      clear HP2 hP hs
      go_wp2_with fail
      go_ret
      exact ⟨ret_str (by rw [HP3.out]), by rw [HP3.out]; exact HC1.out, HK1.out⟩
  have hP := HP.out
  rw [show cmpL.contains x = false from by simp [cmpL, c0', c1', c2', c3', c4', c5']] at hP
  have HP2 : Hid (F = ([], s)) := hP
  clear HP hP
  have b0 : (x == [60]) = false := by simpa using c0'
  have b1 : (x == [60, 61]) = false := by simpa using c1'
  have b2 : (x == [61]) = false := by simpa using c2'
  have b3 : (x == [33, 61]) = false := by simpa using c3'
  have b4 : (x == [62, 61]) = false := by simpa using c4'
  have b5 : (x == [62]) = false := by simpa using c5'
  clear c0' c1' c2' c3' c4' c5'
  go_enter Tryz.func261, Tryz.ntmps261
  go_wp2_with fail
  go_region_held3 (fun w' => w'.cell? ⟨R, 0, none⟩ = some (.slice (some ⟨g, 0, none⟩) P.length cap) ∧ w'.cell? ⟨R, 1, none⟩ = some (.int .i64 s.1) ∧ w'.cell? ⟨g, s.1 * 4 + 1, none⟩ = some (.string ⟨x.toArray⟩)) (go_keep) (fail)
  go_wp2_with fail
  go_ret
  exact ⟨ret_str (by rw [HP2.out]), by rw [HP2.out]; exact Ctx.drew HC.out, Keeps.drew (Keeps.refl _ _ _)⟩
end Go.Proofs.YtnbpdffdnphbeaaGreatDoor

/- What test of the reader gives: a node of a guard. -/
namespace Go.Proofs.YtnbpdffdnphbeaaGreatDoor
open Go.RowKit

theorem hb_end (w : World) (o : Obj) : (w.alloc o).heap[w.heap.size]? = some o := heap_alloc_new w o
theorem hb_new {w : World} {o x : Obj} {k : Nat} (h : w.heap[k]? = some x) : (w.alloc o).heap[k]? = some x := by
  have hk : k < w.heap.size := by
    rcases Nat.lt_or_ge k w.heap.size with h1 | h1
    · exact h1
    · rw [Array.getElem?_eq_none h1] at h; cases h
  rw [Below.heap_alloc _ _ _ hk]; exact h
theorem hb_drew {w : World} {x : Obj} {k : Nat} (h : w.heap[k]? = some x) : w.drew.heap[k]? = some x := h
theorem hb_set {w : World} {x : Obj} {k b o : Nat} {u : Value} (h : w.heap[k]? = some x) (hne : k ≠ b) : (w.setCell ⟨b, o, none⟩ u).heap[k]? = some x := by
  rw [Below.heap_setCell _ _ _ _ hne]; exact h
theorem hb_keeps {W w1 : World} {x : Obj} {k R : Nat} (h : W.heap[k]? = some x) (hk : Keeps W.heap.size R W w1) (hne : k ≠ R) : w1.heap[k]? = some x := by
  have hlt : k < W.heap.size := by
    rcases Nat.lt_or_ge k W.heap.size with h1 | h1
    · exact h1
    · rw [Array.getElem?_eq_none h1] at h; cases h
  rw [hk.block k hlt hne]; exact h

structure PNode where
  kind : Int
  left : Int
  right : Int
  name : Bs
  mark : Bs
  other : Bs
  num : Int

def nodeV (x : PNode) : Value := .agg #[.int .i64 x.kind, .int .i64 x.left, .int .i64 x.right, .string ⟨x.name.toArray⟩, .string ⟨x.mark.toArray⟩, .string ⟨x.other.toArray⟩, .int .i64 x.num]

def pTest (P : List PT) (s : St) : PNode × St :=
  match (pSkip P [97, 108, 119, 97, 121, 115] s).1 with
  | true => (⟨4, 0, 0, [], [], [], 0⟩, (pSkip P [97, 108, 119, 97, 121, 115] s).2)
  | false =>
    match (pSkip P [104, 97, 115] (pSkip P [97, 108, 119, 97, 121, 115] s).2).1 with
    | true => (⟨5, 0, 0, (pName P (pSkip P [104, 97, 115] (pSkip P [97, 108, 119, 97, 121, 115] s).2).2).1, [], [], 0⟩, (pName P (pSkip P [104, 97, 115] (pSkip P [97, 108, 119, 97, 121, 115] s).2).2).2)
    | false =>
      match (pComp P (pName P (pSkip P [104, 97, 115] (pSkip P [97, 108, 119, 97, 121, 115] s).2).2).2).1.isEmpty with
      | true => (⟨6, 0, 0, (pName P (pSkip P [104, 97, 115] (pSkip P [97, 108, 119, 97, 121, 115] s).2).2).1, [], [], 0⟩, (pComp P (pName P (pSkip P [104, 97, 115] (pSkip P [97, 108, 119, 97, 121, 115] s).2).2).2).2)
      | false =>
        match isNum P (pComp P (pName P (pSkip P [104, 97, 115] (pSkip P [97, 108, 119, 97, 121, 115] s).2).2).2).2 with
        | true => (⟨7, 0, 0, (pName P (pSkip P [104, 97, 115] (pSkip P [97, 108, 119, 97, 121, 115] s).2).2).1, (pComp P (pName P (pSkip P [104, 97, 115] (pSkip P [97, 108, 119, 97, 121, 115] s).2).2).2).1, [], (pNumber P (pComp P (pName P (pSkip P [104, 97, 115] (pSkip P [97, 108, 119, 97, 121, 115] s).2).2).2).2).1⟩, (pNumber P (pComp P (pName P (pSkip P [104, 97, 115] (pSkip P [97, 108, 119, 97, 121, 115] s).2).2).2).2).2)
        | false => (⟨7, 0, 0, (pName P (pSkip P [104, 97, 115] (pSkip P [97, 108, 119, 97, 121, 115] s).2).2).1, (pComp P (pName P (pSkip P [104, 97, 115] (pSkip P [97, 108, 119, 97, 121, 115] s).2).2).2).1, (pName P (pComp P (pName P (pSkip P [104, 97, 115] (pSkip P [97, 108, 119, 97, 121, 115] s).2).2).2).2).1, 0⟩, (pName P (pComp P (pName P (pSkip P [104, 97, 115] (pSkip P [97, 108, 119, 97, 121, 115] s).2).2).2).2).2)

set_option maxHeartbeats 1000000 in
theorem test_a (w : World) (R g cap : Nat) (P : List PT) (s : St) (h : CtxS w R g cap P s) (h1 : (pSkip P [97, 108, 119, 97, 121, 115] s).1 = true) :
    Calls Tryz.prog 260 #[.pointer (some ⟨R, 0, none⟩)] w fun e w' => e = .returned (nodeV (pTest P s).1) ∧ CtxS w' R g cap P (pTest P s).2 ∧ Keeps w.heap.size R w w' := by
  have hR := h.rlt
  have hg := h.glt
  have n0 : w.heap.size ≠ R := by omega
  have m0 : w.heap.size ≠ g := by omega
  have HC0 := hideP2 h
  have HP : Hid (pTest P s = (⟨4, 0, 0, [], [], [], 0⟩, (pSkip P [97, 108, 119, 97, 121, 115] s).2)) := by unfold Hid pTest; simp only [h1]
  have H1 := hideP2 h1
  clear h h1
  go_enter Tryz.func260, Tryz.ntmps260
  go_wp2_with fail
  refine (skip_s R g cap P _ s [97, 108, 119, 97, 121, 115] (Ctx.alloc HC0.out _)).mono ?_
  rintro e w1 ⟨rfl, hc1, hk1⟩
  rw [H1.out]
  have HC1 := hideP2 hc1
  have HT1 : Hid (Keeps w.heap.size R w w1) := Keeps.step (Keeps.new (Keeps.refl _ _ _)) hk1
  have q1_0 := fun o => hk1.cell (p := ⟨w.heap.size, o, none⟩) (by simp; try omega) n0
  have r1_0 := fun o => hk1.frozen (p := ⟨w.heap.size, o, none⟩) (by simp; try omega) n0
  have z1_0 : w.heap.size < w1.heap.size := Nat.lt_of_lt_of_le (by simp; try omega) hk1.size
  have b1 : w1.heap[w.heap.size]? = some (.cells #[.int .i64 0, .int .i64 0, .int .i64 0, .string ⟨#[]⟩, .string ⟨#[]⟩, .string ⟨#[]⟩, .int .i64 0] 304 (0, 0)) := hb_keeps (hb_end _ _) hk1 n0
  clear hc1 hk1
  go_wp2_with fail
  have cz1 := fun j => cell_of_row _ _ j _ _ _ b1
  refine bodyPost_ret (v := nodeV ⟨4, 0, 0, [], [], [], 0⟩) (by simp (maxDischargeDepth := 8) [results, Tryz.results260, go_sem, nodeV, cz1]) rfl ⟨by rw [HP.out], by rw [HP.out]; exact (Ctx.set (Ctx.set (Ctx.set (Ctx.set (Ctx.set (Ctx.set (Ctx.set HC1.out n0 m0) n0 m0) n0 m0) n0 m0) n0 m0) n0 m0) n0 m0), (Keeps.set (Keeps.set (Keeps.set (Keeps.set (Keeps.set (Keeps.set (Keeps.set HT1.out (Nat.le_refl _)) (Nat.le_refl _)) (Nat.le_refl _)) (Nat.le_refl _)) (Nat.le_refl _)) (Nat.le_refl _)) (Nat.le_refl _))⟩

set_option maxHeartbeats 1000000 in
theorem test_b (w : World) (R g cap : Nat) (P : List PT) (s : St) (h : CtxS w R g cap P s) (h1 : (pSkip P [97, 108, 119, 97, 121, 115] s).1 = false) (h2 : (pSkip P [104, 97, 115] (pSkip P [97, 108, 119, 97, 121, 115] s).2).1 = true) :
    Calls Tryz.prog 260 #[.pointer (some ⟨R, 0, none⟩)] w fun e w' => e = .returned (nodeV (pTest P s).1) ∧ CtxS w' R g cap P (pTest P s).2 ∧ Keeps w.heap.size R w w' := by
  have hR := h.rlt
  have hg := h.glt
  have n0 : w.heap.size ≠ R := by omega
  have m0 : w.heap.size ≠ g := by omega
  have HC0 := hideP2 h
  have HP : Hid (pTest P s = (⟨5, 0, 0, (pName P (pSkip P [104, 97, 115] (pSkip P [97, 108, 119, 97, 121, 115] s).2).2).1, [], [], 0⟩, (pName P (pSkip P [104, 97, 115] (pSkip P [97, 108, 119, 97, 121, 115] s).2).2).2)) := by unfold Hid pTest; simp only [h1, h2]
  have H1 := hideP2 h1; have H2 := hideP2 h2
  clear h h1 h2
  go_enter Tryz.func260, Tryz.ntmps260
  go_wp2_with fail
  refine (skip_s R g cap P _ s [97, 108, 119, 97, 121, 115] (Ctx.alloc HC0.out _)).mono ?_
  rintro e w1 ⟨rfl, hc1, hk1⟩
  rw [H1.out]
  have HC1 := hideP2 hc1
  have HT1 : Hid (Keeps w.heap.size R w w1) := Keeps.step (Keeps.new (Keeps.refl _ _ _)) hk1
  have q1_0 := fun o => hk1.cell (p := ⟨w.heap.size, o, none⟩) (by simp; try omega) n0
  have r1_0 := fun o => hk1.frozen (p := ⟨w.heap.size, o, none⟩) (by simp; try omega) n0
  have z1_0 : w.heap.size < w1.heap.size := Nat.lt_of_lt_of_le (by simp; try omega) hk1.size
  have b1 : w1.heap[w.heap.size]? = some (.cells #[.int .i64 0, .int .i64 0, .int .i64 0, .string ⟨#[]⟩, .string ⟨#[]⟩, .string ⟨#[]⟩, .int .i64 0] 304 (0, 0)) := hb_keeps (hb_end _ _) hk1 n0
  clear hc1 hk1
  go_wp2_with fail
  refine (skip_s R g cap P _ (pSkip P [97, 108, 119, 97, 121, 115] s).2 [104, 97, 115] HC1.out).mono ?_
  rintro e w2 ⟨rfl, hc2, hk2⟩
  rw [H2.out]
  have HC2 := hideP2 hc2
  have HT2 : Hid (Keeps w.heap.size R w w2) := Keeps.step HT1.out hk2
  have q2_0 := fun o => hk2.cell (p := ⟨w.heap.size, o, none⟩) z1_0 n0
  have r2_0 := fun o => hk2.frozen (p := ⟨w.heap.size, o, none⟩) z1_0 n0
  have z2_0 : w.heap.size < w2.heap.size := Nat.lt_of_lt_of_le z1_0 hk2.size
  have b2 : w2.heap[w.heap.size]? = some (.cells #[.int .i64 0, .int .i64 0, .int .i64 0, .string ⟨#[]⟩, .string ⟨#[]⟩, .string ⟨#[]⟩, .int .i64 0] 304 (0, 0)) := hb_keeps b1 hk2 n0
  clear hc2 hk2
  go_wp2_with fail
  refine (name_s R g cap P _ (pSkip P [104, 97, 115] (pSkip P [97, 108, 119, 97, 121, 115] s).2).2 HC2.out).mono ?_
  rintro e w3 ⟨rfl, hc3, hk3⟩
  have HC3 := hideP2 hc3
  have HT3 : Hid (Keeps w.heap.size R w w3) := Keeps.step HT2.out hk3
  have q3_0 := fun o => hk3.cell (p := ⟨w.heap.size, o, none⟩) z2_0 n0
  have r3_0 := fun o => hk3.frozen (p := ⟨w.heap.size, o, none⟩) z2_0 n0
  have z3_0 : w.heap.size < w3.heap.size := Nat.lt_of_lt_of_le z2_0 hk3.size
  have b3 : w3.heap[w.heap.size]? = some (.cells #[.int .i64 0, .int .i64 0, .int .i64 0, .string ⟨#[]⟩, .string ⟨#[]⟩, .string ⟨#[]⟩, .int .i64 0] 304 (0, 0)) := hb_keeps b2 hk3 n0
  clear hc3 hk3
  go_wp2_with fail
  have cz3 := fun j => cell_of_row _ _ j _ _ _ b3
  refine bodyPost_ret (v := nodeV ⟨5, 0, 0, (pName P (pSkip P [104, 97, 115] (pSkip P [97, 108, 119, 97, 121, 115] s).2).2).1, [], [], 0⟩) (by simp (maxDischargeDepth := 8) [results, Tryz.results260, go_sem, nodeV, cz3]) rfl ⟨by rw [HP.out], by rw [HP.out]; exact (Ctx.set (Ctx.set (Ctx.set (Ctx.set (Ctx.set (Ctx.set (Ctx.set HC3.out n0 m0) n0 m0) n0 m0) n0 m0) n0 m0) n0 m0) n0 m0), (Keeps.set (Keeps.set (Keeps.set (Keeps.set (Keeps.set (Keeps.set (Keeps.set HT3.out (Nat.le_refl _)) (Nat.le_refl _)) (Nat.le_refl _)) (Nat.le_refl _)) (Nat.le_refl _)) (Nat.le_refl _)) (Nat.le_refl _))⟩

set_option maxHeartbeats 1000000 in
theorem test_c (w : World) (R g cap : Nat) (P : List PT) (s : St) (h : CtxS w R g cap P s) (h1 : (pSkip P [97, 108, 119, 97, 121, 115] s).1 = false) (h2 : (pSkip P [104, 97, 115] (pSkip P [97, 108, 119, 97, 121, 115] s).2).1 = false) (h3 : (pComp P (pName P (pSkip P [104, 97, 115] (pSkip P [97, 108, 119, 97, 121, 115] s).2).2).2).1.isEmpty = true) :
    Calls Tryz.prog 260 #[.pointer (some ⟨R, 0, none⟩)] w fun e w' => e = .returned (nodeV (pTest P s).1) ∧ CtxS w' R g cap P (pTest P s).2 ∧ Keeps w.heap.size R w w' := by
  have hR := h.rlt
  have hg := h.glt
  have n0 : w.heap.size ≠ R := by omega
  have m0 : w.heap.size ≠ g := by omega
  have HC0 := hideP2 h
  have HP : Hid (pTest P s = (⟨6, 0, 0, (pName P (pSkip P [104, 97, 115] (pSkip P [97, 108, 119, 97, 121, 115] s).2).2).1, [], [], 0⟩, (pComp P (pName P (pSkip P [104, 97, 115] (pSkip P [97, 108, 119, 97, 121, 115] s).2).2).2).2)) := by unfold Hid pTest; simp only [h1, h2, h3]
  have H1 := hideP2 h1; have H2 := hideP2 h2; have H3 := hideP2 h3
  clear h h1 h2 h3
  have h3' := H3.out
  go_enter Tryz.func260, Tryz.ntmps260
  go_wp2_with fail
  refine (skip_s R g cap P _ s [97, 108, 119, 97, 121, 115] (Ctx.alloc HC0.out _)).mono ?_
  rintro e w1 ⟨rfl, hc1, hk1⟩
  rw [H1.out]
  have HC1 := hideP2 hc1
  have HT1 : Hid (Keeps w.heap.size R w w1) := Keeps.step (Keeps.new (Keeps.refl _ _ _)) hk1
  have q1_0 := fun o => hk1.cell (p := ⟨w.heap.size, o, none⟩) (by simp; try omega) n0
  have r1_0 := fun o => hk1.frozen (p := ⟨w.heap.size, o, none⟩) (by simp; try omega) n0
  have z1_0 : w.heap.size < w1.heap.size := Nat.lt_of_lt_of_le (by simp; try omega) hk1.size
  have b1 : w1.heap[w.heap.size]? = some (.cells #[.int .i64 0, .int .i64 0, .int .i64 0, .string ⟨#[]⟩, .string ⟨#[]⟩, .string ⟨#[]⟩, .int .i64 0] 304 (0, 0)) := hb_keeps (hb_end _ _) hk1 n0
  clear hc1 hk1
  go_wp2_with fail
  refine (skip_s R g cap P _ (pSkip P [97, 108, 119, 97, 121, 115] s).2 [104, 97, 115] HC1.out).mono ?_
  rintro e w2 ⟨rfl, hc2, hk2⟩
  rw [H2.out]
  have HC2 := hideP2 hc2
  have HT2 : Hid (Keeps w.heap.size R w w2) := Keeps.step HT1.out hk2
  have q2_0 := fun o => hk2.cell (p := ⟨w.heap.size, o, none⟩) z1_0 n0
  have r2_0 := fun o => hk2.frozen (p := ⟨w.heap.size, o, none⟩) z1_0 n0
  have z2_0 : w.heap.size < w2.heap.size := Nat.lt_of_lt_of_le z1_0 hk2.size
  have b2 : w2.heap[w.heap.size]? = some (.cells #[.int .i64 0, .int .i64 0, .int .i64 0, .string ⟨#[]⟩, .string ⟨#[]⟩, .string ⟨#[]⟩, .int .i64 0] 304 (0, 0)) := hb_keeps b1 hk2 n0
  clear hc2 hk2
  have nx : w2.heap.size ≠ R := by have h1 := HT2.out.size; omega
  have mx : w2.heap.size ≠ g := by have h1 := HT2.out.size; omega
  have lx : w.heap.size ≤ w2.heap.size := HT2.out.size
  have dx : w2.heap.size ≠ w.heap.size := Nat.ne_of_gt z2_0
  have fx : w.heap.size ≠ w2.heap.size := Nat.ne_of_lt z2_0
  have z2_x : True := trivial
  go_wp2_with fail
  refine (name_s R g cap P _ (pSkip P [104, 97, 115] (pSkip P [97, 108, 119, 97, 121, 115] s).2).2 (Ctx.alloc HC2.out _)).mono ?_
  rintro e w3 ⟨rfl, hc3, hk3⟩
  have HC3 := hideP2 hc3
  have HT3 : Hid (Keeps w.heap.size R w w3) := Keeps.step (Keeps.new HT2.out) hk3
  have q3_0 := fun o => hk3.cell (p := ⟨w.heap.size, o, none⟩) (lt_new z2_0) n0
  have r3_0 := fun o => hk3.frozen (p := ⟨w.heap.size, o, none⟩) (lt_new z2_0) n0
  have z3_0 : w.heap.size < w3.heap.size := Nat.lt_of_lt_of_le (lt_new z2_0) hk3.size
  have q3_x := fun o => hk3.cell (p := ⟨w2.heap.size, o, none⟩) (lt_end _ _) nx
  have r3_x := fun o => hk3.frozen (p := ⟨w2.heap.size, o, none⟩) (lt_end _ _) nx
  have z3_x : w2.heap.size < w3.heap.size := Nat.lt_of_lt_of_le (lt_end _ _) hk3.size
  have b3 : w3.heap[w.heap.size]? = some (.cells #[.int .i64 0, .int .i64 0, .int .i64 0, .string ⟨#[]⟩, .string ⟨#[]⟩, .string ⟨#[]⟩, .int .i64 0] 304 (0, 0)) := hb_keeps (hb_new b2) hk3 n0
  clear hc3 hk3
  go_wp2_with fail
  refine (comparison_s _ R g cap P (pName P (pSkip P [104, 97, 115] (pSkip P [97, 108, 119, 97, 121, 115] s).2).2).2 (Ctx.set HC3.out nx mx)).mono ?_
  rintro e w4 ⟨rfl, hc4, hk4⟩
  have HC4 := hideP2 hc4
  have HT4 : Hid (Keeps w.heap.size R w w4) := Keeps.step (Keeps.set HT3.out lx) hk4
  have q4_0 := fun o => hk4.cell (p := ⟨w.heap.size, o, none⟩) (lt_set z3_0) n0
  have r4_0 := fun o => hk4.frozen (p := ⟨w.heap.size, o, none⟩) (lt_set z3_0) n0
  have z4_0 : w.heap.size < w4.heap.size := Nat.lt_of_lt_of_le (lt_set z3_0) hk4.size
  have q4_x := fun o => hk4.cell (p := ⟨w2.heap.size, o, none⟩) (lt_set z3_x) nx
  have r4_x := fun o => hk4.frozen (p := ⟨w2.heap.size, o, none⟩) (lt_set z3_x) nx
  have z4_x : w2.heap.size < w4.heap.size := Nat.lt_of_lt_of_le (lt_set z3_x) hk4.size
  have b4 : w4.heap[w.heap.size]? = some (.cells #[.int .i64 0, .int .i64 0, .int .i64 0, .string ⟨#[]⟩, .string ⟨#[]⟩, .string ⟨#[]⟩, .int .i64 0] 304 (0, 0)) := hb_keeps (hb_set b3 fx) hk4 n0
  clear hc4 hk4
  go_wp2_with fail
  have cz4 := fun j => cell_of_row _ _ j _ _ _ b4
  refine bodyPost_ret (v := nodeV ⟨6, 0, 0, (pName P (pSkip P [104, 97, 115] (pSkip P [97, 108, 119, 97, 121, 115] s).2).2).1, [], [], 0⟩) (by simp (maxDischargeDepth := 8) [results, Tryz.results260, go_sem, nodeV, cz4]) rfl ⟨by rw [HP.out], by rw [HP.out]; exact (Ctx.set (Ctx.set (Ctx.set (Ctx.set (Ctx.set (Ctx.set (Ctx.set HC4.out n0 m0) n0 m0) n0 m0) n0 m0) n0 m0) n0 m0) n0 m0), (Keeps.set (Keeps.set (Keeps.set (Keeps.set (Keeps.set (Keeps.set (Keeps.set HT4.out (Nat.le_refl _)) (Nat.le_refl _)) (Nat.le_refl _)) (Nat.le_refl _)) (Nat.le_refl _)) (Nat.le_refl _)) (Nat.le_refl _))⟩

set_option maxHeartbeats 1000000 in
theorem test_d (w : World) (R g cap : Nat) (P : List PT) (s : St) (h : CtxS w R g cap P s) (h1 : (pSkip P [97, 108, 119, 97, 121, 115] s).1 = false) (h2 : (pSkip P [104, 97, 115] (pSkip P [97, 108, 119, 97, 121, 115] s).2).1 = false) (h3 : (pComp P (pName P (pSkip P [104, 97, 115] (pSkip P [97, 108, 119, 97, 121, 115] s).2).2).2).1.isEmpty = false) (h4 : isNum P (pComp P (pName P (pSkip P [104, 97, 115] (pSkip P [97, 108, 119, 97, 121, 115] s).2).2).2).2 = true) :
    Calls Tryz.prog 260 #[.pointer (some ⟨R, 0, none⟩)] w fun e w' => e = .returned (nodeV (pTest P s).1) ∧ CtxS w' R g cap P (pTest P s).2 ∧ Keeps w.heap.size R w w' := by
  have hR := h.rlt
  have hg := h.glt
  have n0 : w.heap.size ≠ R := by omega
  have m0 : w.heap.size ≠ g := by omega
  have HC0 := hideP2 h
  have HP : Hid (pTest P s = (⟨7, 0, 0, (pName P (pSkip P [104, 97, 115] (pSkip P [97, 108, 119, 97, 121, 115] s).2).2).1, (pComp P (pName P (pSkip P [104, 97, 115] (pSkip P [97, 108, 119, 97, 121, 115] s).2).2).2).1, [], (pNumber P (pComp P (pName P (pSkip P [104, 97, 115] (pSkip P [97, 108, 119, 97, 121, 115] s).2).2).2).2).1⟩, (pNumber P (pComp P (pName P (pSkip P [104, 97, 115] (pSkip P [97, 108, 119, 97, 121, 115] s).2).2).2).2).2)) := by unfold Hid pTest; simp only [h1, h2, h3, h4]
  have H1 := hideP2 h1; have H2 := hideP2 h2; have H3 := hideP2 h3; have H4 := hideP2 h4
  clear h h1 h2 h3 h4
  have h3' := H3.out
  go_enter Tryz.func260, Tryz.ntmps260
  go_wp2_with fail
  refine (skip_s R g cap P _ s [97, 108, 119, 97, 121, 115] (Ctx.alloc HC0.out _)).mono ?_
  rintro e w1 ⟨rfl, hc1, hk1⟩
  rw [H1.out]
  have HC1 := hideP2 hc1
  have HT1 : Hid (Keeps w.heap.size R w w1) := Keeps.step (Keeps.new (Keeps.refl _ _ _)) hk1
  have q1_0 := fun o => hk1.cell (p := ⟨w.heap.size, o, none⟩) (by simp; try omega) n0
  have r1_0 := fun o => hk1.frozen (p := ⟨w.heap.size, o, none⟩) (by simp; try omega) n0
  have z1_0 : w.heap.size < w1.heap.size := Nat.lt_of_lt_of_le (by simp; try omega) hk1.size
  have b1 : w1.heap[w.heap.size]? = some (.cells #[.int .i64 0, .int .i64 0, .int .i64 0, .string ⟨#[]⟩, .string ⟨#[]⟩, .string ⟨#[]⟩, .int .i64 0] 304 (0, 0)) := hb_keeps (hb_end _ _) hk1 n0
  clear hc1 hk1
  go_wp2_with fail
  refine (skip_s R g cap P _ (pSkip P [97, 108, 119, 97, 121, 115] s).2 [104, 97, 115] HC1.out).mono ?_
  rintro e w2 ⟨rfl, hc2, hk2⟩
  rw [H2.out]
  have HC2 := hideP2 hc2
  have HT2 : Hid (Keeps w.heap.size R w w2) := Keeps.step HT1.out hk2
  have q2_0 := fun o => hk2.cell (p := ⟨w.heap.size, o, none⟩) z1_0 n0
  have r2_0 := fun o => hk2.frozen (p := ⟨w.heap.size, o, none⟩) z1_0 n0
  have z2_0 : w.heap.size < w2.heap.size := Nat.lt_of_lt_of_le z1_0 hk2.size
  have b2 : w2.heap[w.heap.size]? = some (.cells #[.int .i64 0, .int .i64 0, .int .i64 0, .string ⟨#[]⟩, .string ⟨#[]⟩, .string ⟨#[]⟩, .int .i64 0] 304 (0, 0)) := hb_keeps b1 hk2 n0
  clear hc2 hk2
  have nx : w2.heap.size ≠ R := by have h1 := HT2.out.size; omega
  have mx : w2.heap.size ≠ g := by have h1 := HT2.out.size; omega
  have lx : w.heap.size ≤ w2.heap.size := HT2.out.size
  have dx : w2.heap.size ≠ w.heap.size := Nat.ne_of_gt z2_0
  have fx : w.heap.size ≠ w2.heap.size := Nat.ne_of_lt z2_0
  have z2_x : True := trivial
  go_wp2_with fail
  refine (name_s R g cap P _ (pSkip P [104, 97, 115] (pSkip P [97, 108, 119, 97, 121, 115] s).2).2 (Ctx.alloc HC2.out _)).mono ?_
  rintro e w3 ⟨rfl, hc3, hk3⟩
  have HC3 := hideP2 hc3
  have HT3 : Hid (Keeps w.heap.size R w w3) := Keeps.step (Keeps.new HT2.out) hk3
  have q3_0 := fun o => hk3.cell (p := ⟨w.heap.size, o, none⟩) (lt_new z2_0) n0
  have r3_0 := fun o => hk3.frozen (p := ⟨w.heap.size, o, none⟩) (lt_new z2_0) n0
  have z3_0 : w.heap.size < w3.heap.size := Nat.lt_of_lt_of_le (lt_new z2_0) hk3.size
  have q3_x := fun o => hk3.cell (p := ⟨w2.heap.size, o, none⟩) (lt_end _ _) nx
  have r3_x := fun o => hk3.frozen (p := ⟨w2.heap.size, o, none⟩) (lt_end _ _) nx
  have z3_x : w2.heap.size < w3.heap.size := Nat.lt_of_lt_of_le (lt_end _ _) hk3.size
  have b3 : w3.heap[w.heap.size]? = some (.cells #[.int .i64 0, .int .i64 0, .int .i64 0, .string ⟨#[]⟩, .string ⟨#[]⟩, .string ⟨#[]⟩, .int .i64 0] 304 (0, 0)) := hb_keeps (hb_new b2) hk3 n0
  clear hc3 hk3
  go_wp2_with fail
  refine (comparison_s _ R g cap P (pName P (pSkip P [104, 97, 115] (pSkip P [97, 108, 119, 97, 121, 115] s).2).2).2 (Ctx.set HC3.out nx mx)).mono ?_
  rintro e w4 ⟨rfl, hc4, hk4⟩
  have HC4 := hideP2 hc4
  have HT4 : Hid (Keeps w.heap.size R w w4) := Keeps.step (Keeps.set HT3.out lx) hk4
  have q4_0 := fun o => hk4.cell (p := ⟨w.heap.size, o, none⟩) (lt_set z3_0) n0
  have r4_0 := fun o => hk4.frozen (p := ⟨w.heap.size, o, none⟩) (lt_set z3_0) n0
  have z4_0 : w.heap.size < w4.heap.size := Nat.lt_of_lt_of_le (lt_set z3_0) hk4.size
  have q4_x := fun o => hk4.cell (p := ⟨w2.heap.size, o, none⟩) (lt_set z3_x) nx
  have r4_x := fun o => hk4.frozen (p := ⟨w2.heap.size, o, none⟩) (lt_set z3_x) nx
  have z4_x : w2.heap.size < w4.heap.size := Nat.lt_of_lt_of_le (lt_set z3_x) hk4.size
  have b4 : w4.heap[w.heap.size]? = some (.cells #[.int .i64 0, .int .i64 0, .int .i64 0, .string ⟨#[]⟩, .string ⟨#[]⟩, .string ⟨#[]⟩, .int .i64 0] 304 (0, 0)) := hb_keeps (hb_set b3 fx) hk4 n0
  clear hc4 hk4
  go_wp2_with fail
  refine (next_s R g cap P _ (pComp P (pName P (pSkip P [104, 97, 115] (pSkip P [97, 108, 119, 97, 121, 115] s).2).2).2).2 3 (Ctx.set (Ctx.set HC4.out nx mx) nx mx)).mono ?_
  rintro e w5 ⟨rfl, hc5, hk5⟩
  rw [show ((cur P (pComp P (pName P (pSkip P [104, 97, 115] (pSkip P [97, 108, 119, 97, 121, 115] s).2).2).2).2.1).k == 3) = true from H4.out]
  have HC5 := hideP2 hc5
  have HT5 : Hid (Keeps w.heap.size R w w5) := Keeps.step (Keeps.set (Keeps.set HT4.out lx) lx) hk5
  have q5_0 := fun o => hk5.cell (p := ⟨w.heap.size, o, none⟩) (lt_set (lt_set z4_0)) n0
  have r5_0 := fun o => hk5.frozen (p := ⟨w.heap.size, o, none⟩) (lt_set (lt_set z4_0)) n0
  have z5_0 : w.heap.size < w5.heap.size := Nat.lt_of_lt_of_le (lt_set (lt_set z4_0)) hk5.size
  have q5_x := fun o => hk5.cell (p := ⟨w2.heap.size, o, none⟩) (lt_set (lt_set z4_x)) nx
  have r5_x := fun o => hk5.frozen (p := ⟨w2.heap.size, o, none⟩) (lt_set (lt_set z4_x)) nx
  have z5_x : w2.heap.size < w5.heap.size := Nat.lt_of_lt_of_le (lt_set (lt_set z4_x)) hk5.size
  have b5 : w5.heap[w.heap.size]? = some (.cells #[.int .i64 0, .int .i64 0, .int .i64 0, .string ⟨#[]⟩, .string ⟨#[]⟩, .string ⟨#[]⟩, .int .i64 0] 304 (0, 0)) := hb_keeps (hb_set (hb_set b4 fx) fx) hk5 n0
  clear hc5 hk5
  go_wp2_with fail
  refine (number_s R g cap P _ (pComp P (pName P (pSkip P [104, 97, 115] (pSkip P [97, 108, 119, 97, 121, 115] s).2).2).2).2 HC5.out).mono ?_
  rintro e w6 ⟨rfl, hc6, hk6⟩
  have HC6 := hideP2 hc6
  have HT6 : Hid (Keeps w.heap.size R w w6) := Keeps.step HT5.out hk6
  have q6_0 := fun o => hk6.cell (p := ⟨w.heap.size, o, none⟩) z5_0 n0
  have r6_0 := fun o => hk6.frozen (p := ⟨w.heap.size, o, none⟩) z5_0 n0
  have z6_0 : w.heap.size < w6.heap.size := Nat.lt_of_lt_of_le z5_0 hk6.size
  have q6_x := fun o => hk6.cell (p := ⟨w2.heap.size, o, none⟩) z5_x nx
  have r6_x := fun o => hk6.frozen (p := ⟨w2.heap.size, o, none⟩) z5_x nx
  have z6_x : w2.heap.size < w6.heap.size := Nat.lt_of_lt_of_le z5_x hk6.size
  have b6 : w6.heap[w.heap.size]? = some (.cells #[.int .i64 0, .int .i64 0, .int .i64 0, .string ⟨#[]⟩, .string ⟨#[]⟩, .string ⟨#[]⟩, .int .i64 0] 304 (0, 0)) := hb_keeps b5 hk6 n0
  clear hc6 hk6
  go_wp2_with fail
  have cz6 := fun j => cell_of_row _ _ j _ _ _ b6
  refine bodyPost_ret (v := nodeV ⟨7, 0, 0, (pName P (pSkip P [104, 97, 115] (pSkip P [97, 108, 119, 97, 121, 115] s).2).2).1, (pComp P (pName P (pSkip P [104, 97, 115] (pSkip P [97, 108, 119, 97, 121, 115] s).2).2).2).1, [], (pNumber P (pComp P (pName P (pSkip P [104, 97, 115] (pSkip P [97, 108, 119, 97, 121, 115] s).2).2).2).2).1⟩) (by simp (maxDischargeDepth := 8) [results, Tryz.results260, go_sem, nodeV, cz6]) rfl ⟨by rw [HP.out], by rw [HP.out]; exact (Ctx.set (Ctx.set (Ctx.set (Ctx.set (Ctx.set (Ctx.set (Ctx.set (Ctx.set HC6.out nx mx) n0 m0) n0 m0) n0 m0) n0 m0) n0 m0) n0 m0) n0 m0), (Keeps.set (Keeps.set (Keeps.set (Keeps.set (Keeps.set (Keeps.set (Keeps.set (Keeps.set HT6.out lx) (Nat.le_refl _)) (Nat.le_refl _)) (Nat.le_refl _)) (Nat.le_refl _)) (Nat.le_refl _)) (Nat.le_refl _)) (Nat.le_refl _))⟩

set_option maxHeartbeats 1000000 in
theorem test_e (w : World) (R g cap : Nat) (P : List PT) (s : St) (h : CtxS w R g cap P s) (h1 : (pSkip P [97, 108, 119, 97, 121, 115] s).1 = false) (h2 : (pSkip P [104, 97, 115] (pSkip P [97, 108, 119, 97, 121, 115] s).2).1 = false) (h3 : (pComp P (pName P (pSkip P [104, 97, 115] (pSkip P [97, 108, 119, 97, 121, 115] s).2).2).2).1.isEmpty = false) (h4 : isNum P (pComp P (pName P (pSkip P [104, 97, 115] (pSkip P [97, 108, 119, 97, 121, 115] s).2).2).2).2 = false) :
    Calls Tryz.prog 260 #[.pointer (some ⟨R, 0, none⟩)] w fun e w' => e = .returned (nodeV (pTest P s).1) ∧ CtxS w' R g cap P (pTest P s).2 ∧ Keeps w.heap.size R w w' := by
  have hR := h.rlt
  have hg := h.glt
  have n0 : w.heap.size ≠ R := by omega
  have m0 : w.heap.size ≠ g := by omega
  have HC0 := hideP2 h
  have HP : Hid (pTest P s = (⟨7, 0, 0, (pName P (pSkip P [104, 97, 115] (pSkip P [97, 108, 119, 97, 121, 115] s).2).2).1, (pComp P (pName P (pSkip P [104, 97, 115] (pSkip P [97, 108, 119, 97, 121, 115] s).2).2).2).1, (pName P (pComp P (pName P (pSkip P [104, 97, 115] (pSkip P [97, 108, 119, 97, 121, 115] s).2).2).2).2).1, 0⟩, (pName P (pComp P (pName P (pSkip P [104, 97, 115] (pSkip P [97, 108, 119, 97, 121, 115] s).2).2).2).2).2)) := by unfold Hid pTest; simp only [h1, h2, h3, h4]
  have H1 := hideP2 h1; have H2 := hideP2 h2; have H3 := hideP2 h3; have H4 := hideP2 h4
  clear h h1 h2 h3 h4
  have h3' := H3.out
  go_enter Tryz.func260, Tryz.ntmps260
  go_wp2_with fail
  refine (skip_s R g cap P _ s [97, 108, 119, 97, 121, 115] (Ctx.alloc HC0.out _)).mono ?_
  rintro e w1 ⟨rfl, hc1, hk1⟩
  rw [H1.out]
  have HC1 := hideP2 hc1
  have HT1 : Hid (Keeps w.heap.size R w w1) := Keeps.step (Keeps.new (Keeps.refl _ _ _)) hk1
  have q1_0 := fun o => hk1.cell (p := ⟨w.heap.size, o, none⟩) (by simp; try omega) n0
  have r1_0 := fun o => hk1.frozen (p := ⟨w.heap.size, o, none⟩) (by simp; try omega) n0
  have z1_0 : w.heap.size < w1.heap.size := Nat.lt_of_lt_of_le (by simp; try omega) hk1.size
  have b1 : w1.heap[w.heap.size]? = some (.cells #[.int .i64 0, .int .i64 0, .int .i64 0, .string ⟨#[]⟩, .string ⟨#[]⟩, .string ⟨#[]⟩, .int .i64 0] 304 (0, 0)) := hb_keeps (hb_end _ _) hk1 n0
  clear hc1 hk1
  go_wp2_with fail
  refine (skip_s R g cap P _ (pSkip P [97, 108, 119, 97, 121, 115] s).2 [104, 97, 115] HC1.out).mono ?_
  rintro e w2 ⟨rfl, hc2, hk2⟩
  rw [H2.out]
  have HC2 := hideP2 hc2
  have HT2 : Hid (Keeps w.heap.size R w w2) := Keeps.step HT1.out hk2
  have q2_0 := fun o => hk2.cell (p := ⟨w.heap.size, o, none⟩) z1_0 n0
  have r2_0 := fun o => hk2.frozen (p := ⟨w.heap.size, o, none⟩) z1_0 n0
  have z2_0 : w.heap.size < w2.heap.size := Nat.lt_of_lt_of_le z1_0 hk2.size
  have b2 : w2.heap[w.heap.size]? = some (.cells #[.int .i64 0, .int .i64 0, .int .i64 0, .string ⟨#[]⟩, .string ⟨#[]⟩, .string ⟨#[]⟩, .int .i64 0] 304 (0, 0)) := hb_keeps b1 hk2 n0
  clear hc2 hk2
  have nx : w2.heap.size ≠ R := by have h1 := HT2.out.size; omega
  have mx : w2.heap.size ≠ g := by have h1 := HT2.out.size; omega
  have lx : w.heap.size ≤ w2.heap.size := HT2.out.size
  have dx : w2.heap.size ≠ w.heap.size := Nat.ne_of_gt z2_0
  have fx : w.heap.size ≠ w2.heap.size := Nat.ne_of_lt z2_0
  have z2_x : True := trivial
  go_wp2_with fail
  refine (name_s R g cap P _ (pSkip P [104, 97, 115] (pSkip P [97, 108, 119, 97, 121, 115] s).2).2 (Ctx.alloc HC2.out _)).mono ?_
  rintro e w3 ⟨rfl, hc3, hk3⟩
  have HC3 := hideP2 hc3
  have HT3 : Hid (Keeps w.heap.size R w w3) := Keeps.step (Keeps.new HT2.out) hk3
  have q3_0 := fun o => hk3.cell (p := ⟨w.heap.size, o, none⟩) (lt_new z2_0) n0
  have r3_0 := fun o => hk3.frozen (p := ⟨w.heap.size, o, none⟩) (lt_new z2_0) n0
  have z3_0 : w.heap.size < w3.heap.size := Nat.lt_of_lt_of_le (lt_new z2_0) hk3.size
  have q3_x := fun o => hk3.cell (p := ⟨w2.heap.size, o, none⟩) (lt_end _ _) nx
  have r3_x := fun o => hk3.frozen (p := ⟨w2.heap.size, o, none⟩) (lt_end _ _) nx
  have z3_x : w2.heap.size < w3.heap.size := Nat.lt_of_lt_of_le (lt_end _ _) hk3.size
  have b3 : w3.heap[w.heap.size]? = some (.cells #[.int .i64 0, .int .i64 0, .int .i64 0, .string ⟨#[]⟩, .string ⟨#[]⟩, .string ⟨#[]⟩, .int .i64 0] 304 (0, 0)) := hb_keeps (hb_new b2) hk3 n0
  clear hc3 hk3
  go_wp2_with fail
  refine (comparison_s _ R g cap P (pName P (pSkip P [104, 97, 115] (pSkip P [97, 108, 119, 97, 121, 115] s).2).2).2 (Ctx.set HC3.out nx mx)).mono ?_
  rintro e w4 ⟨rfl, hc4, hk4⟩
  have HC4 := hideP2 hc4
  have HT4 : Hid (Keeps w.heap.size R w w4) := Keeps.step (Keeps.set HT3.out lx) hk4
  have q4_0 := fun o => hk4.cell (p := ⟨w.heap.size, o, none⟩) (lt_set z3_0) n0
  have r4_0 := fun o => hk4.frozen (p := ⟨w.heap.size, o, none⟩) (lt_set z3_0) n0
  have z4_0 : w.heap.size < w4.heap.size := Nat.lt_of_lt_of_le (lt_set z3_0) hk4.size
  have q4_x := fun o => hk4.cell (p := ⟨w2.heap.size, o, none⟩) (lt_set z3_x) nx
  have r4_x := fun o => hk4.frozen (p := ⟨w2.heap.size, o, none⟩) (lt_set z3_x) nx
  have z4_x : w2.heap.size < w4.heap.size := Nat.lt_of_lt_of_le (lt_set z3_x) hk4.size
  have b4 : w4.heap[w.heap.size]? = some (.cells #[.int .i64 0, .int .i64 0, .int .i64 0, .string ⟨#[]⟩, .string ⟨#[]⟩, .string ⟨#[]⟩, .int .i64 0] 304 (0, 0)) := hb_keeps (hb_set b3 fx) hk4 n0
  clear hc4 hk4
  go_wp2_with fail
  refine (next_s R g cap P _ (pComp P (pName P (pSkip P [104, 97, 115] (pSkip P [97, 108, 119, 97, 121, 115] s).2).2).2).2 3 (Ctx.set (Ctx.set HC4.out nx mx) nx mx)).mono ?_
  rintro e w5 ⟨rfl, hc5, hk5⟩
  rw [show ((cur P (pComp P (pName P (pSkip P [104, 97, 115] (pSkip P [97, 108, 119, 97, 121, 115] s).2).2).2).2.1).k == 3) = false from H4.out]
  have HC5 := hideP2 hc5
  have HT5 : Hid (Keeps w.heap.size R w w5) := Keeps.step (Keeps.set (Keeps.set HT4.out lx) lx) hk5
  have q5_0 := fun o => hk5.cell (p := ⟨w.heap.size, o, none⟩) (lt_set (lt_set z4_0)) n0
  have r5_0 := fun o => hk5.frozen (p := ⟨w.heap.size, o, none⟩) (lt_set (lt_set z4_0)) n0
  have z5_0 : w.heap.size < w5.heap.size := Nat.lt_of_lt_of_le (lt_set (lt_set z4_0)) hk5.size
  have q5_x := fun o => hk5.cell (p := ⟨w2.heap.size, o, none⟩) (lt_set (lt_set z4_x)) nx
  have r5_x := fun o => hk5.frozen (p := ⟨w2.heap.size, o, none⟩) (lt_set (lt_set z4_x)) nx
  have z5_x : w2.heap.size < w5.heap.size := Nat.lt_of_lt_of_le (lt_set (lt_set z4_x)) hk5.size
  have b5 : w5.heap[w.heap.size]? = some (.cells #[.int .i64 0, .int .i64 0, .int .i64 0, .string ⟨#[]⟩, .string ⟨#[]⟩, .string ⟨#[]⟩, .int .i64 0] 304 (0, 0)) := hb_keeps (hb_set (hb_set b4 fx) fx) hk5 n0
  clear hc5 hk5
  go_wp2_with fail
  refine (name_s R g cap P _ (pComp P (pName P (pSkip P [104, 97, 115] (pSkip P [97, 108, 119, 97, 121, 115] s).2).2).2).2 HC5.out).mono ?_
  rintro e w6 ⟨rfl, hc6, hk6⟩
  have HC6 := hideP2 hc6
  have HT6 : Hid (Keeps w.heap.size R w w6) := Keeps.step HT5.out hk6
  have q6_0 := fun o => hk6.cell (p := ⟨w.heap.size, o, none⟩) z5_0 n0
  have r6_0 := fun o => hk6.frozen (p := ⟨w.heap.size, o, none⟩) z5_0 n0
  have z6_0 : w.heap.size < w6.heap.size := Nat.lt_of_lt_of_le z5_0 hk6.size
  have q6_x := fun o => hk6.cell (p := ⟨w2.heap.size, o, none⟩) z5_x nx
  have r6_x := fun o => hk6.frozen (p := ⟨w2.heap.size, o, none⟩) z5_x nx
  have z6_x : w2.heap.size < w6.heap.size := Nat.lt_of_lt_of_le z5_x hk6.size
  have b6 : w6.heap[w.heap.size]? = some (.cells #[.int .i64 0, .int .i64 0, .int .i64 0, .string ⟨#[]⟩, .string ⟨#[]⟩, .string ⟨#[]⟩, .int .i64 0] 304 (0, 0)) := hb_keeps b5 hk6 n0
  clear hc6 hk6
  go_wp2_with fail
  have cz6 := fun j => cell_of_row _ _ j _ _ _ b6
  refine bodyPost_ret (v := nodeV ⟨7, 0, 0, (pName P (pSkip P [104, 97, 115] (pSkip P [97, 108, 119, 97, 121, 115] s).2).2).1, (pComp P (pName P (pSkip P [104, 97, 115] (pSkip P [97, 108, 119, 97, 121, 115] s).2).2).2).1, (pName P (pComp P (pName P (pSkip P [104, 97, 115] (pSkip P [97, 108, 119, 97, 121, 115] s).2).2).2).2).1, 0⟩) (by simp (maxDischargeDepth := 8) [results, Tryz.results260, go_sem, nodeV, cz6]) rfl ⟨by rw [HP.out], by rw [HP.out]; exact (Ctx.set (Ctx.set (Ctx.set (Ctx.set (Ctx.set (Ctx.set (Ctx.set (Ctx.set HC6.out nx mx) n0 m0) n0 m0) n0 m0) n0 m0) n0 m0) n0 m0) n0 m0), (Keeps.set (Keeps.set (Keeps.set (Keeps.set (Keeps.set (Keeps.set (Keeps.set (Keeps.set HT6.out lx) (Nat.le_refl _)) (Nat.le_refl _)) (Nat.le_refl _)) (Nat.le_refl _)) (Nat.le_refl _)) (Nat.le_refl _)) (Nat.le_refl _))⟩

theorem test_s (w : World) (R g cap : Nat) (P : List PT) (s : St) (h : CtxS w R g cap P s) :
    Calls Tryz.prog 260 #[.pointer (some ⟨R, 0, none⟩)] w fun e w' => e = .returned (nodeV (pTest P s).1) ∧ CtxS w' R g cap P (pTest P s).2 ∧ Keeps w.heap.size R w w' := by
  cases h1 : (pSkip P [97, 108, 119, 97, 121, 115] s).1
  · cases h2 : (pSkip P [104, 97, 115] (pSkip P [97, 108, 119, 97, 121, 115] s).2).1
    · cases h3 : (pComp P (pName P (pSkip P [104, 97, 115] (pSkip P [97, 108, 119, 97, 121, 115] s).2).2).2).1.isEmpty
      · cases h4 : isNum P (pComp P (pName P (pSkip P [104, 97, 115] (pSkip P [97, 108, 119, 97, 121, 115] s).2).2).2).2
        · exact test_e w R g cap P s h h1 h2 h3 h4
        · exact test_d w R g cap P s h h1 h2 h3 h4
      · exact test_c w R g cap P s h h1 h2 h3
    · exact test_b w R g cap P s h h1 h2
  · exact test_a w R g cap P s h h1
end Go.Proofs.YtnbpdffdnphbeaaGreatDoor
