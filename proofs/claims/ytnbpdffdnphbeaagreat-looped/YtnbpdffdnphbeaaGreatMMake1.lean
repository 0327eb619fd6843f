/- What makePart of the program's model gives. -/
import Derived.Test.YtnbpdffdnphbeaaGreatMMakeN
import Derived.Deep.DeepCutAuto
namespace Go.Proofs.YtnbpdffdnphbeaaGreat
open Go.RowKit

def mpartV (x : MPart) : Value := .agg #[.int .i64 x.kind, .int .i64 x.num, .int .i64 x.place]
def mpO (k n p : Int) : Obj := .cells #[.int .i64 k, .int .i64 n, .int .i64 p] 158 (0, 0)
theorem mpInfo : (Tryz.prog.info? 158).map (·.size) = some 3 := by kernel_rfl
theorem mp_cell {w : World} {b : Nat} {k n p : Int} (h : w.heap[b]? = some (mpO k n p)) : w.cell? ⟨b, 0, none⟩ = some (.int .i64 k) ∧ w.cell? ⟨b, 1, none⟩ = some (.int .i64 n) ∧ w.cell? ⟨b, 2, none⟩ = some (.int .i64 p) ∧ ∀ j, w.frozen? ⟨b, j, none⟩ = false := by
  unfold mpO at h
  exact ⟨(cell_row h 0).trans rfl, (cell_row h 1).trans rfl, (cell_row h 2).trans rfl, fun j => by simp [World.frozen?, h]⟩
theorem mp_set0 {w : World} {b : Nat} {k n p x : Int} (h : w.heap[b]? = some (mpO k n p)) : (w.setCell ⟨b, 0, none⟩ (.int .i64 x)).heap[b]? = some (mpO x n p) := by
  unfold mpO at h ⊢; rw [heap_setCell_same w b 0 _ _ _ h]; simp
theorem mp_set1 {w : World} {b : Nat} {k n p x : Int} (h : w.heap[b]? = some (mpO k n p)) : (w.setCell ⟨b, 1, none⟩ (.int .i64 x)).heap[b]? = some (mpO k x p) := by
  unfold mpO at h ⊢; rw [heap_setCell_same w b 1 _ _ _ h]; simp
theorem mp_set2 {w : World} {b : Nat} {k n p x : Int} (h : w.heap[b]? = some (mpO k n p)) : (w.setCell ⟨b, 2, none⟩ (.int .i64 x)).heap[b]? = some (mpO k n x) := by
  unfold mpO at h ⊢; rw [heap_setCell_same w b 2 _ _ _ h]; simp
def ptO (x : PPart) : Obj := .cells #[.bool x.minus, .bool x.starred, .int .i64 x.num, .string ⟨x.name.toArray⟩] 119 (0, 0)
/-- How it stands with memory on the way: the part that is read, the answer's room, the part that is made. -/
structure PtS (w W : World) (x : PPart) (k n p : Int) : Prop where
  src : W.heap[w.heap.size]? = some (ptO x)
  res : W.heap[w.heap.size + 1]? = some (mpO 0 0 0)
  mad : W.heap[w.heap.size + 1 + 1]? = some (mpO k n p)
  bel : Below w.heap.size w W
theorem PtS.below {w W W' : World} {x : PPart} {k n p : Int} (h : PtS w W x k n p) (hb : Below W.heap.size W W') : PtS w W' x k n p :=
  ⟨by rw [hb.block _ (hlt_of h.src)]; exact h.src, by rw [hb.block _ (hlt_of h.res)]; exact h.res, by rw [hb.block _ (hlt_of h.mad)]; exact h.mad, h.bel.trans (hb.mono h.bel.size)⟩
theorem PtS.set0 {w W : World} {x : PPart} {k n p : Int} (h : PtS w W x k n p) (y : Int) : PtS w (W.setCell ⟨w.heap.size + 1 + 1, 0, none⟩ (.int .i64 y)) x y n p :=
  ⟨by rw [Below.heap_setCell _ _ _ _ (show w.heap.size ≠ w.heap.size + 1 + 1 by omega)]; exact h.src, by rw [Below.heap_setCell _ _ _ _ (show w.heap.size + 1 ≠ w.heap.size + 1 + 1 by omega)]; exact h.res, mp_set0 h.mad, h.bel.setCell (p := ⟨w.heap.size + 1 + 1, 0, none⟩) (show w.heap.size ≤ w.heap.size + 1 + 1 by omega) _⟩
theorem PtS.set1 {w W : World} {x : PPart} {k n p : Int} (h : PtS w W x k n p) (y : Int) : PtS w (W.setCell ⟨w.heap.size + 1 + 1, 1, none⟩ (.int .i64 y)) x k y p :=
  ⟨by rw [Below.heap_setCell _ _ _ _ (show w.heap.size ≠ w.heap.size + 1 + 1 by omega)]; exact h.src, by rw [Below.heap_setCell _ _ _ _ (show w.heap.size + 1 ≠ w.heap.size + 1 + 1 by omega)]; exact h.res, mp_set1 h.mad, h.bel.setCell (p := ⟨w.heap.size + 1 + 1, 1, none⟩) (show w.heap.size ≤ w.heap.size + 1 + 1 by omega) _⟩
theorem PtS.set2 {w W : World} {x : PPart} {k n p : Int} (h : PtS w W x k n p) (y : Int) : PtS w (W.setCell ⟨w.heap.size + 1 + 1, 2, none⟩ (.int .i64 y)) x k n y :=
  ⟨by rw [Below.heap_setCell _ _ _ _ (show w.heap.size ≠ w.heap.size + 1 + 1 by omega)]; exact h.src, by rw [Below.heap_setCell _ _ _ _ (show w.heap.size + 1 ≠ w.heap.size + 1 + 1 by omega)]; exact h.res, mp_set2 h.mad, h.bel.setCell (p := ⟨w.heap.size + 1 + 1, 2, none⟩) (show w.heap.size ≤ w.heap.size + 1 + 1 by omega) _⟩
theorem PtS.cells {w W : World} {x : PPart} {k n p : Int} (h : PtS w W x k n p) : (W.cell? ⟨w.heap.size, 0, none⟩ = some (.bool x.minus) ∧ W.cell? ⟨w.heap.size, 1, none⟩ = some (.bool x.starred) ∧ W.cell? ⟨w.heap.size, 2, none⟩ = some (.int .i64 x.num) ∧ W.cell? ⟨w.heap.size, 3, none⟩ = some (.string ⟨x.name.toArray⟩)) ∧ (W.cell? ⟨w.heap.size + 1 + 1, 0, none⟩ = some (.int .i64 k) ∧ W.cell? ⟨w.heap.size + 1 + 1, 1, none⟩ = some (.int .i64 n) ∧ W.cell? ⟨w.heap.size + 1 + 1, 2, none⟩ = some (.int .i64 p)) ∧ (W.frozen? ⟨w.heap.size + 1 + 1, 0, none⟩ = false ∧ W.frozen? ⟨w.heap.size + 1 + 1, 1, none⟩ = false ∧ W.frozen? ⟨w.heap.size + 1 + 1, 2, none⟩ = false) := by
  have h1 := h.src
  unfold ptO at h1
  obtain ⟨m0, m1, m2, mf⟩ := mp_cell h.mad
  exact ⟨⟨(cell_row h1 0).trans rfl, (cell_row h1 1).trans rfl, (cell_row h1 2).trans rfl, (cell_row h1 3).trans rfl⟩, ⟨m0, m1, m2⟩, mf 0, mf 1, mf 2⟩

set_option maxRecDepth 100000 in
set_option maxHeartbeats 10000000 in
theorem makePart_s (w : World) (b o : Nat) (I : List MInp) (C : List (Bs × Nat)) (h : NmsV w b o I C) (x : PPart) (hn : 0 ≤ x.num ∧ x.num ≤ 9999) :
    Calls Tryz.prog 87 #[.pointer (some ⟨b, o, none⟩), partV x] w fun e w' => e = .returned (mpartV (mpartOf (I.map MInp.name) (C.map Prod.fst) x)) ∧ Below w.heap.size w w' := by
  have HF := hideP2 (fun w' (hb : Below w.heap.size w w') => (h.below hb).find x.name)
  have HC := hideP2 (fun w' (hb : Below w.heap.size w w') => (h.below hb).findC x.name)
  have HA : Hid (mpartOf (I.map MInp.name) (C.map Prod.fst) x = ⟨mpK (I.map MInp.name) x, if x.minus then -mpN x else mpN x, mpP (I.map MInp.name) (C.map Prod.fst) x⟩) := rfl
  unfold mpK mpP mpN at HA
  generalize mpartOf (I.map MInp.name) (C.map Prod.fst) x = ans at *
  obtain ⟨mi, st, nu, nm⟩ := x
  simp only at HA HF HC hn
  obtain ⟨hn0, hn1⟩ := hn
  clear h
  generalize findN (I.map MInp.name) nm = f1 at *
  generalize findN (C.map Prod.fst) nm = f2 at *
  simp only [partV]
  have HS0 : Hid (PtS w (((w.alloc (ptO ⟨mi, st, nu, nm⟩)).alloc (mpO 0 0 0)).alloc (mpO 1 nu 0)) ⟨mi, st, nu, nm⟩ 1 nu 0) := ⟨hb_new (hb_new (hb_end _ _)), hb_new (hb_endK _ _ _ (by simp)), hb_endK _ _ _ (by simp), (((Below.refl _ _).alloc (Nat.le_refl _) _).alloc (by simp) _).alloc (by simp; omega) _⟩
  obtain ⟨kk, hkk⟩ : ∃ kk, kk = if nm = [] then (1 : Int) else if f1 < 0 then 3 else 2 := ⟨_, rfl⟩
  obtain ⟨pp, hpp⟩ : ∃ pp, pp = if nm = [] then (0 : Int) else if f1 < 0 then f2 else f1 := ⟨_, rfl⟩
  obtain ⟨nn, hnn⟩ : ∃ nn, nn = if nm = [] then nu else if st then nu else 1 := ⟨_, rfl⟩
  rw [← hkk, ← hpp, ← hnn] at HA
  have hnr : 0 ≤ nn ∧ nn ≤ 9999 := by
    rw [hnn]; split
    · exact ⟨hn0, hn1⟩
    · split
      · exact ⟨hn0, hn1⟩
      · exact ⟨by decide, by decide⟩
  have HK := hideP2 hkk
  have HP := hideP2 hpp
  have HN := hideP2 hnn
  clear hkk hpp hnn
  go_enter Tryz.func87, Tryz.ntmps87
  go_upto_if 11 with fail
  go_cut [5] from 6 to 37 (fun v5 wx => v5 = .pointer (some ⟨w.heap.size + 1 + 1, 0, none⟩) ∧ Hid (PtS w wx ⟨mi, st, nu, nm⟩ kk nn pp))
  case first =>
    by_cases k0 : nm = []
    · subst k0
      have HK2 : Hid (kk = 1) := HK.out.trans (if_pos rfl)
      have HP2 : Hid (pp = 0) := HP.out.trans (if_pos rfl)
      have HN2 : Hid (nn = nu) := HN.out.trans (if_pos rfl)
      go_wp2_with fail
      go_meet
      exact ⟨rfl, by rw [HK2.out, HP2.out, HN2.out]; exact HS0⟩
    · have HK2 : Hid (kk = if f1 < 0 then 3 else 2) := HK.out.trans (if_neg k0)
      have HP2 : Hid (pp = if f1 < 0 then f2 else f1) := HP.out.trans (if_neg k0)
      have HN2 : Hid (nn = if st then nu else 1) := HN.out.trans (if_neg k0)
      have b0 : List.isEmpty nm = false := by cases nm with | nil => exact absurd rfl k0 | cons _ _ => rfl
      have b1 : (!List.isEmpty nm) = true := by rw [b0]; rfl
      clear k0 HK HP HN
      try rw [b1]
      have HS1 : Hid (PtS w (((w.alloc (ptO ⟨mi, st, nu, nm⟩)).alloc (mpO 0 0 0)).alloc (mpO 2 nu 0)) ⟨mi, st, nu, nm⟩ 2 nu 0) := ⟨hb_new (hb_new (hb_end _ _)), hb_new (hb_endK _ _ _ (by simp)), hb_endK _ _ _ (by simp), (((Below.refl _ _).alloc (Nat.le_refl _) _).alloc (by simp) _).alloc (by simp; omega) _⟩
      go_wp2_with fail
      refine (HF.out _ HS1.out.bel).mono ?_
      rintro e w4 ⟨rfl, hb4⟩
      have HS4 := hideP2 (HS1.out.below hb4)
      obtain ⟨⟨s40, s41, s42, s43⟩, ⟨m40, m41, m42⟩, f40, f41, f42⟩ := HS4.out.cells
      simp only at s40 s41 s42 s43
      have HS5 := hideP2 (HS4.out.set2 f1)
      clear hb4 HS1 HS0
      go_upto_if 20 with fail
      go_cut [5] from 6 to 37 (fun v5 wx => v5 = .pointer (some ⟨w.heap.size + 1 + 1, 0, none⟩) ∧ Hid (PtS w wx ⟨mi, st, nu, nm⟩ kk nu pp))
      case first =>
        by_cases k1 : f1 < 0
        · have HK3 : Hid (kk = 3) := HK2.out.trans (if_pos k1)
          have HP3 : Hid (pp = f2) := HP2.out.trans (if_pos k1)
          have HS6 := hideP2 (HS5.out.set0 3)
          try rw [decide_eq_true k1]
          go_wp2_with fail
          refine (HC.out _ HS6.out.bel).mono ?_
          rintro e w6 ⟨rfl, hb6⟩
          have HS7 := hideP2 (HS6.out.below hb6)
          obtain ⟨⟨s60, s61, s62, s63⟩, ⟨m60, m61, m62⟩, f60, f61, f62⟩ := HS7.out.cells
          simp only at s60 s61 s62 s63
          clear hb6
          go_wp2_with fail
          go_meet
          exact ⟨rfl, by rw [HK3.out, HP3.out]; exact hideP2 (HS7.out.set2 f2)⟩
        · have HK3 : Hid (kk = 2) := HK2.out.trans (if_neg k1)
          have HP3 : Hid (pp = f1) := HP2.out.trans (if_neg k1)
          try rw [decide_eq_false k1]
          go_wp2_with fail
          go_meet
          exact ⟨rfl, by rw [HK3.out, HP3.out]; exact HS5⟩
      case rest =>
        obtain ⟨rfl, HS6⟩ := hcut
        clear HS5 HS4 s40 s41 s42 s43 m40 m41 m42 f40 f41 f42
        obtain ⟨⟨s40, s41, s42, s43⟩, ⟨m40, m41, m42⟩, f40, f41, f42⟩ := HS6.out.cells
        simp only at s40 s41 s42 s43
        cases st
        · have HN3 : Hid (nn = 1) := HN2
          go_wp2_with fail
          go_meet
          exact ⟨rfl, by rw [HN3.out]; exact hideP2 (HS6.out.set1 1)⟩
        · have HN3 : Hid (nn = nu) := HN2
          go_wp2_with fail
          go_meet
          exact ⟨rfl, by rw [HN3.out]; exact HS6⟩
  case rest =>
    obtain ⟨rfl, HS1⟩ := hcut
    clear HS0 HK HP HN HF HC
    obtain ⟨⟨s40, s41, s42, s43⟩, ⟨m40, m41, m42⟩, f40, f41, f42⟩ := HS1.out.cells
    simp only at s40 s41 s42 s43
    obtain ⟨n2, hn2⟩ : ∃ n2, n2 = if mi then -nn else nn := ⟨_, rfl⟩
    rw [← hn2] at HA
    have HN2 := hideP2 hn2
    clear hn2
    go_upto_if 32 with fail
    go_cut [5] from 6 to 37 (fun v5 wx => v5 = .pointer (some ⟨w.heap.size + 1 + 1, 0, none⟩) ∧ Hid (PtS w wx ⟨mi, st, nu, nm⟩ kk n2 pp))
    case first =>
      cases mi
      · have HN3 : Hid (n2 = nn) := HN2
        go_wp2_with fail
        go_meet
        exact ⟨rfl, by rw [HN3.out]; exact HS1⟩
      · have HN3 : Hid (n2 = -nn) := HN2
        obtain ⟨hr0, hr1⟩ := hnr
        go_wp2_with fail
        go_meet
        exact ⟨rfl, by rw [HN3.out]; exact hideP2 (HS1.out.set1 (-nn))⟩
    case rest =>
      obtain ⟨rfl, HS7⟩ := hcut
      clear HS1 s40 s41 s42 s43 m40 m41 m42 f40 f41 f42
      go_wp2_with (first
        | (refine wpList_load_row ?hgd 158 (.tmp 5) ?ho (w.heap.size + 1 + 1) ?hx 158 #[.int .i64 kk, .int .i64 n2, .int .i64 pp] (0, 0) _ HS7.out.mad Tryz.underlying158 rfl mpInfo ?_
           case ho => rfl
           case hgd => rfl
           case hx => rfl)
        | (refine wpList_store_row ?hgd 158 (.tmp 4) (.tmp 37) ?ho (w.heap.size + 1) #[.int .i64 kk, .int .i64 n2, .int .i64 pp] ?hx ?hy 158 #[.int .i64 0, .int .i64 0, .int .i64 0] HS7.out.res mpInfo rfl (by simp [Value.oneCell']) ?_
           case ho => rfl
           case hgd => rfl
           case hx => rfl
           case hy => rfl))
      refine bodyPost_ret (v := mpartV ⟨kk, n2, pp⟩) (results_cell_row Tryz.results87 _ _ (w.heap.size + 1) 158 #[.int .i64 kk, .int .i64 n2, .int .i64 pp] (0, 0) _ rfl (setRow_heap _ _ _ _ _ _ HS7.out.res) Tryz.underlying158 rfl mpInfo) rfl ⟨by rw [HA.out], below_row HS7.out.bel (by omega) _⟩
end Go.Proofs.YtnbpdffdnphbeaaGreat
