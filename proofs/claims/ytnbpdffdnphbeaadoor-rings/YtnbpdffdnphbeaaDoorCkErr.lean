/- What the program's check asks of a line's names: those of inputs, sums and guards. -/
import Derived.Test.YtnbpdffdnphbeaaDoorCkLines
namespace Go.Proofs.YtnbpdffdnphbeaaDoor
open Go.RowKit

/-- What a call answers from a world on: a value, and all that was there is as it was. -/
def Ans (f : FuncId) (args : Array Value) (w : World) (v : Value) : Prop := ∀ w', Below w.heap.size w w' → Calls Tryd.prog f args w' fun e w'' => e = .returned v ∧ Below w'.heap.size w' w''
theorem Ans.at {f : FuncId} {args : Array Value} {w : World} {v : Value} (h : Ans f args w v) {w' : World} (hb : Below w.heap.size w w') : Ans f args w' v := fun w'' h2 => h w'' (hb.trans (h2.mono hb.size))

theorem hasLine_a {w : World} {a : Option Addr} {ls : List LX} (h : LinV w a ls) (c : Nat) (k : Int) (nm : Bs) : Ans 92 #[.slice a ls.length c, .int .i64 k, .string ⟨nm.toArray⟩] w (.bool (hasL (fs ls) k nm)) :=
  fun w' hb => hasLine_s w' a c ls k nm (h.below hb (Nat.le_refl _))
theorem hasLine_t {w : World} {a : Option Addr} {ls : List LX} (h : LinV w a ls) (c : Nat) (k : Int) (nm : Bs) (i : Nat) (hi : i < ls.length) : Ans 92 #[.slice a i c, .int .i64 k, .string ⟨nm.toArray⟩] w (.bool (hasL ((fs ls).take i) k nm)) := by
  have := hasLine_a (h.take i) c k nm
  rw [List.length_take, Nat.min_eq_left (by omega), show fs (ls.take i) = (fs ls).take i from List.map_take ..] at this
  exact this
theorem isCon_a {w : World} {a : Option Addr} {ls : List LX} (h : LinV w a ls) (c : Nat) (nm : Bs) : Ans 93 #[.slice a ls.length c, .string ⟨nm.toArray⟩] w (.bool (isCon (fs ls) nm)) :=
  fun w' hb => isConclusion_s w' a c ls nm (h.below hb (Nat.le_refl _))
theorem findRule_a {w : World} {a : Option Addr} {ls : List LX} (h : LinV w a ls) (c : Nat) (nm : Bs) : Ans 96 #[.slice a ls.length c, .string ⟨nm.toArray⟩] w (.int .i64 (findR (fs ls) nm)) :=
  fun w' hb => findRule_s w' a c ls nm (h.below hb (Nat.le_refl _))

theorem isSummand_s (w : World) (a : Option Addr) (n c : Nat) (nm : Bs) (p q : Bool) (h1 : Ans 92 #[.slice a n c, .int .i64 1, .string ⟨nm.toArray⟩] w (.bool p)) (h2 : Ans 93 #[.slice a n c, .string ⟨nm.toArray⟩] w (.bool q)) :
    Calls Tryd.prog 94 #[.slice a n c, .string ⟨nm.toArray⟩] w fun e w' => e = .returned (.bool (p || q)) ∧ Below w.heap.size w w' := by
  have H1 := hideP2 h1
  have H2 := hideP2 h2
  clear h1 h2
  cases p
  · go_enter Tryd.func94, Tryd.ntmps94
    go_wp2_with fail
    refine (H1.out _ (Below.refl _ _)).mono ?_
    rintro e w1 ⟨rfl, hb1⟩
    have HB1 := hideP2 hb1
    clear hb1
    go_wp2_with fail
    refine (H2.out _ HB1.out).mono ?_
    rintro e w2 ⟨rfl, hb2⟩
    have HB2 : Hid (Below w.heap.size w w2) := HB1.out.trans (hb2.mono HB1.out.size)
    clear hb2
    go_wp2_with fail
    go_ret
    exact ⟨rfl, HB2.out⟩
  · go_enter Tryd.func94, Tryd.ntmps94
    go_wp2_with fail
    refine (H1.out _ (Below.refl _ _)).mono ?_
    rintro e w1 ⟨rfl, hb1⟩
    have HB1 := hideP2 hb1
    clear hb1
    go_wp2_with fail
    go_ret
    exact ⟨rfl, HB1.out⟩
theorem isSummand_a {w : World} {a : Option Addr} {ls : List LX} (h : LinV w a ls) (c : Nat) (nm : Bs) : Ans 94 #[.slice a ls.length c, .string ⟨nm.toArray⟩] w (.bool (sumOk (fs ls) nm)) :=
  fun w' hb => isSummand_s w' a ls.length c nm _ _ ((hasLine_a h c 1 nm).at hb) ((isCon_a h c nm).at hb)

theorem size_alloc {w w1 : World} {o : Obj} (h : Below (w.alloc o).heap.size (w.alloc o) w1) : Below w.heap.size w w1 := ((Below.refl _ _).alloc (Nat.le_refl _) o).trans (h.mono (Nat.le_of_lt (lt_end _ _)))
theorem own_row {w w1 : World} {cs : Array Value} {T : TypeId} {fz : Nat × Nat} (h : Below (w.alloc (.cells cs T fz)).heap.size (w.alloc (.cells cs T fz)) w1) (j : Nat) : w1.cell? ⟨w.heap.size, j, none⟩ = cs[j]? := by
  have h1 : w1.heap[w.heap.size]? = some (.cells cs T fz) := by rw [h.block _ (lt_end _ _)]; exact hb_end _ _
  simp only [World.cell?, h1]; rfl

set_option maxHeartbeats 1000000 in
theorem isNodeKnown_s (w : World) (a : Option Addr) (c : Nat) (ls : List LX) (x : PNode) (h : LinV w a ls) :
    Calls Tryd.prog 95 #[.slice a ls.length c, nodeV x] w fun e w' => e = .returned (.bool (nodeOk (fs ls) x)) ∧ Below w.heap.size w w' := by
  obtain ⟨kd, le, ri, nm, mk, ot, nu⟩ := x
  have HC := hideP2 (isCon_a h c nm)
  have HF := hideP2 (hasLine_a h c 2 nm)
  have HN := hideP2 (hasLine_a h c 1 nm)
  have HO := hideP2 (hasLine_a h c 1 ot)
  have hfew := h.few
  clear h
  unfold nodeV
  by_cases k5 : kd = 5
  · have HR : Hid (nodeOk (fs ls) ⟨kd, le, ri, nm, mk, ot, nu⟩ = isCon (fs ls) nm) := by unfold Hid nodeOk; rw [if_pos k5]
    have b5 : (kd == 5) = true := by simpa using k5
    clear k5 HF HN HO
    go_enter Tryd.func95, Tryd.ntmps95
    go_wp2_with fail
    refine (HC.out _ ((Below.refl _ _).alloc (Nat.le_refl _) _)).mono ?_
    rintro e w1 ⟨rfl, hb1⟩
    have HB1 : Hid (Below w.heap.size w w1) := size_alloc hb1
    clear hb1
    go_wp2_with fail
    go_ret
    exact ⟨ret_bool HR.out.symm, HB1.out⟩
  have b5 : (kd == 5) = false := by simpa using k5
  by_cases k6 : kd = 6
  · have HR : Hid (nodeOk (fs ls) ⟨kd, le, ri, nm, mk, ot, nu⟩ = hasL (fs ls) 2 nm) := by unfold Hid nodeOk; rw [if_neg k5, if_pos k6]
    have b6 : (kd == 6) = true := by simpa using k6
    clear k5 k6 HC HN HO
    go_enter Tryd.func95, Tryd.ntmps95
    go_wp2_with fail
    refine (HF.out _ ((Below.refl _ _).alloc (Nat.le_refl _) _)).mono ?_
    rintro e w1 ⟨rfl, hb1⟩
    have HB1 : Hid (Below w.heap.size w w1) := size_alloc hb1
    clear hb1
    go_wp2_with fail
    go_ret
    exact ⟨ret_bool HR.out.symm, HB1.out⟩
  have b6 : (kd == 6) = false := by simpa using k6
  by_cases k7 : kd = 7
  · have HR : Hid (nodeOk (fs ls) ⟨kd, le, ri, nm, mk, ot, nu⟩ = ((decide (ot = []) || hasL (fs ls) 1 ot) && hasL (fs ls) 1 nm)) := by unfold Hid nodeOk; rw [if_neg k5, if_neg k6, if_pos k7]
    have b7 : (kd == 7) = true := by simpa using k7
    clear k5 k6 HC HF
    generalize hasL (fs ls) 1 ot = p at *
    generalize hasL (fs ls) 1 nm = q at *
    by_cases ko : ot = []
    · have HR2 : Hid (nodeOk (fs ls) ⟨kd, le, ri, nm, mk, ot, nu⟩ = q) := by unfold Hid; rw [HR.out, decide_eq_true ko]; rfl
      have bo : (ot == []) = true := by simpa using ko
      clear HR ko k7
      go_enter Tryd.func95, Tryd.ntmps95
      go_wp2_with fail
      refine (HN.out _ ((Below.refl _ _).alloc (Nat.le_refl _) _)).mono ?_
      rintro e w1 ⟨rfl, hb1⟩
      have HB1 : Hid (Below w.heap.size w w1) := size_alloc hb1
      clear hb1
      go_wp2_with fail
      go_ret
      exact ⟨ret_bool HR2.out.symm, HB1.out⟩
    · have HR2 : Hid (nodeOk (fs ls) ⟨kd, le, ri, nm, mk, ot, nu⟩ = (p && q)) := by unfold Hid; rw [HR.out, decide_eq_false ko]; rfl
      have bo : (ot == []) = false := by simpa using ko
      clear HR ko k7
      cases p
      · go_enter Tryd.func95, Tryd.ntmps95
        go_wp2_with fail
        refine (HO.out _ ((Below.refl _ _).alloc (Nat.le_refl _) _)).mono ?_
        rintro e w1 ⟨rfl, hb1⟩
        have HB1 : Hid (Below w.heap.size w w1) := size_alloc hb1
        clear hb1
        go_wp2_with fail
        go_ret
        exact ⟨ret_bool HR2.out.symm, HB1.out⟩
      · go_enter Tryd.func95, Tryd.ntmps95
        go_wp2_with fail
        refine (HO.out _ ((Below.refl _ _).alloc (Nat.le_refl _) _)).mono ?_
        rintro e w1 ⟨rfl, hb1⟩
        have HB1 : Hid (Below w.heap.size w w1) := size_alloc hb1
        have q1 := own_row hb1
        clear hb1
        go_wp2_with fail
        refine (HN.out _ HB1.out).mono ?_
        rintro e w2 ⟨rfl, hb2⟩
        have HB2 : Hid (Below w.heap.size w w2) := HB1.out.trans (hb2.mono HB1.out.size)
        clear hb2
        go_wp2_with fail
        go_ret
        exact ⟨ret_bool HR2.out.symm, HB2.out⟩
  · have HR : Hid (nodeOk (fs ls) ⟨kd, le, ri, nm, mk, ot, nu⟩ = true) := by unfold Hid nodeOk; rw [if_neg k5, if_neg k6, if_neg k7]
    have b7 : (kd == 7) = false := by simpa using k7
    clear k5 k6 k7 HC HF HN HO
    go_enter Tryd.func95, Tryd.ntmps95
    go_wp2_with fail
    go_ret
    exact ⟨ret_bool HR.out.symm, (Below.refl _ _).alloc (Nat.le_refl _) _⟩
theorem isNodeKnown_a {w : World} {a : Option Addr} {ls : List LX} (h : LinV w a ls) (c : Nat) (x : PNode) : Ans 95 #[.slice a ls.length c, nodeV x] w (.bool (nodeOk (fs ls) x)) :=
  fun w' hb => isNodeKnown_s w' a c ls x (h.below hb (Nat.le_refl _))

set_option maxHeartbeats 1000000 in
theorem inputError_s (w : World) (a : Option Addr) (c : Nat) (ls : List LX) (i : Nat) (hi : i < ls.length) (hc : ls.length ≤ c) (h : LinV w a ls) :
    Calls Tryd.prog 64 #[.slice a ls.length c, .int .i64 i] w fun e w' => e = .returned (.int .i64 (inpE (fs ls) i)) ∧ Below w.heap.size w w' := by
  have hfew := h.few
  have HR : Hid (inpE (fs ls) i = if hasL ((fs ls).take i) 1 (lAt ls i).1.name || (hasL ((fs ls).take i) 2 (lAt ls i).1.name || isCon (fs ls) (lAt ls i).1.name) then 4 else 0) := by unfold Hid inpE; rw [fs_get]
  have H1 := hideP2 (hasLine_t h c 1 (lAt ls i).1.name i hi)
  have H2 := hideP2 (hasLine_t h c 2 (lAt ls i).1.name i hi)
  have H3 := hideP2 (isCon_a h c (lAt ls i).1.name)
  obtain ⟨gl, sa, sn, sc, na, nn, nc, rfl, hgl, ⟨c0, c1, c2, c3, c4, c5, c6, c7, c8, c9, c10⟩, _, _⟩ := h.line hi
  clear h c0 c2 c3 c4 c5 c6 c7 c8 c9 c10
  generalize (lAt ls i).1.name = nm at *
  generalize hasL ((fs ls).take i) 1 nm = p at *
  generalize hasL ((fs ls).take i) 2 nm = q at *
  generalize isCon (fs ls) nm = r at *
  cases p
  · cases q
    · go_enter Tryd.func64, Tryd.ntmps64
      go_wp2_with fail
      refine (H1.out _ (Below.refl _ _)).mono ?_
      rintro e w1 ⟨rfl, hb1⟩
      have HB1 := hideP2 hb1
      clear hb1
      go_wp2_with fail
      refine (H2.out _ HB1.out).mono ?_
      rintro e w2 ⟨rfl, hb2⟩
      have HB2 : Hid (Below w.heap.size w w2) := HB1.out.trans (hb2.mono HB1.out.size)
      clear hb2
      go_wp2_with fail
      refine (H3.out _ HB2.out).mono ?_
      rintro e w3 ⟨rfl, hb3⟩
      have HB3 : Hid (Below w.heap.size w w3) := HB2.out.trans (hb3.mono HB2.out.size)
      clear hb3
      cases r
      · go_wp2_with fail
        go_ret
        exact ⟨ret_int HR.out.symm, HB3.out⟩
      · go_wp2_with fail
        go_ret
        exact ⟨ret_int HR.out.symm, HB3.out⟩
    · go_enter Tryd.func64, Tryd.ntmps64
      go_wp2_with fail
      refine (H1.out _ (Below.refl _ _)).mono ?_
      rintro e w1 ⟨rfl, hb1⟩
      have HB1 := hideP2 hb1
      clear hb1
      go_wp2_with fail
      refine (H2.out _ HB1.out).mono ?_
      rintro e w2 ⟨rfl, hb2⟩
      have HB2 : Hid (Below w.heap.size w w2) := HB1.out.trans (hb2.mono HB1.out.size)
      clear hb2
      go_wp2_with fail
      go_ret
      exact ⟨ret_int HR.out.symm, HB2.out⟩
  · go_enter Tryd.func64, Tryd.ntmps64
    go_wp2_with fail
    refine (H1.out _ (Below.refl _ _)).mono ?_
    rintro e w1 ⟨rfl, hb1⟩
    have HB1 := hideP2 hb1
    clear hb1
    go_wp2_with fail
    go_ret
    exact ⟨ret_int HR.out.symm, HB1.out⟩
end Go.Proofs.YtnbpdffdnphbeaaDoor
