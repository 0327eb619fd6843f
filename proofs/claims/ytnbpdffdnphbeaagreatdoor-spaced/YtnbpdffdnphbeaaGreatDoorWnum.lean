/- The writer's place in memory, and what putNumber does. -/
import Derived.Test.YtnbpdffdnphbeaaGreatDoorPut
import Derived.Test.YtnbpdffdnphbeaaGreatDoorItoa
import Derived.WalkSmall
namespace Go.Proofs.YtnbpdffdnphbeaaGreatDoor
open Go.RowKit

def Tab (w : World) : Prop := Lib.TabIs Tryz.prog w "internal/strconv.uint64pow10" .u64 Lib.pow10Tab

abbrev WSt := Bs × Bool
/-- The writer, and the library's table, lie in memory. -/
structure WrS (w : World) (W : Nat) (st : WSt) : Prop where
  wr : Wr w W st.1 st.2
  tab : Tab w
  gl : ∃ g, Tryz.prog.globalNamed "internal/strconv.uint64pow10" = some g ∧ g < W

theorem Tab.below {w w' : World} {W : Nat} (h : Tab w) (hg : ∃ g, Tryz.prog.globalNamed "internal/strconv.uint64pow10" = some g ∧ g < W) (hb : Below W w w') : Tab w' := by
  obtain ⟨g, h1, h2⟩ := hg
  exact var?_below hb h1 h2 h

theorem WrS.step {w w' : World} {W : Nat} {st st' : WSt} (h : WrS w W st) (hw : Wr w' W st'.1 st'.2) (hk : KT W w w') : WrS w' W st' := ⟨hw, h.tab.below h.gl hk.below, h.gl⟩

theorem Wr.new {w : World} {W : Nat} {out : Bs} {il : Bool} (h : Wr w W out il) (o : Obj) : Wr (w.alloc o) W out il := by
  obtain ⟨ov, h1, h2⟩ := h
  exact ⟨ov, hb_new h1, h2.alloc _⟩
theorem WrS.new {w : World} {W : Nat} {st : WSt} (h : WrS w W st) (o : Obj) : WrS (w.alloc o) W st :=
  h.step (h.wr.new o) ((KT.refl W w).new (Nat.le_of_lt h.wr.lt) o)

theorem grow_kept {w : World} {k : Nat} {os : Array Obj} {i : Nat} {x : Obj} (h : w.heap[i]? = some x) : (Sort.grow (w.drewN k) os).heap[i]? = some x := by
  have hi : i < w.heap.size := by
    rcases Nat.lt_or_ge i w.heap.size with h1 | h1
    · exact h1
    · rw [Array.getElem?_eq_none h1] at h; cases h
  have hd : (w.drewN k).heap = w.heap := by simp
  rw [Sort.heap_grow_old _ _ (by rw [hd]; exact hi), hd]; exact h

theorem KT.growN {W : Nat} {w : World} (k : Nat) (os : Array Obj) (hW : W ≤ w.heap.size) : KT W w (Sort.grow (w.drewN k) os) := by
  have hd : (w.drewN k).heap = w.heap := by simp
  refine ⟨⟨rfl, by simp [Sort.grow], rfl, by simp [Sort.grow], fun i hi => ?_⟩, fun i x hx _ => grow_kept hx⟩
  rw [Sort.heap_grow_old _ _ (by rw [hd]; omega), hd]

theorem Wr.grow {w : World} {W : Nat} {out : Bs} {il : Bool} (h : Wr w W out il) (k : Nat) (os : Array Obj) : Wr (Sort.grow (w.drewN k) os) W out il := by
  obtain ⟨ov, h1, h2⟩ := h
  refine ⟨ov, grow_kept h1, h2.1, ?_⟩
  rcases h2.2 with h3 | ⟨g, cap, c, h4, h5, h6, r⟩
  · exact .inl h3
  · exact .inr ⟨g, cap, c, h4, h5, grow_kept h6, r⟩

def wPut (t : Bs) (st : WSt) : WSt := (putB st.1 st.2 t, true)
def wNum (n : Int) (st : WSt) : WSt := wPut (Lib.itoa n) st

theorem wPut_le (t : Bs) (st : WSt) : st.1.length + t.length ≤ (wPut t st).1.length := by
  obtain ⟨o, il⟩ := st; cases il <;> simp [wPut, putB] <;> omega

def bigW : Nat := 5000000

theorem wput_s (w : World) (W : Nat) (st : WSt) (t : Bs) (h : WrS w W st) (hn : (wPut t st).1.length ≤ bigW) :
    Calls Tryz.prog 154 #[.pointer (some ⟨W, 0, none⟩), .string ⟨t.toArray⟩] w fun e w' => e = .returned (.tuple #[]) ∧ WrS w' W (wPut t st) ∧ KT W w w' := by
  refine (put_s w W st.1 t st.2 h.wr (by have h1 := wPut_le t st; unfold bigW at hn; omega)).mono ?_
  rintro e w' ⟨rfl, h1, h2⟩
  exact ⟨rfl, h.step h1 h2, h2⟩

set_option maxHeartbeats 1000000 in
theorem wnum_s (w : World) (W : Nat) (st : WSt) (n : Int) (h : WrS w W st) (hn : (wNum n st).1.length ≤ bigW) (h0 : 0 ≤ n) (h1 : n ≤ 9999) :
    Calls Tryz.prog 155 #[.pointer (some ⟨W, 0, none⟩), .int .i64 n] w fun e w' => e = .returned (.tuple #[]) ∧ WrS w' W (wNum n st) ∧ KT W w w' := by
  have hW := h.wr.lt
  have HS := hideP2 h
  have HI := hideP2 (Tryz.strconv_Itoa_laid n (by omega) (by omega) w h.tab)
  have HN := hideP2 hn
  clear h hn
  go_enter Tryz.func155, Tryz.ntmps155
  go_wp2_with fail
  refine HI.out.mono ?_
  rintro e w1 ⟨rfl, k, os, hw1⟩
  have hk1 : KT W w w1 := by rw [hw1]; exact KT.growN k os (Nat.le_of_lt hW)
  have hs1 : WrS w1 W st := HS.out.step (by rw [hw1]; exact HS.out.wr.grow k os) hk1
  have HK1 := hideP2 hk1
  have HS1 := hideP2 hs1
  clear hk1 hs1 hw1 HI
  go_wp2_with fail
  refine (wput_s w1 W st (Lib.itoa n) HS1.out HN.out).mono ?_
  rintro e w2 ⟨rfl, hs2, hk2⟩
  have HS2 := hideP2 hs2
  have HK2 : Hid (KT W w w2) := HK1.out.trans hk2
  clear hs2 hk2
  go_wp2_with fail
  go_end0
  exact ⟨rfl, HS2.out, HK2.out⟩
end Go.Proofs.YtnbpdffdnphbeaaGreatDoor

/- What operand and test of the writer do. -/
namespace Go.Proofs.YtnbpdffdnphbeaaGreatDoor
open Go.RowKit

theorem wle (t : Bs) (st : WSt) {n : Nat} (h : (wPut t st).1.length ≤ n) : st.1.length ≤ n := Nat.le_trans (Nat.le_trans (Nat.le_add_right _ _) (wPut_le t st)) h

set_option maxHeartbeats 1000000 in
theorem operand_num (w : World) (W : Nat) (st : WSt) (xk xl xr xu : Int) (xn xm xo : Bs) (h : WrS w W st) (he : xo.isEmpty = true) (h0 : 0 ≤ xu) (h1 : xu ≤ 9999) (hn : (wNum xu st).1.length ≤ bigW) :
    Calls Tryz.prog 250 #[.pointer (some ⟨W, 0, none⟩), .agg #[.int .i64 xk, .int .i64 xl, .int .i64 xr, .string ⟨xn.toArray⟩, .string ⟨xm.toArray⟩, .string ⟨xo.toArray⟩, .int .i64 xu]] w fun e w' => e = .returned (.tuple #[]) ∧ WrS w' W (wNum xu st) ∧ KT W w w' := by
  have hW := h.wr.lt
  have HS0 := hideP2 h
  have HN := hideP2 hn
  clear h hn
  go_enter Tryz.func250, Tryz.ntmps250
  go_wp2_with fail
  refine (wnum_s _ W st xu (WrS.new HS0.out _) HN.out h0 h1).mono ?_
  rintro e w1 ⟨rfl, hs1, hk1⟩
  have HS1 := hideP2 hs1
  have HK1 : Hid (KT W w w1) := (KT.trans ((KT.refl W w).new (Nat.le_of_lt hW) _) hk1)
  have bx1 : w1.heap[w.heap.size]? = some (.cells #[.int .i64 xk, .int .i64 xl, .int .i64 xr, .string ⟨xn.toArray⟩, .string ⟨xm.toArray⟩, .string ⟨xo.toArray⟩, .int .i64 xu] 304 (0, 0)) := hk1.kept _ _ (hb_end _ _) (okT_cells (by decide) (by decide))
  have cx1 := fun j => cell_of_row _ _ j _ _ _ bx1
  clear hs1 hk1
  go_wp2_with fail
  first | go_end0 | ((try simp only [Exit.inBlock, Exit.then]); refine bodyPost_ret (results_none rfl _ _ _) rfl ?_)
  exact ⟨rfl, HS1.out, HK1.out⟩

set_option maxHeartbeats 1000000 in
theorem operand_name (w : World) (W : Nat) (st : WSt) (xk xl xr xu : Int) (xn xm xo : Bs) (h : WrS w W st) (he : xo.isEmpty = false) (hn : (wPut xo st).1.length ≤ bigW) :
    Calls Tryz.prog 250 #[.pointer (some ⟨W, 0, none⟩), .agg #[.int .i64 xk, .int .i64 xl, .int .i64 xr, .string ⟨xn.toArray⟩, .string ⟨xm.toArray⟩, .string ⟨xo.toArray⟩, .int .i64 xu]] w fun e w' => e = .returned (.tuple #[]) ∧ WrS w' W (wPut xo st) ∧ KT W w w' := by
  have hW := h.wr.lt
  have HS0 := hideP2 h
  have HN := hideP2 hn
  clear h hn
  go_enter Tryz.func250, Tryz.ntmps250
  go_wp2_with fail
  refine (wput_s _ W st xo (WrS.new HS0.out _) HN.out).mono ?_
  rintro e w1 ⟨rfl, hs1, hk1⟩
  have HS1 := hideP2 hs1
  have HK1 : Hid (KT W w w1) := (KT.trans ((KT.refl W w).new (Nat.le_of_lt hW) _) hk1)
  have bx1 : w1.heap[w.heap.size]? = some (.cells #[.int .i64 xk, .int .i64 xl, .int .i64 xr, .string ⟨xn.toArray⟩, .string ⟨xm.toArray⟩, .string ⟨xo.toArray⟩, .int .i64 xu] 304 (0, 0)) := hk1.kept _ _ (hb_end _ _) (okT_cells (by decide) (by decide))
  have cx1 := fun j => cell_of_row _ _ j _ _ _ bx1
  clear hs1 hk1
  go_wp2_with fail
  first | go_end0 | ((try simp only [Exit.inBlock, Exit.then]); refine bodyPost_ret (results_none rfl _ _ _) rfl ?_)
  exact ⟨rfl, HS1.out, HK1.out⟩

set_option maxHeartbeats 1000000 in
theorem wtest_4 (w : World) (W : Nat) (st : WSt) (xk xl xr xu : Int) (xn xm xo : Bs) (h : WrS w W st) (hk : xk = 4) (hn : (wPut [97, 108, 119, 97, 121, 115] st).1.length ≤ bigW) :
    Calls Tryz.prog 218 #[.pointer (some ⟨W, 0, none⟩), .agg #[.int .i64 xk, .int .i64 xl, .int .i64 xr, .string ⟨xn.toArray⟩, .string ⟨xm.toArray⟩, .string ⟨xo.toArray⟩, .int .i64 xu]] w fun e w' => e = .returned (.tuple #[]) ∧ WrS w' W (wPut [97, 108, 119, 97, 121, 115] st) ∧ KT W w w' := by
  have hW := h.wr.lt
  have HS0 := hideP2 h
  have HN := hideP2 hn
  clear h hn
  subst hk
  go_enter Tryz.func218, Tryz.ntmps218
  go_wp2_with fail
  refine (wput_s _ W st [97, 108, 119, 97, 121, 115] (WrS.new HS0.out _) HN.out).mono ?_
  rintro e w1 ⟨rfl, hs1, hk1⟩
  have HS1 := hideP2 hs1
  have HK1 : Hid (KT W w w1) := (KT.trans ((KT.refl W w).new (Nat.le_of_lt hW) _) hk1)
  have bx1 : w1.heap[w.heap.size]? = some (.cells #[.int .i64 4, .int .i64 xl, .int .i64 xr, .string ⟨xn.toArray⟩, .string ⟨xm.toArray⟩, .string ⟨xo.toArray⟩, .int .i64 xu] 304 (0, 0)) := hk1.kept _ _ (hb_end _ _) (okT_cells (by decide) (by decide))
  have cx1 := fun j => cell_of_row _ _ j _ _ _ bx1
  clear hs1 hk1
  go_wp2_with fail
  first | go_end0 | ((try simp only [Exit.inBlock, Exit.then]); refine bodyPost_ret (results_none rfl _ _ _) rfl ?_)
  exact ⟨rfl, HS1.out, HK1.out⟩

set_option maxHeartbeats 1000000 in
theorem wtest_5 (w : World) (W : Nat) (st : WSt) (xk xl xr xu : Int) (xn xm xo : Bs) (h : WrS w W st) (hk : xk = 5) (hn : (wPut xn (wPut [104, 97, 115] st)).1.length ≤ bigW) :
    Calls Tryz.prog 218 #[.pointer (some ⟨W, 0, none⟩), .agg #[.int .i64 xk, .int .i64 xl, .int .i64 xr, .string ⟨xn.toArray⟩, .string ⟨xm.toArray⟩, .string ⟨xo.toArray⟩, .int .i64 xu]] w fun e w' => e = .returned (.tuple #[]) ∧ WrS w' W (wPut xn (wPut [104, 97, 115] st)) ∧ KT W w w' := by
  have hW := h.wr.lt
  have HS0 := hideP2 h
  have HN := hideP2 hn
  clear h hn
  subst hk
  go_enter Tryz.func218, Tryz.ntmps218
  go_wp2_with fail
  refine (wput_s _ W st [104, 97, 115] (WrS.new HS0.out _) (wle _ _ HN.out)).mono ?_
  rintro e w1 ⟨rfl, hs1, hk1⟩
  have HS1 := hideP2 hs1
  have HK1 : Hid (KT W w w1) := (KT.trans ((KT.refl W w).new (Nat.le_of_lt hW) _) hk1)
  have bx1 : w1.heap[w.heap.size]? = some (.cells #[.int .i64 5, .int .i64 xl, .int .i64 xr, .string ⟨xn.toArray⟩, .string ⟨xm.toArray⟩, .string ⟨xo.toArray⟩, .int .i64 xu] 304 (0, 0)) := hk1.kept _ _ (hb_end _ _) (okT_cells (by decide) (by decide))
  have cx1 := fun j => cell_of_row _ _ j _ _ _ bx1
  clear hs1 hk1
  go_wp2_with fail
  refine (wput_s _ W (wPut [104, 97, 115] st) xn HS1.out HN.out).mono ?_
  rintro e w2 ⟨rfl, hs2, hk2⟩
  have HS2 := hideP2 hs2
  have HK2 : Hid (KT W w w2) := (KT.trans HK1.out hk2)
  have bx2 : w2.heap[w.heap.size]? = some (.cells #[.int .i64 5, .int .i64 xl, .int .i64 xr, .string ⟨xn.toArray⟩, .string ⟨xm.toArray⟩, .string ⟨xo.toArray⟩, .int .i64 xu] 304 (0, 0)) := hk2.kept _ _ bx1 (okT_cells (by decide) (by decide))
  have cx2 := fun j => cell_of_row _ _ j _ _ _ bx2
  clear cx1 bx1
  clear hs2 hk2
  go_wp2_with fail
  first | go_end0 | ((try simp only [Exit.inBlock, Exit.then]); refine bodyPost_ret (results_none rfl _ _ _) rfl ?_)
  exact ⟨rfl, HS2.out, HK2.out⟩

set_option maxHeartbeats 1000000 in
theorem wtest_6 (w : World) (W : Nat) (st : WSt) (xk xl xr xu : Int) (xn xm xo : Bs) (h : WrS w W st) (hk : xk = 6) (hn : (wPut xn st).1.length ≤ bigW) :
    Calls Tryz.prog 218 #[.pointer (some ⟨W, 0, none⟩), .agg #[.int .i64 xk, .int .i64 xl, .int .i64 xr, .string ⟨xn.toArray⟩, .string ⟨xm.toArray⟩, .string ⟨xo.toArray⟩, .int .i64 xu]] w fun e w' => e = .returned (.tuple #[]) ∧ WrS w' W (wPut xn st) ∧ KT W w w' := by
  have hW := h.wr.lt
  have HS0 := hideP2 h
  have HN := hideP2 hn
  clear h hn
  subst hk
  go_enter Tryz.func218, Tryz.ntmps218
  go_wp2_with fail
  refine (wput_s _ W st xn (WrS.new HS0.out _) HN.out).mono ?_
  rintro e w1 ⟨rfl, hs1, hk1⟩
  have HS1 := hideP2 hs1
  have HK1 : Hid (KT W w w1) := (KT.trans ((KT.refl W w).new (Nat.le_of_lt hW) _) hk1)
  have bx1 : w1.heap[w.heap.size]? = some (.cells #[.int .i64 6, .int .i64 xl, .int .i64 xr, .string ⟨xn.toArray⟩, .string ⟨xm.toArray⟩, .string ⟨xo.toArray⟩, .int .i64 xu] 304 (0, 0)) := hk1.kept _ _ (hb_end _ _) (okT_cells (by decide) (by decide))
  have cx1 := fun j => cell_of_row _ _ j _ _ _ bx1
  clear hs1 hk1
  go_wp2_with fail
  first | go_end0 | ((try simp only [Exit.inBlock, Exit.then]); refine bodyPost_ret (results_none rfl _ _ _) rfl ?_)
  exact ⟨rfl, HS1.out, HK1.out⟩

set_option maxHeartbeats 1000000 in
theorem wtest_7n (w : World) (W : Nat) (st : WSt) (xk xl xr xu : Int) (xn xm xo : Bs) (h : WrS w W st) (hk : xk = 7) (he : xo.isEmpty = true) (h0 : 0 ≤ xu) (h1 : xu ≤ 9999) (hn : (wNum xu (wPut xm (wPut xn st))).1.length ≤ bigW) :
    Calls Tryz.prog 218 #[.pointer (some ⟨W, 0, none⟩), .agg #[.int .i64 xk, .int .i64 xl, .int .i64 xr, .string ⟨xn.toArray⟩, .string ⟨xm.toArray⟩, .string ⟨xo.toArray⟩, .int .i64 xu]] w fun e w' => e = .returned (.tuple #[]) ∧ WrS w' W (wNum xu (wPut xm (wPut xn st))) ∧ KT W w w' := by
  have hW := h.wr.lt
  have HS0 := hideP2 h
  have HN := hideP2 hn
  clear h hn
  subst hk
  go_enter Tryz.func218, Tryz.ntmps218
  go_wp2_with fail
  refine (wput_s _ W st xn (WrS.new HS0.out _) (wle _ _ (wle _ _ HN.out))).mono ?_
  rintro e w1 ⟨rfl, hs1, hk1⟩
  have HS1 := hideP2 hs1
  have HK1 : Hid (KT W w w1) := (KT.trans ((KT.refl W w).new (Nat.le_of_lt hW) _) hk1)
  have bx1 : w1.heap[w.heap.size]? = some (.cells #[.int .i64 7, .int .i64 xl, .int .i64 xr, .string ⟨xn.toArray⟩, .string ⟨xm.toArray⟩, .string ⟨xo.toArray⟩, .int .i64 xu] 304 (0, 0)) := hk1.kept _ _ (hb_end _ _) (okT_cells (by decide) (by decide))
  have cx1 := fun j => cell_of_row _ _ j _ _ _ bx1
  clear hs1 hk1
  go_wp2_with fail
  refine (wput_s _ W (wPut xn st) xm HS1.out (wle _ _ HN.out)).mono ?_
  rintro e w2 ⟨rfl, hs2, hk2⟩
  have HS2 := hideP2 hs2
  have HK2 : Hid (KT W w w2) := (KT.trans HK1.out hk2)
  have bx2 : w2.heap[w.heap.size]? = some (.cells #[.int .i64 7, .int .i64 xl, .int .i64 xr, .string ⟨xn.toArray⟩, .string ⟨xm.toArray⟩, .string ⟨xo.toArray⟩, .int .i64 xu] 304 (0, 0)) := hk2.kept _ _ bx1 (okT_cells (by decide) (by decide))
  have cx2 := fun j => cell_of_row _ _ j _ _ _ bx2
  clear cx1 bx1
  clear hs2 hk2
  go_wp2_with fail
  refine (operand_num _ W (wPut xm (wPut xn st)) 7 xl xr xu xn xm xo HS2.out he h0 h1 HN.out).mono ?_
  rintro e w3 ⟨rfl, hs3, hk3⟩
  have HS3 := hideP2 hs3
  have HK3 : Hid (KT W w w3) := (KT.trans HK2.out hk3)
  have bx3 : w3.heap[w.heap.size]? = some (.cells #[.int .i64 7, .int .i64 xl, .int .i64 xr, .string ⟨xn.toArray⟩, .string ⟨xm.toArray⟩, .string ⟨xo.toArray⟩, .int .i64 xu] 304 (0, 0)) := hk3.kept _ _ bx2 (okT_cells (by decide) (by decide))
  have cx3 := fun j => cell_of_row _ _ j _ _ _ bx3
  clear cx2 bx2
  clear hs3 hk3
  go_wp2_with fail
  first | go_end0 | ((try simp only [Exit.inBlock, Exit.then]); refine bodyPost_ret (results_none rfl _ _ _) rfl ?_)
  exact ⟨rfl, HS3.out, HK3.out⟩

set_option maxHeartbeats 1000000 in
theorem wtest_7o (w : World) (W : Nat) (st : WSt) (xk xl xr xu : Int) (xn xm xo : Bs) (h : WrS w W st) (hk : xk = 7) (he : xo.isEmpty = false) (hn : (wPut xo (wPut xm (wPut xn st))).1.length ≤ bigW) :
    Calls Tryz.prog 218 #[.pointer (some ⟨W, 0, none⟩), .agg #[.int .i64 xk, .int .i64 xl, .int .i64 xr, .string ⟨xn.toArray⟩, .string ⟨xm.toArray⟩, .string ⟨xo.toArray⟩, .int .i64 xu]] w fun e w' => e = .returned (.tuple #[]) ∧ WrS w' W (wPut xo (wPut xm (wPut xn st))) ∧ KT W w w' := by
  have hW := h.wr.lt
  have HS0 := hideP2 h
  have HN := hideP2 hn
  clear h hn
  subst hk
  go_enter Tryz.func218, Tryz.ntmps218
  go_wp2_with fail
  refine (wput_s _ W st xn (WrS.new HS0.out _) (wle _ _ (wle _ _ HN.out))).mono ?_
  rintro e w1 ⟨rfl, hs1, hk1⟩
  have HS1 := hideP2 hs1
  have HK1 : Hid (KT W w w1) := (KT.trans ((KT.refl W w).new (Nat.le_of_lt hW) _) hk1)
  have bx1 : w1.heap[w.heap.size]? = some (.cells #[.int .i64 7, .int .i64 xl, .int .i64 xr, .string ⟨xn.toArray⟩, .string ⟨xm.toArray⟩, .string ⟨xo.toArray⟩, .int .i64 xu] 304 (0, 0)) := hk1.kept _ _ (hb_end _ _) (okT_cells (by decide) (by decide))
  have cx1 := fun j => cell_of_row _ _ j _ _ _ bx1
  clear hs1 hk1
  go_wp2_with fail
  refine (wput_s _ W (wPut xn st) xm HS1.out (wle _ _ HN.out)).mono ?_
  rintro e w2 ⟨rfl, hs2, hk2⟩
  have HS2 := hideP2 hs2
  have HK2 : Hid (KT W w w2) := (KT.trans HK1.out hk2)
  have bx2 : w2.heap[w.heap.size]? = some (.cells #[.int .i64 7, .int .i64 xl, .int .i64 xr, .string ⟨xn.toArray⟩, .string ⟨xm.toArray⟩, .string ⟨xo.toArray⟩, .int .i64 xu] 304 (0, 0)) := hk2.kept _ _ bx1 (okT_cells (by decide) (by decide))
  have cx2 := fun j => cell_of_row _ _ j _ _ _ bx2
  clear cx1 bx1
  clear hs2 hk2
  go_wp2_with fail
  refine (operand_name _ W (wPut xm (wPut xn st)) 7 xl xr xu xn xm xo HS2.out he HN.out).mono ?_
  rintro e w3 ⟨rfl, hs3, hk3⟩
  have HS3 := hideP2 hs3
  have HK3 : Hid (KT W w w3) := (KT.trans HK2.out hk3)
  have bx3 : w3.heap[w.heap.size]? = some (.cells #[.int .i64 7, .int .i64 xl, .int .i64 xr, .string ⟨xn.toArray⟩, .string ⟨xm.toArray⟩, .string ⟨xo.toArray⟩, .int .i64 xu] 304 (0, 0)) := hk3.kept _ _ bx2 (okT_cells (by decide) (by decide))
  have cx3 := fun j => cell_of_row _ _ j _ _ _ bx3
  clear cx2 bx2
  clear hs3 hk3
  go_wp2_with fail
  first | go_end0 | ((try simp only [Exit.inBlock, Exit.then]); refine bodyPost_ret (results_none rfl _ _ _) rfl ?_)
  exact ⟨rfl, HS3.out, HK3.out⟩

/-- What a test becomes. -/
def wTest (x : PNode) (st : WSt) : WSt :=
  if x.kind = 4 then wPut [97, 108, 119, 97, 121, 115] st
  else if x.kind = 5 then wPut x.name (wPut [104, 97, 115] st)
  else if x.kind = 6 then wPut x.name st
  else if x.other.isEmpty = true then wNum x.num (wPut x.mark (wPut x.name st))
  else wPut x.other (wPut x.mark (wPut x.name st))

theorem wtest_s (w : World) (W : Nat) (st : WSt) (x : PNode) (h : WrS w W st) (hk : 4 ≤ x.kind ∧ x.kind ≤ 7) (h0 : 0 ≤ x.num) (h1 : x.num ≤ 9999) (hn : (wTest x st).1.length ≤ bigW) :
    Calls Tryz.prog 218 #[.pointer (some ⟨W, 0, none⟩), nodeV x] w fun e w' => e = .returned (.tuple #[]) ∧ WrS w' W (wTest x st) ∧ KT W w w' := by
  obtain ⟨xk, xl, xr, xn, xm, xo, xu⟩ := x
  simp only [nodeV, wTest] at *
  by_cases k4 : xk = 4
  · rw [if_pos k4] at hn ⊢; exact wtest_4 w W st xk xl xr xu xn xm xo h k4 hn
  rw [if_neg k4] at hn ⊢
  by_cases k5 : xk = 5
  · rw [if_pos k5] at hn ⊢; exact wtest_5 w W st xk xl xr xu xn xm xo h k5 hn
  rw [if_neg k5] at hn ⊢
  by_cases k6 : xk = 6
  · rw [if_pos k6] at hn ⊢; exact wtest_6 w W st xk xl xr xu xn xm xo h k6 hn
  rw [if_neg k6] at hn ⊢
  have k7 : xk = 7 := by omega
  cases he : xo.isEmpty
  · rw [he] at hn; simp only [Bool.false_eq_true, if_false] at hn ⊢
    exact wtest_7o w W st xk xl xr xu xn xm xo h k7 he hn
  · rw [he] at hn; simp only [if_true] at hn ⊢
    exact wtest_7n w W st xk xl xr xu xn xm xo h k7 he h0 h1 hn
end Go.Proofs.YtnbpdffdnphbeaaGreatDoor

/- What node, side, negated and bracketed of the writer do. -/
namespace Go.Proofs.YtnbpdffdnphbeaaGreatDoor
open Go.RowKit

def nz : PNode := ⟨0, 0, 0, [], [], [], 0⟩
def nAt (N : List PNode) (a : Nat) : PNode := N.getD a nz

def sideW (N : List PNode) (f : Nat → WSt → WSt) (a : Nat) (st : WSt) : WSt := if (nAt N a).kind = 1 then wPut kShut (f a (wPut kOpen st)) else f a st
def negW (N : List PNode) (f : Nat → WSt → WSt) (a : Nat) (st : WSt) : WSt := if (nAt N a).kind = 1 ∨ (nAt N a).kind = 2 then wPut kShut (f a (wPut kOpen st)) else f a st

/-- What a node of a guard becomes. -/
def wNode (N : List PNode) : Nat → Nat → WSt → WSt
  | 0, _, st => st
  | n + 1, a, st =>
    if (nAt N a).kind = 1 then wNode N n (nAt N a).right.toNat (wPut kOr (wNode N n (nAt N a).left.toNat st))
    else if (nAt N a).kind = 2 then sideW N (wNode N n) (nAt N a).right.toNat (wPut kAnd (sideW N (wNode N n) (nAt N a).left.toNat st))
    else if (nAt N a).kind = 3 then negW N (wNode N n) (nAt N a).left.toNat (wPut kNot st)
    else wTest (nAt N a) st

def wBr (N : List PNode) (n : Nat) (a : Nat) (st : WSt) : WSt := wPut kShut (wNode N n a (wPut kOpen st))
def wSide (N : List PNode) (n : Nat) (a : Nat) (st : WSt) : WSt := sideW N (wNode N n) a st
def wNeg (N : List PNode) (n : Nat) (a : Nat) (st : WSt) : WSt := negW N (wNode N n) a st

/-- Each node stands behind those that it is made of; its number is small. -/
def GoodN (N : List PNode) : Prop := ∀ a, a < N.length →
  ((nAt N a).kind = 1 → 0 ≤ (nAt N a).left ∧ (nAt N a).left < a ∧ 0 ≤ (nAt N a).right ∧ (nAt N a).right < a) ∧
  ((nAt N a).kind = 2 → 0 ≤ (nAt N a).left ∧ (nAt N a).left < a ∧ 0 ≤ (nAt N a).right ∧ (nAt N a).right < a) ∧
  ((nAt N a).kind = 3 → 0 ≤ (nAt N a).left ∧ (nAt N a).left < a) ∧
  (¬ (nAt N a).kind = 1 → ¬ (nAt N a).kind = 2 → ¬ (nAt N a).kind = 3 → (4 ≤ (nAt N a).kind ∧ (nAt N a).kind ≤ 7) ∧ 0 ≤ (nAt N a).num ∧ (nAt N a).num ≤ 9999)

theorem wle' (t : Bs) (st : WSt) : st.1.length ≤ (wPut t st).1.length := Nat.le_trans (Nat.le_add_right _ _) (wPut_le t st)
theorem wTest_le (x : PNode) (st : WSt) : st.1.length ≤ (wTest x st).1.length := by
  unfold wTest
  split
  · exact wle' _ _
  · split
    · exact Nat.le_trans (wle' _ _) (wle' _ _)
    · split
      · exact wle' _ _
      · split
        · exact Nat.le_trans (wle' _ _) (Nat.le_trans (wle' _ _) (wle' _ _))
        · exact Nat.le_trans (wle' _ _) (Nat.le_trans (wle' _ _) (wle' _ _))
theorem sideW_le (N : List PNode) (f : Nat → WSt → WSt) (hf : ∀ a st, st.1.length ≤ (f a st).1.length) (a : Nat) (st : WSt) : st.1.length ≤ (sideW N f a st).1.length := by
  unfold sideW; split
  · exact Nat.le_trans (wle' _ _) (Nat.le_trans (hf _ _) (wle' _ _))
  · exact hf _ _
theorem negW_le (N : List PNode) (f : Nat → WSt → WSt) (hf : ∀ a st, st.1.length ≤ (f a st).1.length) (a : Nat) (st : WSt) : st.1.length ≤ (negW N f a st).1.length := by
  unfold negW; split
  · exact Nat.le_trans (wle' _ _) (Nat.le_trans (hf _ _) (wle' _ _))
  · exact hf _ _
theorem wNode_le (N : List PNode) (n : Nat) : ∀ a st, st.1.length ≤ (wNode N n a st).1.length := by
  induction n with
  | zero => intro a st; exact Nat.le_refl _
  | succ n ih =>
    intro a st; rw [wNode]
    split
    · exact Nat.le_trans (ih _ _) (Nat.le_trans (wle' _ _) (ih _ _))
    · split
      · exact Nat.le_trans (sideW_le N _ ih _ _) (Nat.le_trans (wle' _ _) (sideW_le N _ ih _ _))
      · split
        · exact Nat.le_trans (wle' _ _) (negW_le N _ ih _ _)
        · exact wTest_le _ _

/-- The nodes lie in block gN. -/
structure NodB (w : World) (gN : Nat) (cur : Array Value) (N : List PNode) : Prop where
  blk : w.heap[gN]? = some (.cells cur 304 (0, 0))
  row : cur.toList.take (N.length * 7) = flatN N

theorem NodB.kt {w w' : World} {W gN : Nat} {cur : Array Value} {N : List PNode} (h : NodB w gN cur N) (hk : KT W w w') : NodB w' gN cur N := ⟨hk.kept _ _ h.blk (okT_cells (by decide) (by decide)), h.row⟩
theorem NodB.new {w : World} {gN : Nat} {cur : Array Value} {N : List PNode} (h : NodB w gN cur N) (o : Obj) : NodB (w.alloc o) gN cur N := ⟨hb_new h.blk, h.row⟩

theorem flatN_get (N : List PNode) : ∀ i, i < N.length → ∀ j, j < 7 → (flatN N)[i * 7 + j]? = (nodeC (nAt N i))[j]? := by
  induction N with
  | nil => intro i h; simp at h
  | cons t r ih =>
    intro i h j hj
    have e : flatN (t :: r) = nodeC t ++ flatN r := by simp [flatN]
    have hl : (nodeC t).length = 7 := rfl
    cases i with
    | zero => rw [e, List.getElem?_append_left (by rw [hl]; omega)]; simp [nAt]
    | succ i =>
      rw [e, List.getElem?_append_right (by rw [hl]; omega), hl, show (i + 1) * 7 + j - 7 = i * 7 + j by omega, ih i (by simpa using h) j hj]
      simp [nAt]

theorem NodB.cells {w : World} {gN : Nat} {cur : Array Value} {N : List PNode} (h : NodB w gN cur N) {a : Nat} (ha : a < N.length) :
    w.cell? ⟨gN, a * 7, none⟩ = some (.int .i64 (nAt N a).kind) ∧ w.cell? ⟨gN, a * 7 + 1, none⟩ = some (.int .i64 (nAt N a).left) ∧ w.cell? ⟨gN, a * 7 + 2, none⟩ = some (.int .i64 (nAt N a).right) ∧ w.cell? ⟨gN, a * 7 + 3, none⟩ = some (.string ⟨(nAt N a).name.toArray⟩) ∧ w.cell? ⟨gN, a * 7 + 4, none⟩ = some (.string ⟨(nAt N a).mark.toArray⟩) ∧ w.cell? ⟨gN, a * 7 + 5, none⟩ = some (.string ⟨(nAt N a).other.toArray⟩) ∧ w.cell? ⟨gN, a * 7 + 6, none⟩ = some (.int .i64 (nAt N a).num) := by
  have hg := fun j (hj : j < 7) => flatN_get N a ha j hj
  refine ⟨cell_take2 h.blk h.row (hg 0 (by omega)), cell_take2 h.blk h.row (hg 1 (by omega)), cell_take2 h.blk h.row (hg 2 (by omega)), cell_take2 h.blk h.row (hg 3 (by omega)), cell_take2 h.blk h.row (hg 4 (by omega)), cell_take2 h.blk h.row (hg 5 (by omega)), cell_take2 h.blk h.row (hg 6 (by omega))⟩

def NodeSaid (W gN cap : Nat) (cur : Array Value) (N : List PNode) (n : Nat) : Prop := ∀ (w : World) (st : WSt) (a : Nat), WrS w W st → NodB w gN cur N → a < N.length → a < n → (wNode N n a st).1.length ≤ bigW →
  Calls Tryz.prog 157 #[.pointer (some ⟨W, 0, none⟩), .slice (some ⟨gN, 0, none⟩) N.length cap, .int .i64 (a : Nat)] w fun e w' => e = .returned (.tuple #[]) ∧ WrS w' W (wNode N n a st) ∧ KT W w w'
def BrSaid (W gN cap : Nat) (cur : Array Value) (N : List PNode) (n : Nat) : Prop := ∀ (w : World) (st : WSt) (a : Nat), WrS w W st → NodB w gN cur N → a < N.length → a < n → (wBr N n a st).1.length ≤ bigW →
  Calls Tryz.prog 249 #[.pointer (some ⟨W, 0, none⟩), .slice (some ⟨gN, 0, none⟩) N.length cap, .int .i64 (a : Nat)] w fun e w' => e = .returned (.tuple #[]) ∧ WrS w' W (wBr N n a st) ∧ KT W w w'
def SideSaid (W gN cap : Nat) (cur : Array Value) (N : List PNode) (n : Nat) : Prop := ∀ (w : World) (st : WSt) (a : Nat), WrS w W st → NodB w gN cur N → a < N.length → a < n → (wSide N n a st).1.length ≤ bigW →
  Calls Tryz.prog 216 #[.pointer (some ⟨W, 0, none⟩), .slice (some ⟨gN, 0, none⟩) N.length cap, .int .i64 (a : Nat)] w fun e w' => e = .returned (.tuple #[]) ∧ WrS w' W (wSide N n a st) ∧ KT W w w'
def NegSaid (W gN cap : Nat) (cur : Array Value) (N : List PNode) (n : Nat) : Prop := ∀ (w : World) (st : WSt) (a : Nat), WrS w W st → NodB w gN cur N → a < N.length → a < n → (wNeg N n a st).1.length ≤ bigW →
  Calls Tryz.prog 217 #[.pointer (some ⟨W, 0, none⟩), .slice (some ⟨gN, 0, none⟩) N.length cap, .int .i64 (a : Nat)] w fun e w' => e = .returned (.tuple #[]) ∧ WrS w' W (wNeg N n a st) ∧ KT W w w'

set_option maxHeartbeats 1000000 in
theorem br_s (W gN cap : Nat) (cur : Array Value) (N : List PNode) (n : Nat) (hno : NodeSaid W gN cap cur N n) : BrSaid W gN cap cur N n := by
  intro w st a h hnb ha hn hl
  have hW := h.wr.lt
  have HS0 := hideP2 h
  have HNB := hideP2 hnb
  have HNo := hideP2 hno
  have HL3 := hideP2 hl
  have hl2 : (wNode N n a (wPut kOpen st)).1.length ≤ bigW := Nat.le_trans (wle' kShut _) hl
  have HL2 := hideP2 hl2
  have HL1 := hideP2 (Nat.le_trans (wNode_le N n a (wPut kOpen st)) hl2)
  clear h hnb hno hl hl2
  go_enter Tryz.func249, Tryz.ntmps249
  go_wp2_with fail
  refine (wput_s _ W st kOpen HS0.out HL1.out).mono ?_
  rintro e w1 ⟨rfl, hs1, hk1⟩
  have HS1 := hideP2 hs1
  have HK1 : Hid (KT W w w1) := hk1
  have HB1 : Hid (NodB w1 gN cur N) := NodB.kt HNB.out hk1
  clear hs1 hk1
  go_wp2_with fail
  refine (HNo.out _ (wPut kOpen st) a HS1.out HB1.out ha hn HL2.out).mono ?_
  rintro e w2 ⟨rfl, hs2, hk2⟩
  have HS2 := hideP2 hs2
  have HK2 : Hid (KT W w w2) := (KT.trans HK1.out hk2)
  have HB2 : Hid (NodB w2 gN cur N) := NodB.kt HB1.out hk2
  clear hs2 hk2
  go_wp2_with fail
  refine (wput_s _ W (wNode N n a (wPut kOpen st)) kShut HS2.out HL3.out).mono ?_
  rintro e w3 ⟨rfl, hs3, hk3⟩
  have HS3 := hideP2 hs3
  have HK3 : Hid (KT W w w3) := (KT.trans HK2.out hk3)
  have HB3 : Hid (NodB w3 gN cur N) := NodB.kt HB2.out hk3
  clear hs3 hk3
  go_wp2_with fail
  first | go_end0 | ((try simp only [Exit.inBlock, Exit.then]); refine bodyPost_ret (results_none rfl _ _ _) rfl ?_)
  exact ⟨rfl, HS3.out, HK3.out⟩

set_option maxHeartbeats 1000000 in
theorem side_s (W gN cap : Nat) (cur : Array Value) (N : List PNode) (n : Nat) (hno : NodeSaid W gN cap cur N n) : SideSaid W gN cap cur N n := by
  intro w st a h hnb ha hn hl
  have hW := h.wr.lt
  have hc := (hnb.cells ha).1
  have HS0 := hideP2 h
  have HNB := hideP2 hnb
  have HNo := hideP2 hno
  have HBr := hideP2 (br_s W gN cap cur N n hno)
  have i1 : (0 : Int) ≤ (a : Int) := by omega
  have i2 : (a : Int) < (N.length : Int) := by omega
  by_cases k1 : (nAt N a).kind = 1
  · have hP : wSide N n a st = wBr N n a st := by unfold wSide sideW wBr; rw [if_pos k1]
    have HP := hideP2 hP
    have HL := hideP2 (hP ▸ hl)
    rw [k1] at hc
    clear h hnb hno hl hP k1
    go_enter Tryz.func216, Tryz.ntmps216
    go_wp2_with fail
    refine (HBr.out _ st a HS0.out HNB.out ha hn HL.out).mono ?_
    rintro e w1 ⟨rfl, hs1, hk1⟩
    have HS1 := hideP2 hs1
    have HK1 : Hid (KT W w w1) := hk1
    have HB1 : Hid (NodB w1 gN cur N) := NodB.kt HNB.out hk1
    clear hs1 hk1
    go_wp2_with fail
    first | go_end0 | ((try simp only [Exit.inBlock, Exit.then]); refine bodyPost_ret (results_none rfl _ _ _) rfl ?_)
    rw [HP.out]
    exact ⟨rfl, HS1.out, HK1.out⟩
  · have hP : wSide N n a st = wNode N n a st := by unfold wSide sideW; rw [if_neg k1]
    have HP := hideP2 hP
    have HL := hideP2 (hP ▸ hl)
    have e1 : ((nAt N a).kind == 1) = false := by simpa using k1
    clear h hnb hno hl hP k1
    go_enter Tryz.func216, Tryz.ntmps216
    go_wp2_with fail
    refine (HNo.out _ st a HS0.out HNB.out ha hn HL.out).mono ?_
    rintro e w1 ⟨rfl, hs1, hk1⟩
    have HS1 := hideP2 hs1
    have HK1 : Hid (KT W w w1) := hk1
    have HB1 : Hid (NodB w1 gN cur N) := NodB.kt HNB.out hk1
    clear hs1 hk1
    go_wp2_with fail
    first | go_end0 | ((try simp only [Exit.inBlock, Exit.then]); refine bodyPost_ret (results_none rfl _ _ _) rfl ?_)
    rw [HP.out]
    exact ⟨rfl, HS1.out, HK1.out⟩

set_option maxHeartbeats 1000000 in
theorem neg_s (W gN cap : Nat) (cur : Array Value) (N : List PNode) (n : Nat) (hno : NodeSaid W gN cap cur N n) : NegSaid W gN cap cur N n := by
  intro w st a h hnb ha hn hl
  have hW := h.wr.lt
  have hc := (hnb.cells ha).1
  have HS0 := hideP2 h
  have HNB := hideP2 hnb
  have HNo := hideP2 hno
  have HBr := hideP2 (br_s W gN cap cur N n hno)
  have i1 : (0 : Int) ≤ (a : Int) := by omega
  have i2 : (a : Int) < (N.length : Int) := by omega
  by_cases k1 : (nAt N a).kind = 1
  · have hP : wNeg N n a st = wBr N n a st := by unfold wNeg negW wBr; rw [if_pos (.inl k1)]
    have HP := hideP2 hP
    have HL := hideP2 (hP ▸ hl)
    rw [k1] at hc
    clear h hnb hno hl hP k1
    go_enter Tryz.func217, Tryz.ntmps217
    go_wp2_with fail
    refine (HBr.out _ st a HS0.out HNB.out ha hn HL.out).mono ?_
    rintro e w1 ⟨rfl, hs1, hk1⟩
    have HS1 := hideP2 hs1
    have HK1 : Hid (KT W w w1) := hk1
    have HB1 : Hid (NodB w1 gN cur N) := NodB.kt HNB.out hk1
    clear hs1 hk1
    go_wp2_with fail
    first | go_end0 | ((try simp only [Exit.inBlock, Exit.then]); refine bodyPost_ret (results_none rfl _ _ _) rfl ?_)
    rw [HP.out]
    exact ⟨rfl, HS1.out, HK1.out⟩
  have e1 : ((nAt N a).kind == 1) = false := by simpa using k1
  by_cases k2 : (nAt N a).kind = 2
  · have hP : wNeg N n a st = wBr N n a st := by unfold wNeg negW wBr; rw [if_pos (.inr k2)]
    have HP := hideP2 hP
    have HL := hideP2 (hP ▸ hl)
    rw [k2] at hc
    clear h hnb hno hl hP k1 k2 e1
    go_enter Tryz.func217, Tryz.ntmps217
    go_wp2_with fail
    refine (HBr.out _ st a HS0.out HNB.out ha hn HL.out).mono ?_
    rintro e w1 ⟨rfl, hs1, hk1⟩
    have HS1 := hideP2 hs1
    have HK1 : Hid (KT W w w1) := hk1
    have HB1 : Hid (NodB w1 gN cur N) := NodB.kt HNB.out hk1
    clear hs1 hk1
    go_wp2_with fail
    first | go_end0 | ((try simp only [Exit.inBlock, Exit.then]); refine bodyPost_ret (results_none rfl _ _ _) rfl ?_)
    rw [HP.out]
    exact ⟨rfl, HS1.out, HK1.out⟩
  · have hP : wNeg N n a st = wNode N n a st := by unfold wNeg negW; rw [if_neg (by omega)]
    have HP := hideP2 hP
    have HL := hideP2 (hP ▸ hl)
    have e2 : ((nAt N a).kind == 2) = false := by simpa using k2
    clear h hnb hno hl hP k1 k2
    go_enter Tryz.func217, Tryz.ntmps217
    go_wp2_with fail
    refine (HNo.out _ st a HS0.out HNB.out ha hn HL.out).mono ?_
    rintro e w1 ⟨rfl, hs1, hk1⟩
    have HS1 := hideP2 hs1
    have HK1 : Hid (KT W w w1) := hk1
    have HB1 : Hid (NodB w1 gN cur N) := NodB.kt HNB.out hk1
    clear hs1 hk1
    go_wp2_with fail
    first | go_end0 | ((try simp only [Exit.inBlock, Exit.then]); refine bodyPost_ret (results_none rfl _ _ _) rfl ?_)
    rw [HP.out]
    exact ⟨rfl, HS1.out, HK1.out⟩

end Go.Proofs.YtnbpdffdnphbeaaGreatDoor

/- What node of the writer does: the text of a guard. -/
namespace Go.Proofs.YtnbpdffdnphbeaaGreatDoor
open Go.RowKit

theorem NodB.lt {w : World} {gN : Nat} {cur : Array Value} {N : List PNode} (h : NodB w gN cur N) : gN < w.heap.size := by
  rcases Nat.lt_or_ge gN w.heap.size with h1 | h1
  · exact h1
  · have h2 := h.blk; rw [Array.getElem?_eq_none h1] at h2; cases h2

set_option maxHeartbeats 1000000 in
theorem node_or (W gN cap : Nat) (cur : Array Value) (N : List PNode) (n : Nat) (w : World) (st : WSt) (a : Nat) (h : WrS w W st) (hnb : NodB w gN cur N) (ha : a < N.length) (hn : a < n + 1) (hno : NodeSaid W gN cap cur N n) (hk1 : (nAt N a).kind = 1) (hch : 0 ≤ (nAt N a).left ∧ (nAt N a).left < a ∧ 0 ≤ (nAt N a).right ∧ (nAt N a).right < a) (hl : (wNode N (n + 1) a st).1.length ≤ bigW) :
    Calls Tryz.prog 157 #[.pointer (some ⟨W, 0, none⟩), .slice (some ⟨gN, 0, none⟩) N.length cap, .int .i64 (a : Nat)] w fun e w' => e = .returned (.tuple #[]) ∧ WrS w' W (wNode N (n + 1) a st) ∧ KT W w w' := by
  have hW := h.wr.lt
  obtain ⟨c0, c1, c2, c3, c4, c5, c6⟩ := hnb.cells ha
  have hlt := hnb.lt
  have n0 : w.heap.size ≠ gN := by omega
  have HS0 := hideP2 h
  have HNB := hideP2 hnb
  have i1 : (0 : Int) ≤ (a : Int) := by omega
  have i2 : (a : Int) < (N.length : Int) := by omega
  generalize hx : nAt N a = x at *
  obtain ⟨xk, xl, xr, xn, xm, xo, xu⟩ := x
  simp only at c0 c1 c2 c3 c4 c5 c6 hk1 hch
  subst hk1
  obtain ⟨h1, h2, h3, h4⟩ := hch
  obtain ⟨l, rfl⟩ := Int.eq_ofNat_of_zero_le h1
  obtain ⟨r, rfl⟩ := Int.eq_ofNat_of_zero_le h3
  have hP : wNode N (n + 1) a st = wNode N n r (wPut kOr (wNode N n l st)) := by rw [wNode, hx]; simp only [if_true, Int.toNat_natCast]
  have HP := hideP2 hP
  rw [hP] at hl
  have HL3 := hideP2 hl
  have HL2 := hideP2 (Nat.le_trans (wNode_le N n r _) hl)
  have HL1 := hideP2 (Nat.le_trans (wle' kOr (wNode N n l st)) HL2.out)
  have HNo := hideP2 hno
  clear h hnb hno hl hP hx
  go_enter Tryz.func157, Tryz.ntmps157
  go_wp2_with fail
  refine (HNo.out _ st l (WrS.new HS0.out _) (NodB.new HNB.out _) (by omega) (by omega) HL1.out).mono ?_
  rintro e w1 ⟨rfl, hs1, hk1⟩
  have HS1 := hideP2 hs1
  have HK1 : Hid (KT W w w1) := (KT.trans ((KT.refl W w).new (Nat.le_of_lt hW) _) hk1)
  have bx1 : w1.heap[w.heap.size]? = some (.cells #[.int .i64 1, .int .i64 (l : Nat), .int .i64 (r : Nat), .string ⟨xn.toArray⟩, .string ⟨xm.toArray⟩, .string ⟨xo.toArray⟩, .int .i64 xu] 304 (0, 0)) := hk1.kept _ _ (hb_end _ _) (okT_cells (by decide) (by decide))
  have cx1 := fun j => cell_of_row _ _ j _ _ _ bx1
  have HB1 : Hid (NodB w1 gN cur N) := NodB.kt (NodB.new HNB.out _) hk1
  clear hs1 hk1
  go_wp2_with fail
  refine (wput_s _ W (wNode N n l st) kOr HS1.out HL2.out).mono ?_
  rintro e w2 ⟨rfl, hs2, hk2⟩
  have HS2 := hideP2 hs2
  have HK2 : Hid (KT W w w2) := (KT.trans HK1.out hk2)
  have bx2 : w2.heap[w.heap.size]? = some (.cells #[.int .i64 1, .int .i64 (l : Nat), .int .i64 (r : Nat), .string ⟨xn.toArray⟩, .string ⟨xm.toArray⟩, .string ⟨xo.toArray⟩, .int .i64 xu] 304 (0, 0)) := hk2.kept _ _ bx1 (okT_cells (by decide) (by decide))
  have cx2 := fun j => cell_of_row _ _ j _ _ _ bx2
  clear cx1 bx1
  have HB2 : Hid (NodB w2 gN cur N) := NodB.kt HB1.out hk2
  clear hs2 hk2
  go_wp2_with fail
  refine (HNo.out _ (wPut kOr (wNode N n l st)) r HS2.out HB2.out (by omega) (by omega) HL3.out).mono ?_
  rintro e w3 ⟨rfl, hs3, hk3⟩
  have HS3 := hideP2 hs3
  have HK3 : Hid (KT W w w3) := (KT.trans HK2.out hk3)
  have bx3 : w3.heap[w.heap.size]? = some (.cells #[.int .i64 1, .int .i64 (l : Nat), .int .i64 (r : Nat), .string ⟨xn.toArray⟩, .string ⟨xm.toArray⟩, .string ⟨xo.toArray⟩, .int .i64 xu] 304 (0, 0)) := hk3.kept _ _ bx2 (okT_cells (by decide) (by decide))
  have cx3 := fun j => cell_of_row _ _ j _ _ _ bx3
  clear cx2 bx2
  have HB3 : Hid (NodB w3 gN cur N) := NodB.kt HB2.out hk3
  clear hs3 hk3
  go_wp2_with fail
  first | go_end0 | ((try simp only [Exit.inBlock, Exit.then]); refine bodyPost_ret (results_none rfl _ _ _) rfl ?_)
  rw [HP.out]
  exact ⟨rfl, HS3.out, HK3.out⟩

set_option maxHeartbeats 1000000 in
theorem node_and (W gN cap : Nat) (cur : Array Value) (N : List PNode) (n : Nat) (w : World) (st : WSt) (a : Nat) (h : WrS w W st) (hnb : NodB w gN cur N) (ha : a < N.length) (hn : a < n + 1) (hno : NodeSaid W gN cap cur N n) (hk1 : (nAt N a).kind = 2) (hch : 0 ≤ (nAt N a).left ∧ (nAt N a).left < a ∧ 0 ≤ (nAt N a).right ∧ (nAt N a).right < a) (hl : (wNode N (n + 1) a st).1.length ≤ bigW) :
    Calls Tryz.prog 157 #[.pointer (some ⟨W, 0, none⟩), .slice (some ⟨gN, 0, none⟩) N.length cap, .int .i64 (a : Nat)] w fun e w' => e = .returned (.tuple #[]) ∧ WrS w' W (wNode N (n + 1) a st) ∧ KT W w w' := by
  have hW := h.wr.lt
  obtain ⟨c0, c1, c2, c3, c4, c5, c6⟩ := hnb.cells ha
  have hlt := hnb.lt
  have n0 : w.heap.size ≠ gN := by omega
  have HS0 := hideP2 h
  have HNB := hideP2 hnb
  have i1 : (0 : Int) ≤ (a : Int) := by omega
  have i2 : (a : Int) < (N.length : Int) := by omega
  generalize hx : nAt N a = x at *
  obtain ⟨xk, xl, xr, xn, xm, xo, xu⟩ := x
  simp only at c0 c1 c2 c3 c4 c5 c6 hk1 hch
  subst hk1
  obtain ⟨h1, h2, h3, h4⟩ := hch
  obtain ⟨l, rfl⟩ := Int.eq_ofNat_of_zero_le h1
  obtain ⟨r, rfl⟩ := Int.eq_ofNat_of_zero_le h3
  have hP : wNode N (n + 1) a st = wSide N n r (wPut kAnd (wSide N n l st)) := by rw [wNode, hx]; simp only [if_true, Int.toNat_natCast, wSide]; rfl
  have HP := hideP2 hP
  rw [hP] at hl
  have HL3 := hideP2 hl
  have HL2 := hideP2 (Nat.le_trans (sideW_le N _ (wNode_le N n) r _) hl)
  have HL1 := hideP2 (Nat.le_trans (wle' kAnd (wSide N n l st)) HL2.out)
  have HSi := hideP2 (side_s W gN cap cur N n hno)
  clear h hnb hno hl hP hx
  go_enter Tryz.func157, Tryz.ntmps157
  go_wp2_with fail
  refine (HSi.out _ st l (WrS.new HS0.out _) (NodB.new HNB.out _) (by omega) (by omega) HL1.out).mono ?_
  rintro e w1 ⟨rfl, hs1, hk1⟩
  have HS1 := hideP2 hs1
  have HK1 : Hid (KT W w w1) := (KT.trans ((KT.refl W w).new (Nat.le_of_lt hW) _) hk1)
  have bx1 : w1.heap[w.heap.size]? = some (.cells #[.int .i64 2, .int .i64 (l : Nat), .int .i64 (r : Nat), .string ⟨xn.toArray⟩, .string ⟨xm.toArray⟩, .string ⟨xo.toArray⟩, .int .i64 xu] 304 (0, 0)) := hk1.kept _ _ (hb_end _ _) (okT_cells (by decide) (by decide))
  have cx1 := fun j => cell_of_row _ _ j _ _ _ bx1
  have HB1 : Hid (NodB w1 gN cur N) := NodB.kt (NodB.new HNB.out _) hk1
  clear hs1 hk1
  go_wp2_with fail
  refine (wput_s _ W (wSide N n l st) kAnd HS1.out HL2.out).mono ?_
  rintro e w2 ⟨rfl, hs2, hk2⟩
  have HS2 := hideP2 hs2
  have HK2 : Hid (KT W w w2) := (KT.trans HK1.out hk2)
  have bx2 : w2.heap[w.heap.size]? = some (.cells #[.int .i64 2, .int .i64 (l : Nat), .int .i64 (r : Nat), .string ⟨xn.toArray⟩, .string ⟨xm.toArray⟩, .string ⟨xo.toArray⟩, .int .i64 xu] 304 (0, 0)) := hk2.kept _ _ bx1 (okT_cells (by decide) (by decide))
  have cx2 := fun j => cell_of_row _ _ j _ _ _ bx2
  clear cx1 bx1
  have HB2 : Hid (NodB w2 gN cur N) := NodB.kt HB1.out hk2
  clear hs2 hk2
  go_wp2_with fail
  refine (HSi.out _ (wPut kAnd (wSide N n l st)) r HS2.out HB2.out (by omega) (by omega) HL3.out).mono ?_
  rintro e w3 ⟨rfl, hs3, hk3⟩
  have HS3 := hideP2 hs3
  have HK3 : Hid (KT W w w3) := (KT.trans HK2.out hk3)
  have bx3 : w3.heap[w.heap.size]? = some (.cells #[.int .i64 2, .int .i64 (l : Nat), .int .i64 (r : Nat), .string ⟨xn.toArray⟩, .string ⟨xm.toArray⟩, .string ⟨xo.toArray⟩, .int .i64 xu] 304 (0, 0)) := hk3.kept _ _ bx2 (okT_cells (by decide) (by decide))
  have cx3 := fun j => cell_of_row _ _ j _ _ _ bx3
  clear cx2 bx2
  have HB3 : Hid (NodB w3 gN cur N) := NodB.kt HB2.out hk3
  clear hs3 hk3
  go_wp2_with fail
  first | go_end0 | ((try simp only [Exit.inBlock, Exit.then]); refine bodyPost_ret (results_none rfl _ _ _) rfl ?_)
  rw [HP.out]
  exact ⟨rfl, HS3.out, HK3.out⟩

set_option maxHeartbeats 1000000 in
theorem node_not (W gN cap : Nat) (cur : Array Value) (N : List PNode) (n : Nat) (w : World) (st : WSt) (a : Nat) (h : WrS w W st) (hnb : NodB w gN cur N) (ha : a < N.length) (hn : a < n + 1) (hno : NodeSaid W gN cap cur N n) (hk1 : (nAt N a).kind = 3) (hch : 0 ≤ (nAt N a).left ∧ (nAt N a).left < a) (hl : (wNode N (n + 1) a st).1.length ≤ bigW) :
    Calls Tryz.prog 157 #[.pointer (some ⟨W, 0, none⟩), .slice (some ⟨gN, 0, none⟩) N.length cap, .int .i64 (a : Nat)] w fun e w' => e = .returned (.tuple #[]) ∧ WrS w' W (wNode N (n + 1) a st) ∧ KT W w w' := by
  have hW := h.wr.lt
  obtain ⟨c0, c1, c2, c3, c4, c5, c6⟩ := hnb.cells ha
  have hlt := hnb.lt
  have n0 : w.heap.size ≠ gN := by omega
  have HS0 := hideP2 h
  have HNB := hideP2 hnb
  have i1 : (0 : Int) ≤ (a : Int) := by omega
  have i2 : (a : Int) < (N.length : Int) := by omega
  generalize hx : nAt N a = x at *
  obtain ⟨xk, xl, xr, xn, xm, xo, xu⟩ := x
  simp only at c0 c1 c2 c3 c4 c5 c6 hk1 hch
  subst hk1
  obtain ⟨h1, h2⟩ := hch
  obtain ⟨l, rfl⟩ := Int.eq_ofNat_of_zero_le h1
  have hP : wNode N (n + 1) a st = wNeg N n l (wPut kNot st) := by rw [wNode, hx]; simp only [if_true, Int.toNat_natCast, wNeg]; rfl
  have HP := hideP2 hP
  rw [hP] at hl
  have HL3 := hideP2 hl
  have HL1 := hideP2 (Nat.le_trans (negW_le N _ (wNode_le N n) l _) hl)
  have HNe := hideP2 (neg_s W gN cap cur N n hno)
  clear h hnb hno hl hP hx
  go_enter Tryz.func157, Tryz.ntmps157
  go_wp2_with fail
  refine (wput_s _ W st kNot (WrS.new HS0.out _) HL1.out).mono ?_
  rintro e w1 ⟨rfl, hs1, hk1⟩
  have HS1 := hideP2 hs1
  have HK1 : Hid (KT W w w1) := (KT.trans ((KT.refl W w).new (Nat.le_of_lt hW) _) hk1)
  have bx1 : w1.heap[w.heap.size]? = some (.cells #[.int .i64 3, .int .i64 (l : Nat), .int .i64 xr, .string ⟨xn.toArray⟩, .string ⟨xm.toArray⟩, .string ⟨xo.toArray⟩, .int .i64 xu] 304 (0, 0)) := hk1.kept _ _ (hb_end _ _) (okT_cells (by decide) (by decide))
  have cx1 := fun j => cell_of_row _ _ j _ _ _ bx1
  have HB1 : Hid (NodB w1 gN cur N) := NodB.kt (NodB.new HNB.out _) hk1
  clear hs1 hk1
  go_wp2_with fail
  refine (HNe.out _ (wPut kNot st) l HS1.out HB1.out (by omega) (by omega) HL3.out).mono ?_
  rintro e w2 ⟨rfl, hs2, hk2⟩
  have HS2 := hideP2 hs2
  have HK2 : Hid (KT W w w2) := (KT.trans HK1.out hk2)
  have bx2 : w2.heap[w.heap.size]? = some (.cells #[.int .i64 3, .int .i64 (l : Nat), .int .i64 xr, .string ⟨xn.toArray⟩, .string ⟨xm.toArray⟩, .string ⟨xo.toArray⟩, .int .i64 xu] 304 (0, 0)) := hk2.kept _ _ bx1 (okT_cells (by decide) (by decide))
  have cx2 := fun j => cell_of_row _ _ j _ _ _ bx2
  clear cx1 bx1
  have HB2 : Hid (NodB w2 gN cur N) := NodB.kt HB1.out hk2
  clear hs2 hk2
  go_wp2_with fail
  first | go_end0 | ((try simp only [Exit.inBlock, Exit.then]); refine bodyPost_ret (results_none rfl _ _ _) rfl ?_)
  rw [HP.out]
  exact ⟨rfl, HS2.out, HK2.out⟩

set_option maxHeartbeats 1000000 in
theorem node_test (W gN cap : Nat) (cur : Array Value) (N : List PNode) (n : Nat) (w : World) (st : WSt) (a : Nat) (h : WrS w W st) (hnb : NodB w gN cur N) (ha : a < N.length) (k1 : ¬ (nAt N a).kind = 1) (k2 : ¬ (nAt N a).kind = 2) (k3 : ¬ (nAt N a).kind = 3) (hk : (4 ≤ (nAt N a).kind ∧ (nAt N a).kind ≤ 7) ∧ 0 ≤ (nAt N a).num ∧ (nAt N a).num ≤ 9999) (hl : (wNode N (n + 1) a st).1.length ≤ bigW) :
    Calls Tryz.prog 157 #[.pointer (some ⟨W, 0, none⟩), .slice (some ⟨gN, 0, none⟩) N.length cap, .int .i64 (a : Nat)] w fun e w' => e = .returned (.tuple #[]) ∧ WrS w' W (wNode N (n + 1) a st) ∧ KT W w w' := by
  have hW := h.wr.lt
  obtain ⟨c0, c1, c2, c3, c4, c5, c6⟩ := hnb.cells ha
  have hlt := hnb.lt
  have n0 : w.heap.size ≠ gN := by omega
  have HS0 := hideP2 h
  have HNB := hideP2 hnb
  have i1 : (0 : Int) ≤ (a : Int) := by omega
  have i2 : (a : Int) < (N.length : Int) := by omega
  have hP : wNode N (n + 1) a st = wTest (nAt N a) st := by rw [wNode, if_neg k1, if_neg k2, if_neg k3]
  have HP := hideP2 hP
  rw [hP] at hl
  have hte := fun w' (h' : WrS w' W st) => wtest_s w' W st (nAt N a) h' hk.1 hk.2.1 hk.2.2 hl
  have e1 : ((nAt N a).kind == 1) = false := by simpa using k1
  have e2 : ((nAt N a).kind == 2) = false := by simpa using k2
  have e3 : ((nAt N a).kind == 3) = false := by simpa using k3
  generalize nAt N a = x at *
  obtain ⟨xk, xl, xr, xn, xm, xo, xu⟩ := x
  simp only [nodeV] at c0 c1 c2 c3 c4 c5 c6 e1 e2 e3 hte
  have HTe := hideP2 hte
  clear h hnb hl hP hte hk k1 k2 k3
  go_enter Tryz.func157, Tryz.ntmps157
  go_wp2_with fail
  refine (HTe.out _ (WrS.new HS0.out _)).mono ?_
  rintro e w1 ⟨rfl, hs1, hk1⟩
  have HS1 := hideP2 hs1
  have HK1 : Hid (KT W w w1) := (KT.trans ((KT.refl W w).new (Nat.le_of_lt hW) _) hk1)
  have bx1 : w1.heap[w.heap.size]? = some (.cells #[.int .i64 xk, .int .i64 xl, .int .i64 xr, .string ⟨xn.toArray⟩, .string ⟨xm.toArray⟩, .string ⟨xo.toArray⟩, .int .i64 xu] 304 (0, 0)) := hk1.kept _ _ (hb_end _ _) (okT_cells (by decide) (by decide))
  have cx1 := fun j => cell_of_row _ _ j _ _ _ bx1
  have HB1 : Hid (NodB w1 gN cur N) := NodB.kt (NodB.new HNB.out _) hk1
  clear hs1 hk1
  go_wp2_with fail
  first | go_end0 | ((try simp only [Exit.inBlock, Exit.then]); refine bodyPost_ret (results_none rfl _ _ _) rfl ?_)
  rw [HP.out]
  exact ⟨rfl, HS1.out, HK1.out⟩

theorem node_all (W gN cap : Nat) (cur : Array Value) (N : List PNode) (hg : GoodN N) (n : Nat) : NodeSaid W gN cap cur N n := by
  induction n with
  | zero => intro w st a _ _ _ hn; omega
  | succ n ih =>
    intro w st a h hnb ha hn hl
    obtain ⟨g1, g2, g3, g4⟩ := hg a ha
    by_cases k1 : (nAt N a).kind = 1
    · exact node_or W gN cap cur N n w st a h hnb ha hn ih k1 (g1 k1) hl
    by_cases k2 : (nAt N a).kind = 2
    · exact node_and W gN cap cur N n w st a h hnb ha hn ih k2 (g2 k2) hl
    by_cases k3 : (nAt N a).kind = 3
    · exact node_not W gN cap cur N n w st a h hnb ha hn ih k3 (g3 k3) hl
    exact node_test W gN cap cur N n w st a h hnb ha k1 k2 k3 (g4 k1 k2 k3) hl
end Go.Proofs.YtnbpdffdnphbeaaGreatDoor
