/- The writer's place in memory, and what putNumber does. -/
import Derived.Test.YtnbpdffdnphbeaaGreatDoorPut
import Derived.Test.YtnbpdffdnphbeaaGreatDoorItoa
import Derived.WalkSmall
namespace Go.Proofs.YtnbpdffdnphbeaaGreatDoor
open Go.RowKit

def Tab (w : World) : Prop := Lib.TabIs Tryz.prog w "internal/strconv.uint64pow10" .u64 Lib.pow10Tab

abbrev WSt := Bs × Bool
/-- The writer, and the library's table, lie in memory. -/
structure WrS (w : World) (W : Nat) (st : WSt) : Prop where
  wr : Wr w W st.1 st.2
  tab : Tab w
  gl : ∃ g, Tryz.prog.globalNamed "internal/strconv.uint64pow10" = some g ∧ g < W

theorem Tab.below {w w' : World} {W : Nat} (h : Tab w) (hg : ∃ g, Tryz.prog.globalNamed "internal/strconv.uint64pow10" = some g ∧ g < W) (hb : Below W w w') : Tab w' := by
  obtain ⟨g, h1, h2⟩ := hg
  exact var?_below hb h1 h2 h

theorem WrS.step {w w' : World} {W : Nat} {st st' : WSt} (h : WrS w W st) (hw : Wr w' W st'.1 st'.2) (hk : KT W w w') : WrS w' W st' := ⟨hw, h.tab.below h.gl hk.below, h.gl⟩

theorem Wr.new {w : World} {W : Nat} {out : Bs} {il : Bool} (h : Wr w W out il) (o : Obj) : Wr (w.alloc o) W out il := by
  obtain ⟨ov, h1, h2⟩ := h
  exact ⟨ov, hb_new h1, h2.alloc _⟩
theorem WrS.new {w : World} {W : Nat} {st : WSt} (h : WrS w W st) (o : Obj) : WrS (w.alloc o) W st :=
  h.step (h.wr.new o) ((KT.refl W w).new (Nat.le_of_lt h.wr.lt) o)

theorem grow_kept {w : World} {k : Nat} {os : Array Obj} {i : Nat} {x : Obj} (h : w.heap[i]? = some x) : (Sort.grow (w.drewN k) os).heap[i]? = some x := by
  have hi : i < w.heap.size := by
    rcases Nat.lt_or_ge i w.heap.size with h1 | h1
    · exact h1
    · rw [Array.getElem?_eq_none h1] at h; cases h
  have hd : (w.drewN k).heap = w.heap := by simp
  rw [Sort.heap_grow_old _ _ (by rw [hd]; exact hi), hd]; exact h

theorem KT.growN {W : Nat} {w : World} (k : Nat) (os : Array Obj) (hW : W ≤ w.heap.size) : KT W w (Sort.grow (w.drewN k) os) := by
  have hd : (w.drewN k).heap = w.heap := by simp
  refine ⟨⟨rfl, by simp [Sort.grow], rfl, by simp [Sort.grow], fun i hi => ?_⟩, fun i x hx _ => grow_kept hx⟩
  rw [Sort.heap_grow_old _ _ (by rw [hd]; omega), hd]

theorem Wr.grow {w : World} {W : Nat} {out : Bs} {il : Bool} (h : Wr w W out il) (k : Nat) (os : Array Obj) : Wr (Sort.grow (w.drewN k) os) W out il := by
  obtain ⟨ov, h1, h2⟩ := h
  refine ⟨ov, grow_kept h1, h2.1, ?_⟩
  rcases h2.2 with h3 | ⟨g, cap, c, h4, h5, h6, r⟩
  · exact .inl h3
  · exact .inr ⟨g, cap, c, h4, h5, grow_kept h6, r⟩

def wPut (t : Bs) (st : WSt) : WSt := (putB st.1 st.2 t, true)
def wNum (n : Int) (st : WSt) : WSt := wPut (Lib.itoa n) st

theorem wPut_le (t : Bs) (st : WSt) : st.1.length + t.length ≤ (wPut t st).1.length := by
  obtain ⟨o, il⟩ := st; cases il <;> simp [wPut, putB] <;> omega

def bigW : Nat := 5000000

theorem putB_len (o : Bs) (il : Bool) (t : Bs) : o.length + t.length ≤ (putB o il t).length := by cases il <;> simp [putB] <;> omega

theorem wput_s (w : World) (W : Nat) (st : WSt) (t : Bs) (h : WrS w W st) (hn : (wPut t st).1.length ≤ bigW) :
    Calls Tryz.prog 154 #[.pointer (some ⟨W, 0, none⟩), .string ⟨t.toArray⟩] w fun e w' => e = .returned (.tuple #[]) ∧ WrS w' W (wPut t st) ∧ KT W w w' := by
  refine (put_s w W st.1 t st.2 h.wr (by have h1 := wPut_le t st; unfold bigW at hn; omega)).mono ?_
  rintro e w' ⟨rfl, h1, h2⟩
  exact ⟨rfl, h.step h1 h2, h2⟩

set_option maxHeartbeats 1000000 in
theorem wnum_s (w : World) (W : Nat) (st : WSt) (n : Int) (h : WrS w W st) (hn : (wNum n st).1.length ≤ bigW) (h0 : 0 ≤ n) (h1 : n ≤ 9999) :
    Calls Tryz.prog 155 #[.pointer (some ⟨W, 0, none⟩), .int .i64 n] w fun e w' => e = .returned (.tuple #[]) ∧ WrS w' W (wNum n st) ∧ KT W w w' := by
  have hW := h.wr.lt
  have HS := hideP2 h
  have HI := hideP2 (Tryz.strconv_Itoa_laid n (by omega) (by omega) w h.tab)
  have HN := hideP2 hn
  clear h hn
  go_enter Tryz.func155, Tryz.ntmps155
  go_wp2_with fail
  refine HI.out.mono ?_
  rintro e w1 ⟨rfl, k, os, hw1⟩
  have hk1 : KT W w w1 := by rw [hw1]; exact KT.growN k os (Nat.le_of_lt hW)
  have hs1 : WrS w1 W st := HS.out.step (by rw [hw1]; exact HS.out.wr.grow k os) hk1
  have HK1 := hideP2 hk1
  have HS1 := hideP2 hs1
  clear hk1 hs1 hw1 HI
  go_wp2_with fail
  refine (wput_s w1 W st (Lib.itoa n) HS1.out HN.out).mono ?_
  rintro e w2 ⟨rfl, hs2, hk2⟩
  have HS2 := hideP2 hs2
  have HK2 : Hid (KT W w w2) := HK1.out.trans hk2
  clear hs2 hk2
  go_wp2_with fail
  go_end0
  exact ⟨rfl, HS2.out, HK2.out⟩
end Go.Proofs.YtnbpdffdnphbeaaGreatDoor

/- What operand and test of the writer do. -/
namespace Go.Proofs.YtnbpdffdnphbeaaGreatDoor
open Go.RowKit

theorem wle (t : Bs) (st : WSt) {n : Nat} (h : (wPut t st).1.length ≤ n) : st.1.length ≤ n := Nat.le_trans (Nat.le_trans (Nat.le_add_right _ _) (wPut_le t st)) h

set_option maxHeartbeats 1000000 in
theorem operand_num (w : World) (W : Nat) (st : WSt) (xk xl xr xu : Int) (xn xm xo : Bs) (h : WrS w W st) (he : xo.isEmpty = true) (h0 : 0 ≤ xu) (h1 : xu ≤ 9999) (hn : (wNum xu st).1.length ≤ bigW) :
    Calls Tryz.prog 250 #[.pointer (some ⟨W, 0, none⟩), .agg #[.int .i64 xk, .int .i64 xl, .int .i64 xr, .string ⟨xn.toArray⟩, .string ⟨xm.toArray⟩, .string ⟨xo.toArray⟩, .int .i64 xu]] w fun e w' => e = .returned (.tuple #[]) ∧ WrS w' W (wNum xu st) ∧ KT W w w' := by
  have hW := h.wr.lt
  have HS0 := hideP2 h
  have HN := hideP2 hn
  clear h hn
  go_enter Tryz.func250, Tryz.ntmps250
  go_wp2_with fail
  refine (wnum_s _ W st xu (WrS.new HS0.out _) HN.out h0 h1).mono ?_
  rintro e w1 ⟨rfl, hs1, hk1⟩
  have HS1 := hideP2 hs1
  have HK1 : Hid (KT W w w1) := (KT.trans ((KT.refl W w).new (Nat.le_of_lt hW) _) hk1)
  have bx1 : w1.heap[w.heap.size]? = some (.cells #[.int .i64 xk, .int .i64 xl, .int .i64 xr, .string ⟨xn.toArray⟩, .string ⟨xm.toArray⟩, .string ⟨xo.toArray⟩, .int .i64 xu] 304 (0, 0)) := hk1.kept _ _ (hb_end _ _) (okT_cells (by decide) (by decide))
  have cx1 := fun j => cell_of_row _ _ j _ _ _ bx1
  clear hs1 hk1
  go_wp2_with fail
  first | go_end0 | ((try simp only [Exit.inBlock, Exit.then]); refine bodyPost_ret (results_none rfl _ _ _) rfl ?_)
  exact ⟨rfl, HS1.out, HK1.out⟩

set_option maxHeartbeats 1000000 in
theorem operand_name (w : World) (W : Nat) (st : WSt) (xk xl xr xu : Int) (xn xm xo : Bs) (h : WrS w W st) (he : xo.isEmpty = false) (hn : (wPut xo st).1.length ≤ bigW) :
    Calls Tryz.prog 250 #[.pointer (some ⟨W, 0, none⟩), .agg #[.int .i64 xk, .int .i64 xl, .int .i64 xr, .string ⟨xn.toArray⟩, .string ⟨xm.toArray⟩, .string ⟨xo.toArray⟩, .int .i64 xu]] w fun e w' => e = .returned (.tuple #[]) ∧ WrS w' W (wPut xo st) ∧ KT W w w' := by
  have hW := h.wr.lt
  have HS0 := hideP2 h
  have HN := hideP2 hn
  clear h hn
  go_enter Tryz.func250, Tryz.ntmps250
  go_wp2_with fail
  refine (wput_s _ W st xo (WrS.new HS0.out _) HN.out).mono ?_
  rintro e w1 ⟨rfl, hs1, hk1⟩
  have HS1 := hideP2 hs1
  have HK1 : Hid (KT W w w1) := (KT.trans ((KT.refl W w).new (Nat.le_of_lt hW) _) hk1)
  have bx1 : w1.heap[w.heap.size]? = some (.cells #[.int .i64 xk, .int .i64 xl, .int .i64 xr, .string ⟨xn.toArray⟩, .string ⟨xm.toArray⟩, .string ⟨xo.toArray⟩, .int .i64 xu] 304 (0, 0)) := hk1.kept _ _ (hb_end _ _) (okT_cells (by decide) (by decide))
  have cx1 := fun j => cell_of_row _ _ j _ _ _ bx1
  clear hs1 hk1
  go_wp2_with fail
  first | go_end0 | ((try simp only [Exit.inBlock, Exit.then]); refine bodyPost_ret (results_none rfl _ _ _) rfl ?_)
  exact ⟨rfl, HS1.out, HK1.out⟩

set_option maxHeartbeats 1000000 in
theorem wtest_4 (w : World) (W : Nat) (st : WSt) (xk xl xr xu : Int) (xn xm xo : Bs) (h : WrS w W st) (hk : xk = 4) (hn : (wPut [97, 108, 119, 97, 121, 115] st).1.length ≤ bigW) :
    Calls Tryz.prog 218 #[.pointer (some ⟨W, 0, none⟩), .agg #[.int .i64 xk, .int .i64 xl, .int .i64 xr, .string ⟨xn.toArray⟩, .string ⟨xm.toArray⟩, .string ⟨xo.toArray⟩, .int .i64 xu]] w fun e w' => e = .returned (.tuple #[]) ∧ WrS w' W (wPut [97, 108, 119, 97, 121, 115] st) ∧ KT W w w' := by
  have hW := h.wr.lt
  have HS0 := hideP2 h
  have HN := hideP2 hn
  clear h hn
  subst hk
  go_enter Tryz.func218, Tryz.ntmps218
  go_wp2_with fail
  refine (wput_s _ W st [97, 108, 119, 97, 121, 115] (WrS.new HS0.out _) HN.out).mono ?_
  rintro e w1 ⟨rfl, hs1, hk1⟩
  have HS1 := hideP2 hs1
  have HK1 : Hid (KT W w w1) := (KT.trans ((KT.refl W w).new (Nat.le_of_lt hW) _) hk1)
  have bx1 : w1.heap[w.heap.size]? = some (.cells #[.int .i64 4, .int .i64 xl, .int .i64 xr, .string ⟨xn.toArray⟩, .string ⟨xm.toArray⟩, .string ⟨xo.toArray⟩, .int .i64 xu] 304 (0, 0)) := hk1.kept _ _ (hb_end _ _) (okT_cells (by decide) (by decide))
  have cx1 := fun j => cell_of_row _ _ j _ _ _ bx1
  clear hs1 hk1
  go_wp2_with fail
  first | go_end0 | ((try simp only [Exit.inBlock, Exit.then]); refine bodyPost_ret (results_none rfl _ _ _) rfl ?_)
  exact ⟨rfl, HS1.out, HK1.out⟩

set_option maxHeartbeats 1000000 in
theorem wtest_5 (w : World) (W : Nat) (st : WSt) (xk xl xr xu : Int) (xn xm xo : Bs) (h : WrS w W st) (hk : xk = 5) (hn : (wPut xn (wPut [104, 97, 115] st)).1.length ≤ bigW) :
    Calls Tryz.prog 218 #[.pointer (some ⟨W, 0, none⟩), .agg #[.int .i64 xk, .int .i64 xl, .int .i64 xr, .string ⟨xn.toArray⟩, .string ⟨xm.toArray⟩, .string ⟨xo.toArray⟩, .int .i64 xu]] w fun e w' => e = .returned (.tuple #[]) ∧ WrS w' W (wPut xn (wPut [104, 97, 115] st)) ∧ KT W w w' := by
  have hW := h.wr.lt
  have HS0 := hideP2 h
  have HN := hideP2 hn
  clear h hn
  subst hk
  go_enter Tryz.func218, Tryz.ntmps218
  go_wp2_with fail
  refine (wput_s _ W st [104, 97, 115] (WrS.new HS0.out _) (wle _ _ HN.out)).mono ?_
  rintro e w1 ⟨rfl, hs1, hk1⟩
  have HS1 := hideP2 hs1
  have HK1 : Hid (KT W w w1) := (KT.trans ((KT.refl W w).new (Nat.le_of_lt hW) _) hk1)
  have bx1 : w1.heap[w.heap.size]? = some (.cells #[.int .i64 5, .int .i64 xl, .int .i64 xr, .string ⟨xn.toArray⟩, .string ⟨xm.toArray⟩, .string ⟨xo.toArray⟩, .int .i64 xu] 304 (0, 0)) := hk1.kept _ _ (hb_end _ _) (okT_cells (by decide) (by decide))
  have cx1 := fun j => cell_of_row _ _ j _ _ _ bx1
  clear hs1 hk1
  go_wp2_with fail
  refine (wput_s _ W (wPut [104, 97, 115] st) xn HS1.out HN.out).mono ?_
  rintro e w2 ⟨rfl, hs2, hk2⟩
  have HS2 := hideP2 hs2
  have HK2 : Hid (KT W w w2) := (KT.trans HK1.out hk2)
  have bx2 : w2.heap[w.heap.size]? = some (.cells #[.int .i64 5, .int .i64 xl, .int .i64 xr, .string ⟨xn.toArray⟩, .string ⟨xm.toArray⟩, .string ⟨xo.toArray⟩, .int .i64 xu] 304 (0, 0)) := hk2.kept _ _ bx1 (okT_cells (by decide) (by decide))
  have cx2 := fun j => cell_of_row _ _ j _ _ _ bx2
  clear cx1 bx1
  clear hs2 hk2
  go_wp2_with fail
  first | go_end0 | ((try simp only [Exit.inBlock, Exit.then]); refine bodyPost_ret (results_none rfl _ _ _) rfl ?_)
  exact ⟨rfl, HS2.out, HK2.out⟩

set_option maxHeartbeats 1000000 in
theorem wtest_6 (w : World) (W : Nat) (st : WSt) (xk xl xr xu : Int) (xn xm xo : Bs) (h : WrS w W st) (hk : xk = 6) (hn : (wPut xn st).1.length ≤ bigW) :
    Calls Tryz.prog 218 #[.pointer (some ⟨W, 0, none⟩), .agg #[.int .i64 xk, .int .i64 xl, .int .i64 xr, .string ⟨xn.toArray⟩, .string ⟨xm.toArray⟩, .string ⟨xo.toArray⟩, .int .i64 xu]] w fun e w' => e = .returned (.tuple #[]) ∧ WrS w' W (wPut xn st) ∧ KT W w w' := by
  have hW := h.wr.lt
  have HS0 := hideP2 h
  have HN := hideP2 hn
  clear h hn
  subst hk
  go_enter Tryz.func218, Tryz.ntmps218
  go_wp2_with fail
  refine (wput_s _ W st xn (WrS.new HS0.out _) HN.out).mono ?_
  rintro e w1 ⟨rfl, hs1, hk1⟩
  have HS1 := hideP2 hs1
  have HK1 : Hid (KT W w w1) := (KT.trans ((KT.refl W w).new (Nat.le_of_lt hW) _) hk1)
  have bx1 : w1.heap[w.heap.size]? = some (.cells #[.int .i64 6, .int .i64 xl, .int .i64 xr, .string ⟨xn.toArray⟩, .string ⟨xm.toArray⟩, .string ⟨xo.toArray⟩, .int .i64 xu] 304 (0, 0)) := hk1.kept _ _ (hb_end _ _) (okT_cells (by decide) (by decide))
  have cx1 := fun j => cell_of_row _ _ j _ _ _ bx1
  clear hs1 hk1
  go_wp2_with fail
  first | go_end0 | ((try simp only [Exit.inBlock, Exit.then]); refine bodyPost_ret (results_none rfl _ _ _) rfl ?_)
  exact ⟨rfl, HS1.out, HK1.out⟩

set_option maxHeartbeats 1000000 in
theorem wtest_7n (w : World) (W : Nat) (st : WSt) (xk xl xr xu : Int) (xn xm xo : Bs) (h : WrS w W st) (hk : xk = 7) (he : xo.isEmpty = true) (h0 : 0 ≤ xu) (h1 : xu ≤ 9999) (hn : (wNum xu (wPut xm (wPut xn st))).1.length ≤ bigW) :
    Calls Tryz.prog 218 #[.pointer (some ⟨W, 0, none⟩), .agg #[.int .i64 xk, .int .i64 xl, .int .i64 xr, .string ⟨xn.toArray⟩, .string ⟨xm.toArray⟩, .string ⟨xo.toArray⟩, .int .i64 xu]] w fun e w' => e = .returned (.tuple #[]) ∧ WrS w' W (wNum xu (wPut xm (wPut xn st))) ∧ KT W w w' := by
  have hW := h.wr.lt
  have HS0 := hideP2 h
  have HN := hideP2 hn
  clear h hn
  subst hk
  go_enter Tryz.func218, Tryz.ntmps218
  go_wp2_with fail
  refine (wput_s _ W st xn (WrS.new HS0.out _) (wle _ _ (wle _ _ HN.out))).mono ?_
  rintro e w1 ⟨rfl, hs1, hk1⟩
  have HS1 := hideP2 hs1
  have HK1 : Hid (KT W w w1) := (KT.trans ((KT.refl W w).new (Nat.le_of_lt hW) _) hk1)
  have bx1 : w1.heap[w.heap.size]? = some (.cells #[.int .i64 7, .int .i64 xl, .int .i64 xr, .string ⟨xn.toArray⟩, .string ⟨xm.toArray⟩, .string ⟨xo.toArray⟩, .int .i64 xu] 304 (0, 0)) := hk1.kept _ _ (hb_end _ _) (okT_cells (by decide) (by decide))
  have cx1 := fun j => cell_of_row _ _ j _ _ _ bx1
  clear hs1 hk1
  go_wp2_with fail
  refine (wput_s _ W (wPut xn st) xm HS1.out (wle _ _ HN.out)).mono ?_
  rintro e w2 ⟨rfl, hs2, hk2⟩
  have HS2 := hideP2 hs2
  have HK2 : Hid (KT W w w2) := (KT.trans HK1.out hk2)
  have bx2 : w2.heap[w.heap.size]? = some (.cells #[.int .i64 7, .int .i64 xl, .int .i64 xr, .string ⟨xn.toArray⟩, .string ⟨xm.toArray⟩, .string ⟨xo.toArray⟩, .int .i64 xu] 304 (0, 0)) := hk2.kept _ _ bx1 (okT_cells (by decide) (by decide))
  have cx2 := fun j => cell_of_row _ _ j _ _ _ bx2
  clear cx1 bx1
  clear hs2 hk2
  go_wp2_with fail
  refine (operand_num _ W (wPut xm (wPut xn st)) 7 xl xr xu xn xm xo HS2.out he h0 h1 HN.out).mono ?_
  rintro e w3 ⟨rfl, hs3, hk3⟩
  have HS3 := hideP2 hs3
  have HK3 : Hid (KT W w w3) := (KT.trans HK2.out hk3)
  have bx3 : w3.heap[w.heap.size]? = some (.cells #[.int .i64 7, .int .i64 xl, .int .i64 xr, .string ⟨xn.toArray⟩, .string ⟨xm.toArray⟩, .string ⟨xo.toArray⟩, .int .i64 xu] 304 (0, 0)) := hk3.kept _ _ bx2 (okT_cells (by decide) (by decide))
  have cx3 := fun j => cell_of_row _ _ j _ _ _ bx3
  clear cx2 bx2
  clear hs3 hk3
  go_wp2_with fail
  first | go_end0 | ((try simp only [Exit.inBlock, Exit.then]); refine bodyPost_ret (results_none rfl _ _ _) rfl ?_)
  exact ⟨rfl, HS3.out, HK3.out⟩

set_option maxHeartbeats 1000000 in
theorem wtest_7o (w : World) (W : Nat) (st : WSt) (xk xl xr xu : Int) (xn xm xo : Bs) (h : WrS w W st) (hk : xk = 7) (he : xo.isEmpty = false) (hn : (wPut xo (wPut xm (wPut xn st))).1.length ≤ bigW) :
    Calls Tryz.prog 218 #[.pointer (some ⟨W, 0, none⟩), .agg #[.int .i64 xk, .int .i64 xl, .int .i64 xr, .string ⟨xn.toArray⟩, .string ⟨xm.toArray⟩, .string ⟨xo.toArray⟩, .int .i64 xu]] w fun e w' => e = .returned (.tuple #[]) ∧ WrS w' W (wPut xo (wPut xm (wPut xn st))) ∧ KT W w w' := by
  have hW := h.wr.lt
  have HS0 := hideP2 h
  have HN := hideP2 hn
  clear h hn
  subst hk
  go_enter Tryz.func218, Tryz.ntmps218
  go_wp2_with fail
  refine (wput_s _ W st xn (WrS.new HS0.out _) (wle _ _ (wle _ _ HN.out))).mono ?_
  rintro e w1 ⟨rfl, hs1, hk1⟩
  have HS1 := hideP2 hs1
  have HK1 : Hid (KT W w w1) := (KT.trans ((KT.refl W w).new (Nat.le_of_lt hW) _) hk1)
  have bx1 : w1.heap[w.heap.size]? = some (.cells #[.int .i64 7, .int .i64 xl, .int .i64 xr, .string ⟨xn.toArray⟩, .string ⟨xm.toArray⟩, .string ⟨xo.toArray⟩, .int .i64 xu] 304 (0, 0)) := hk1.kept _ _ (hb_end _ _) (okT_cells (by decide) (by decide))
  have cx1 := fun j => cell_of_row _ _ j _ _ _ bx1
  clear hs1 hk1
  go_wp2_with fail
  refine (wput_s _ W (wPut xn st) xm HS1.out (wle _ _ HN.out)).mono ?_
  rintro e w2 ⟨rfl, hs2, hk2⟩
  have HS2 := hideP2 hs2
  have HK2 : Hid (KT W w w2) := (KT.trans HK1.out hk2)
  have bx2 : w2.heap[w.heap.size]? = some (.cells #[.int .i64 7, .int .i64 xl, .int .i64 xr, .string ⟨xn.toArray⟩, .string ⟨xm.toArray⟩, .string ⟨xo.toArray⟩, .int .i64 xu] 304 (0, 0)) := hk2.kept _ _ bx1 (okT_cells (by decide) (by decide))
  have cx2 := fun j => cell_of_row _ _ j _ _ _ bx2
  clear cx1 bx1
  clear hs2 hk2
  go_wp2_with fail
  refine (operand_name _ W (wPut xm (wPut xn st)) 7 xl xr xu xn xm xo HS2.out he HN.out).mono ?_
  rintro e w3 ⟨rfl, hs3, hk3⟩
  have HS3 := hideP2 hs3
  have HK3 : Hid (KT W w w3) := (KT.trans HK2.out hk3)
  have bx3 : w3.heap[w.heap.size]? = some (.cells #[.int .i64 7, .int .i64 xl, .int .i64 xr, .string ⟨xn.toArray⟩, .string ⟨xm.toArray⟩, .string ⟨xo.toArray⟩, .int .i64 xu] 304 (0, 0)) := hk3.kept _ _ bx2 (okT_cells (by decide) (by decide))
  have cx3 := fun j => cell_of_row _ _ j _ _ _ bx3
  clear cx2 bx2
  clear hs3 hk3
  go_wp2_with fail
  first | go_end0 | ((try simp only [Exit.inBlock, Exit.then]); refine bodyPost_ret (results_none rfl _ _ _) rfl ?_)
  exact ⟨rfl, HS3.out, HK3.out⟩

/-- What a test becomes. -/
def wTest (x : PNode) (st : WSt) : WSt :=
  if x.kind = 4 then wPut [97, 108, 119, 97, 121, 115] st
  else if x.kind = 5 then wPut x.name (wPut [104, 97, 115] st)
  else if x.kind = 6 then wPut x.name st
  else if x.other.isEmpty = true then wNum x.num (wPut x.mark (wPut x.name st))
  else wPut x.other (wPut x.mark (wPut x.name st))

theorem wtest_s (w : World) (W : Nat) (st : WSt) (x : PNode) (h : WrS w W st) (hk : 4 ≤ x.kind ∧ x.kind ≤ 7) (h0 : 0 ≤ x.num) (h1 : x.num ≤ 9999) (hn : (wTest x st).1.length ≤ bigW) :
    Calls Tryz.prog 218 #[.pointer (some ⟨W, 0, none⟩), nodeV x] w fun e w' => e = .returned (.tuple #[]) ∧ WrS w' W (wTest x st) ∧ KT W w w' := by
  obtain ⟨xk, xl, xr, xn, xm, xo, xu⟩ := x
  simp only [nodeV, wTest] at *
  by_cases k4 : xk = 4
  · rw [if_pos k4] at hn ⊢; exact wtest_4 w W st xk xl xr xu xn xm xo h k4 hn
  rw [if_neg k4] at hn ⊢
  by_cases k5 : xk = 5
  · rw [if_pos k5] at hn ⊢; exact wtest_5 w W st xk xl xr xu xn xm xo h k5 hn
  rw [if_neg k5] at hn ⊢
  by_cases k6 : xk = 6
  · rw [if_pos k6] at hn ⊢; exact wtest_6 w W st xk xl xr xu xn xm xo h k6 hn
  rw [if_neg k6] at hn ⊢
  have k7 : xk = 7 := by omega
  cases he : xo.isEmpty
  · rw [he] at hn; simp only [Bool.false_eq_true, if_false] at hn ⊢
    exact wtest_7o w W st xk xl xr xu xn xm xo h k7 he hn
  · rw [he] at hn; simp only [if_true] at hn ⊢
    exact wtest_7n w W st xk xl xr xu xn xm xo h k7 he h0 h1 hn
end Go.Proofs.YtnbpdffdnphbeaaGreatDoor
