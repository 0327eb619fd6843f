/- The writer's place in memory, and what putNumber does. -/
import Derived.Test.YtlfffodehppgbaaDoorPut
import Derived.Test.YtlfffodehppgbaaDoorItoa
import Derived.WalkSmall
namespace Go.Proofs.YtlfffodehppgbaaDoor
open Go.RowKit

def Tab (w : World) : Prop := Lib.TabIs Tryd.prog w "internal/strconv.uint64pow10" .u64 Lib.pow10Tab

abbrev WSt := Bs × Bool
/-- The writer, and the library's table, lie in memory. -/
structure WrS (w : World) (W : Nat) (st : WSt) : Prop where
  wr : Wr w W st.1 st.2
  tab : Tab w
  gl : ∃ g, Tryd.prog.globalNamed "internal/strconv.uint64pow10" = some g ∧ g < W

theorem Tab.below {w w' : World} {W : Nat} (h : Tab w) (hg : ∃ g, Tryd.prog.globalNamed "internal/strconv.uint64pow10" = some g ∧ g < W) (hb : Below W w w') : Tab w' := by
  obtain ⟨g, h1, h2⟩ := hg
  exact var?_below hb h1 h2 h

theorem WrS.step {w w' : World} {W : Nat} {st st' : WSt} (h : WrS w W st) (hw : Wr w' W st'.1 st'.2) (hk : KT W w w') : WrS w' W st' := ⟨hw, h.tab.below h.gl hk.below, h.gl⟩

theorem Wr.new {w : World} {W : Nat} {out : Bs} {il : Bool} (h : Wr w W out il) (o : Obj) : Wr (w.alloc o) W out il := by
  obtain ⟨ov, h1, h2⟩ := h
  exact ⟨ov, hb_new h1, h2.alloc _⟩
theorem WrS.new {w : World} {W : Nat} {st : WSt} (h : WrS w W st) (o : Obj) : WrS (w.alloc o) W st :=
  h.step (h.wr.new o) ((KT.refl W w).new (Nat.le_of_lt h.wr.lt) o)

theorem grow_kept {w : World} {k : Nat} {os : Array Obj} {i : Nat} {x : Obj} (h : w.heap[i]? = some x) : (Sort.grow (w.drewN k) os).heap[i]? = some x := by
  have hi : i < w.heap.size := by
    rcases Nat.lt_or_ge i w.heap.size with h1 | h1
    · exact h1
    · rw [Array.getElem?_eq_none h1] at h; cases h
  have hd : (w.drewN k).heap = w.heap := by simp
  rw [Sort.heap_grow_old _ _ (by rw [hd]; exact hi), hd]; exact h

theorem KT.growN {W : Nat} {w : World} (k : Nat) (os : Array Obj) (hW : W ≤ w.heap.size) : KT W w (Sort.grow (w.drewN k) os) := by
  have hd : (w.drewN k).heap = w.heap := by simp
  refine ⟨⟨rfl, by simp [Sort.grow], rfl, by simp [Sort.grow], fun i hi => ?_⟩, fun i x hx _ => grow_kept hx⟩
  rw [Sort.heap_grow_old _ _ (by rw [hd]; omega), hd]

theorem Wr.grow {w : World} {W : Nat} {out : Bs} {il : Bool} (h : Wr w W out il) (k : Nat) (os : Array Obj) : Wr (Sort.grow (w.drewN k) os) W out il := by
  obtain ⟨ov, h1, h2⟩ := h
  refine ⟨ov, grow_kept h1, h2.1, ?_⟩
  rcases h2.2 with h3 | ⟨g, cap, c, h4, h5, h6, r⟩
  · exact .inl h3
  · exact .inr ⟨g, cap, c, h4, h5, grow_kept h6, r⟩

def wPut (t : Bs) (st : WSt) : WSt := (putB st.1 st.2 t, true)
def wNum (n : Int) (st : WSt) : WSt := wPut (Lib.itoa n) st

theorem wPut_le (t : Bs) (st : WSt) : st.1.length + t.length ≤ (wPut t st).1.length := by
  obtain ⟨o, il⟩ := st; cases il <;> simp [wPut, putB] <;> omega

def bigW : Nat := 5000000

theorem putB_len (o : Bs) (il : Bool) (t : Bs) : o.length + t.length ≤ (putB o il t).length := by cases il <;> simp [putB] <;> omega

theorem wput_s (w : World) (W : Nat) (st : WSt) (t : Bs) (h : WrS w W st) (hn : (wPut t st).1.length ≤ bigW) :
    Calls Tryd.prog 67 #[.pointer (some ⟨W, 0, none⟩), .string ⟨t.toArray⟩] w fun e w' => e = .returned (.tuple #[]) ∧ WrS w' W (wPut t st) ∧ KT W w w' := by
  refine (put_s w W st.1 t st.2 h.wr (by have h1 := wPut_le t st; unfold bigW at hn; omega)).mono ?_
  rintro e w' ⟨rfl, h1, h2⟩
  exact ⟨rfl, h.step h1 h2, h2⟩

set_option maxHeartbeats 1000000 in
theorem wnum_s (w : World) (W : Nat) (st : WSt) (n : Int) (h : WrS w W st) (hn : (wNum n st).1.length ≤ bigW) (h0 : 0 ≤ n) (h1 : n ≤ 9999) :
    Calls Tryd.prog 68 #[.pointer (some ⟨W, 0, none⟩), .int .i64 n] w fun e w' => e = .returned (.tuple #[]) ∧ WrS w' W (wNum n st) ∧ KT W w w' := by
  have hW := h.wr.lt
  have HS := hideP2 h
  have HI := hideP2 (Tryd.strconv_Itoa_laid n (by omega) (by omega) w h.tab)
  have HN := hideP2 hn
  clear h hn
  go_enter Tryd.func68, Tryd.ntmps68
  go_wp2_with fail
  refine HI.out.mono ?_
  rintro e w1 ⟨rfl, k, os, hw1⟩
  have hk1 : KT W w w1 := by rw [hw1]; exact KT.growN k os (Nat.le_of_lt hW)
  have hs1 : WrS w1 W st := HS.out.step (by rw [hw1]; exact HS.out.wr.grow k os) hk1
  have HK1 := hideP2 hk1
  have HS1 := hideP2 hs1
  clear hk1 hs1 hw1 HI
  go_wp2_with fail
  refine (wput_s w1 W st (Lib.itoa n) HS1.out HN.out).mono ?_
  rintro e w2 ⟨rfl, hs2, hk2⟩
  have HS2 := hideP2 hs2
  have HK2 : Hid (KT W w w2) := HK1.out.trans hk2
  clear hs2 hk2
  go_wp2_with fail
  go_end0
  exact ⟨rfl, HS2.out, HK2.out⟩
end Go.Proofs.YtlfffodehppgbaaDoor
