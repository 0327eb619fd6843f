/- What add of a guard does: a node is laid behind those that are there. -/
import Derived.Test.YtlfffodehppgbaaDoorComp
import Derived.Deep.AppendLies
import Derived.Deep.RegionLaw
namespace Go.Proofs.YtlfffodehppgbaaDoor
open Go.RowKit
attribute [local go_sem ↓] Go.wp_at_zero Go.wp_at_succ

def nodeC (x : PNode) : List Value := [.int .i64 x.kind, .int .i64 x.left, .int .i64 x.right, .string ⟨x.name.toArray⟩, .string ⟨x.mark.toArray⟩, .string ⟨x.other.toArray⟩, .int .i64 x.num]
def flatN (ns : List PNode) : List Value := ns.flatMap nodeC
theorem flatN_snoc (ns : List PNode) (x : PNode) : flatN (ns ++ [x]) = flatN ns ++ nodeC x := by simp [flatN]

def gdObj (nv : Value) (root tests dep : Int) : Obj := .cells #[nv, .int .i64 root, .int .i64 tests, .int .i64 dep] 59 (0, 0)

/-- A guard lies in block G, its nodes in a row behind it. -/
def Gd (w : World) (G : Nat) (nd : List PNode) (root tests dep : Int) : Prop :=
  ∃ nv, w.heap[G]? = some (gdObj nv root tests dep) ∧ w.ownsRow (G + 1) 99 7 nv nd.length (flatN nd)

theorem infoNode : (Tryd.prog.info? 99).map (fun i => (i.zero, i.size, i.bytes)) = some (some (.agg #[.int .i64 0, .int .i64 0, .int .i64 0, .string ⟨#[]⟩, .string ⟨#[]⟩, .string ⟨#[]⟩, .int .i64 0]), 7, 80) := by kernel_rfl

theorem Gd.lt {w : World} {G : Nat} {nd : List PNode} {root tests dep : Int} (h : Gd w G nd root tests dep) : G < w.heap.size := by
  obtain ⟨nv, h1, _⟩ := h
  rcases Nat.lt_or_ge G w.heap.size with h2 | h2
  · exact h2
  · rw [Array.getElem?_eq_none h2] at h1; cases h1

theorem gd_set0 {w : World} {G : Nat} {nv v : Value} {root tests dep : Int} (h : w.heap[G]? = some (gdObj nv root tests dep)) : (w.setCell ⟨G, 0, none⟩ v).heap[G]? = some (gdObj v root tests dep) := by
  unfold gdObj at h ⊢
  rw [heap_setCell_same w G 0 _ _ _ h]; simp

theorem owns_set {w : World} {B : Nat} {e : TypeId} {size : Nat} {v : Value} {n : Nat} {xs : List Value} (h : w.ownsRow B e size v n xs) {b o : Nat} {u : Value} (hb : b < B) : (w.setCell ⟨b, o, none⟩ u).ownsRow B e size v n xs :=
  ownsRow_setCell_below h (a := ⟨b, o, none⟩) hb u

theorem frz_far {w w1 : World} {G : Nat} {x y : Obj} {row : Option Nat} (hg : ((w.alloc x).alloc y).drew.grownBy w1 row) (h : w.frozen? ⟨G, 0, none⟩ = false) (hG : G < w.heap.size) (hr : some G ≠ row) : w1.frozen? ⟨G, 0, none⟩ = false := by
  have hb : w1.heap[G]? = w.heap[G]? := by
    rw [hg.block G (by show G < ((w.alloc x).alloc y).heap.size; simp; omega) hr]
    show ((w.alloc x).alloc y).heap[G]? = _
    rw [Below.heap_alloc _ _ _ (by simp; omega), Below.heap_alloc _ _ _ hG]
  rw [World.frozen?_of_block (w := w) hb]; exact h
theorem cel_far {w w1 : World} {G : Nat} {x y : Obj} {v : Value} {row : Option Nat} (hg : ((w.alloc x).alloc y).drew.grownBy w1 row) (h : w.cell? ⟨G, 0, none⟩ = some v) (hG : G < w.heap.size) (hr : some G ≠ row) : w1.cell? ⟨G, 0, none⟩ = some v := by
  have hb : w1.heap[G]? = w.heap[G]? := by
    rw [hg.block G (by show G < ((w.alloc x).alloc y).heap.size; simp; omega) hr]
    show ((w.alloc x).alloc y).heap[G]? = _
    rw [Below.heap_alloc _ _ _ (by simp; omega), Below.heap_alloc _ _ _ hG]
  rw [World.cell?_of_block (w := w) hb]; exact h

set_option maxHeartbeats 1000000 in
theorem add_s (w : World) (G : Nat) (nd : List PNode) (root tests dep : Int) (x : PNode) (h : Gd w G nd root tests dep) (hn : nd.length ≤ 10000) :
    Calls Tryd.prog 108 #[.pointer (some ⟨G, 0, none⟩), nodeV x] w fun e w' => e = .returned (.int .i64 (nd.length : Nat)) ∧ Gd w' G (nd ++ [x]) root tests dep ∧ Below G w w' := by
  obtain ⟨i0, hi0, hz0, hz1, hz2⟩ := info_parts infoNode
  have hG := h.lt
  obtain ⟨nv, hg, hown⟩ := h
  have c0 : w.cell? ⟨G, 0, none⟩ = some nv := by unfold gdObj at hg; rw [cell_of_row w G 0 _ _ _ hg]; rfl
  have fz : w.frozen? ⟨G, 0, none⟩ = false := by unfold gdObj at hg; simp [World.frozen?, hg]
  have n0 : w.heap.size ≠ G := by omega
  have n1 : w.heap.size + 1 ≠ G := by omega
  have HG := hideP2 hg
  have HOB := hideP2 (own_block_lt hown)
  have hnc : nodeC x = [.int .i64 x.kind, .int .i64 x.left, .int .i64 x.right, .string ⟨x.name.toArray⟩, .string ⟨x.mark.toArray⟩, .string ⟨x.other.toArray⟩, .int .i64 x.num] := rfl
  obtain ⟨xk, xl, xr, xn, xm, xo, xu⟩ := x
  simp only at hnc
  simp only [nodeV]
  have HX := hideP2 hnc
  have a1 : some G ≠ nv.ownBlock := fun e => by have h1 := (HOB.out G e.symm).1; omega
  have a2 : some w.heap.size ≠ nv.ownBlock := fun e => by have h1 := (HOB.out w.heap.size e.symm).2; omega
  clear hg hnc
  go_enter Tryd.func108, Tryd.ntmps108
  go_wp2_with fail
  go_region_law ((refine step_append_lies _ (by rfl) _ _ _ (by rfl) (G + 1) 99 i0 _ 7 80 Tryd.underlying57 hi0 hz0 hz1 hz2 rfl (by decide) nv nd.length (flatN nd) (by rfl) (((hown.alloc _).alloc _).drew) ⟨w.heap.size + 1, 0, none⟩ 1 1 (nodeC ⟨xk, xl, xr, xn, xm, xo, xu⟩) (by rfl) (by rfl) (by rw [HX.out]; exact news_cellsH _ _ _ _ rfl (by simp)) (by rw [HX.out]; simp [Value.oneCell']) (by decide) (by unfold maxLen; omega) (by omega) (by simp; omega) (w.heap.size + 1 + 1) (by simp) ?_; intro gg cap w1 hown1 hgrow hat hlt; have fz1 : w1.frozen? ⟨G, 0, none⟩ = false := frz_far hgrow fz hG a1; have c1' : w1.cell? ⟨G, 0, none⟩ = some nv := cel_far hgrow c0 hG a1))
  all_goals
    have hbel : Below G w w1 := (((Below.refl G w).alloc (by omega) _).alloc (by simp; omega) _).drew.grown hgrow (by show G ≤ ((w.alloc _).alloc _).heap.size; simp; omega) (fun k hk => by have h1 := (HOB.out k hk).1; omega)
    have hg1 : w1.heap[G]? = some (gdObj nv root tests dep) := by
      rw [hgrow.block G (by show G < ((w.alloc _).alloc _).heap.size; simp; omega) a1]
      show ((w.alloc _).alloc _).heap[G]? = _
      rw [Below.heap_alloc _ _ _ (by simp; omega), Below.heap_alloc _ _ _ hG]; exact HG.out
    have HG1 := hideP2 hg1
    have HBel := hideP2 hbel
    have HO1 := hideP2 hown1
    clear hg1 hbel hown1 hgrow hown
    go_wp2_with fail
    go_ret
    refine ⟨ret_int (by simp), ⟨_, gd_set0 HG1.out, ?_⟩, HBel.out.setCell (p := ⟨G, 0, none⟩) (Nat.le_refl _) _⟩
    rw [flatN_snoc, List.length_append]
    exact owns_set HO1.out (Nat.lt_succ_self G)
end Go.Proofs.YtlfffodehppgbaaDoor
