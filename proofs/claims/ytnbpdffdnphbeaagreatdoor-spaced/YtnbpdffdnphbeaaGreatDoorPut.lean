/- What put and endLine of the writer do. -/
import Derived.Test.YtnbpdffdnphbeaaGreatDoorMono
import Derived.Lib.AppendStr
namespace Go.Proofs.YtnbpdffdnphbeaaGreatDoor
open Go.RowKit

def bC (l : Bs) : List Value := l.map fun b => Value.int .u8 b.toNat
theorem bC_append (a b : Bs) : bC (a ++ b) = bC a ++ bC b := by simp [bC]
theorem bC_len (a : Bs) : (bC a).length = a.length := by simp [bC]

def wrObj (ov : Value) (il : Bool) : Obj := .cells #[ov, .bool il] 239 (0, 0)
/-- The writer lies in block W; what it has written in a row behind it. -/
def Wr (w : World) (W : Nat) (out : Bs) (il : Bool) : Prop :=
  ∃ ov, w.heap[W]? = some (wrObj ov il) ∧ w.ownsRow (W + 1) 5 1 ov out.length (bC out)

/-- Neither a row of bytes nor a writer. -/
def okT (x : Obj) : Prop := ∀ c t fz, x = .cells c t fz → t ≠ 5 ∧ t ≠ 239
theorem okT_cells {c : Array Value} {t : TypeId} {fz : Nat × Nat} (h1 : t ≠ 5) (h2 : t ≠ 239) : okT (.cells c t fz) := by
  intro c' t' fz' h; cases h; exact ⟨h1, h2⟩

/-- All that is neither a row of bytes nor a writer is as it was; so are all blocks below W. -/
structure KT (W : Nat) (w w' : World) : Prop where
  below : Below W w w'
  kept : ∀ (k : Nat) (x : Obj), w.heap[k]? = some x → okT x → w'.heap[k]? = some x

theorem KT.refl (W : Nat) (w : World) : KT W w w := ⟨Below.refl _ _, fun _ _ h _ => h⟩
theorem KT.trans {W : Nat} {a b c : World} (h : KT W a b) (k : KT W b c) : KT W a c := ⟨h.below.trans k.below, fun i x hx ho => k.kept i x (h.kept i x hx ho) ho⟩
theorem KT.new {W : Nat} {a w : World} (h : KT W a w) (hW : W ≤ w.heap.size) (o : Obj) : KT W a (w.alloc o) :=
  h.trans ⟨(Below.refl _ _).alloc hW _, fun _ _ hx _ => hb_new hx⟩
theorem KT.setW {W : Nat} {a w : World} (h : KT W a w) {o : Nat} {u ov : Value} {il : Bool} (hw : w.heap[W]? = some (wrObj ov il)) : KT W a (w.setCell ⟨W, o, none⟩ u) := by
  refine h.trans ⟨(Below.refl _ _).setCell (p := ⟨W, o, none⟩) (Nat.le_refl _) u, fun k x hx ho => ?_⟩
  have hne : k ≠ W := by
    intro e; subst e; rw [hw] at hx; cases hx
    exact (ho _ _ _ rfl).2 rfl
  exact hb_set hx hne
theorem KT.grown {W : Nat} {a w w' : World} {size : Nat} {v : Value} {n : Nat} {xs : List Value} (h : KT W a w) (hown : w.ownsRow (W + 1) 5 size v n xs) (hg : w.grownBy w' v.ownBlock) (hW : W < w.heap.size) : KT W a w' := by
  refine h.trans ⟨(Below.refl _ _).grown hg (Nat.le_of_lt hW) (fun k hk => by have := (own_block_lt hown k hk).1; omega), fun k x hx ho => ?_⟩
  have hlt : k < w.heap.size := by
    rcases Nat.lt_or_ge k w.heap.size with h1 | h1
    · exact h1
    · rw [Array.getElem?_eq_none h1] at hx; cases hx
  rw [hg.block k hlt ?_]; · exact hx
  intro hE
  rcases hown.2 with ⟨k1, _⟩ | ⟨g', cap', cur', k1, _, k3, _⟩
  · rw [k1] at hE; simp [Value.ownBlock] at hE
  · rw [k1] at hE
    simp [Value.ownBlock] at hE
    subst hE
    rw [hx] at k3; cases k3
    exact (ho _ _ _ rfl).1 rfl

theorem Wr.lt {w : World} {W : Nat} {out : Bs} {il : Bool} (h : Wr w W out il) : W < w.heap.size := by
  obtain ⟨nv, h1, _⟩ := h
  rcases Nat.lt_or_ge W w.heap.size with h2 | h2
  · exact h2
  · rw [Array.getElem?_eq_none h2] at h1; cases h1

theorem wr_set0 {w : World} {W : Nat} {ov v : Value} {il : Bool} (h : w.heap[W]? = some (wrObj ov il)) : (w.setCell ⟨W, 0, none⟩ v).heap[W]? = some (wrObj v il) := by
  unfold wrObj at h ⊢
  rw [heap_setCell_same w W 0 _ _ _ h]; simp
theorem wr_set1 {w : World} {W : Nat} {ov : Value} {il b : Bool} (h : w.heap[W]? = some (wrObj ov il)) : (w.setCell ⟨W, 1, none⟩ (.bool b)).heap[W]? = some (wrObj ov b) := by
  unfold wrObj at h ⊢
  rw [heap_setCell_same w W 1 _ _ _ h]; simp
theorem wr_cells {w : World} {W : Nat} {ov : Value} {il : Bool} (h : w.heap[W]? = some (wrObj ov il)) : w.cell? ⟨W, 0, none⟩ = some ov ∧ w.cell? ⟨W, 1, none⟩ = some (.bool il) ∧ (∀ o, w.frozen? ⟨W, o, none⟩ = false) := by
  unfold wrObj at h
  exact ⟨by rw [cell_of_row w W 0 _ _ _ h]; rfl, by rw [cell_of_row w W 1 _ _ _ h]; rfl, fun o => by simp [World.frozen?, h]⟩
theorem wr_grown {w w' : World} {W : Nat} {x : Obj} {size : Nat} {v : Value} {n : Nat} {xs : List Value} (h : w.heap[W]? = some x) (hown : w.ownsRow (W + 1) 5 size v n xs) (hg : w.grownBy w' v.ownBlock) (hW : W < w.heap.size) : w'.heap[W]? = some x := by
  rw [hg.block W hW (fun e => by have := (own_block_lt hown W e.symm).1; omega)]; exact h

theorem infoByte : (Tryz.prog.info? 5).map (fun i => (i.zero, i.size, i.bytes)) = some (some (.int .u8 0), 1, 1) := by kernel_rfl

def putB (out : Bs) (il : Bool) (t : Bs) : Bs := (match il with | true => out ++ [32] | false => out) ++ t

set_option maxHeartbeats 1000000 in
theorem put_false (w : World) (W : Nat) (out t : Bs) (h : Wr w W out false) (hn : out.length + t.length ≤ 10000000) :
    Calls Tryz.prog 154 #[.pointer (some ⟨W, 0, none⟩), .string ⟨t.toArray⟩] w fun e w' => e = .returned (.tuple #[]) ∧ Wr w' W (out ++ t) true ∧ KT W w w' := by
  obtain ⟨i0, hi0, hz0, hz1, hz2⟩ := info_parts infoByte
  have hW := h.lt
  obtain ⟨ov, hw, hown⟩ := h
  obtain ⟨c0, c1, fz⟩ := wr_cells hw
  obtain ⟨oa, on, oc, rfl⟩ := own_slice hown
  have HW := hideP2 hw
  clear hw
  go_enter Tryz.func154, Tryz.ntmps154
  go_wp2_with (at_builtin; refine Lib.wpList_append_own_string _ rfl _ _ 224 9 rfl (W + 1) 5 i0 Tryz.underlying224 Tryz.underlying9 hi0 hz0 hz1 hz2 _ _ _ rfl hown ⟨t.toArray⟩ rfl ?c1 ?c2 ?c3 ?_)
  case c1 => show out.length + t.toArray.size ≤ maxLen; simp [maxLen]; omega
  case c2 => show out.length + t.toArray.size ≤ _; simp; omega
  case c3 => omega
  intro v' w1 hown1 hgrow _
  have hw1 := wr_grown HW.out hown hgrow hW
  have HK1 : Hid (KT W w w1) := (KT.refl W w).grown hown hgrow hW
  obtain ⟨d0, d1, fz1⟩ := wr_cells hw1
  obtain ⟨va, vn, vc, rfl⟩ := own_slice hown1
  have HW1 := hideP2 hw1
  have HO1 := hideP2 hown1
  clear hw1 hown1 hgrow hown c0 c1 fz
  go_wp2_with fail
  go_end0
  refine ⟨rfl, ⟨_, wr_set1 (wr_set0 HW1.out), ?_⟩, (HK1.out.setW HW1.out).setW (wr_set0 HW1.out)⟩
  rw [bC_append, List.length_append]
  exact owns_set (owns_set HO1.out (Nat.lt_succ_self W)) (Nat.lt_succ_self W)

set_option maxHeartbeats 1000000 in
theorem put_true (w : World) (W : Nat) (out t : Bs) (h : Wr w W out true) (hn : out.length + 1 + t.length ≤ 10000000) :
    Calls Tryz.prog 154 #[.pointer (some ⟨W, 0, none⟩), .string ⟨t.toArray⟩] w fun e w' => e = .returned (.tuple #[]) ∧ Wr w' W (out ++ [32] ++ t) true ∧ KT W w w' := by
  obtain ⟨i0, hi0, hz0, hz1, hz2⟩ := info_parts infoByte
  have hW := h.lt
  obtain ⟨ov, hw, hown⟩ := h
  obtain ⟨c0, c1, fz⟩ := wr_cells hw
  obtain ⟨oa, on, oc, rfl⟩ := own_slice hown
  have n0 : w.heap.size ≠ W := by omega
  have HW := hideP2 hw
  clear hw
  go_enter Tryz.func154, Tryz.ntmps154
  go_wp2_with (at_builtin; refine wpList_append_own _ rfl _ _ 224 rfl (W + 1) 5 i0 _ 1 1 Tryz.underlying224 hi0 hz0 hz1 hz2 rfl (by decide) _ _ _ rfl (hown.alloc _) ⟨w.heap.size, 0, none⟩ 1 1 (bC [32]) rfl rfl ?c1 ?c2 ?c3 ?c4 ?c5 ?_)
  case c1 => exact news_cells _ _ _ _ rfl
  case c2 => intro u hu; simp [bC] at hu; subst hu; rfl
  case c3 => unfold maxLen; omega
  case c4 => omega
  case c5 => simp; omega
  intro v' w1 hown1 hgrow _
  have hw1 := wr_grown (hb_new HW.out) (hown.alloc _) hgrow (lt_new hW)
  have HK1 : Hid (KT W w w1) := ((KT.refl W w).new (Nat.le_of_lt hW) _).grown (hown.alloc _) hgrow (lt_new hW)
  obtain ⟨d0, d1, fz1⟩ := wr_cells hw1
  obtain ⟨va, vn, vc, rfl⟩ := own_slice hown1
  have hW1 : W < w1.heap.size := Nat.lt_of_lt_of_le hW HK1.out.below.size
  have hown1' : (w1.setCell ⟨W, 0, none⟩ (.slice va vn vc)).ownsRow (W + 1) 5 1 (.slice va vn vc) (out ++ [32]).length (bC (out ++ [32])) := by
    rw [bC_append, List.length_append]; exact owns_set hown1 (Nat.lt_succ_self W)
  have HW1 := hideP2 hw1
  clear hw1 hown1 hgrow hown c0 c1 fz
  have hl : (out ++ [32]).length = out.length + 1 := by simp
  go_wp2_with (at_builtin; refine Lib.wpList_append_own_string _ rfl _ _ 224 9 rfl (W + 1) 5 i0 Tryz.underlying224 Tryz.underlying9 hi0 hz0 hz1 hz2 _ _ _ rfl hown1' ⟨t.toArray⟩ rfl ?d1 ?d2 ?d3 ?_)
  case d1 => show (out ++ [32]).length + t.toArray.size ≤ maxLen; simp [maxLen]; omega
  case d2 => show (out ++ [32]).length + t.toArray.size ≤ _; simp; omega
  case d3 => rw [size_setCell]; omega
  intro v2 w2 hown2 hgrow2 _
  have hw2 := wr_grown (wr_set0 HW1.out) hown1' hgrow2 (lt_set hW1)
  have HK2 : Hid (KT W w w2) := (HK1.out.setW HW1.out).grown hown1' hgrow2 (lt_set hW1)
  obtain ⟨e0, e1, fz2⟩ := wr_cells hw2
  obtain ⟨xa, xn, xc, rfl⟩ := own_slice hown2
  have HW2 := hideP2 hw2
  have HO2 := hideP2 hown2
  clear hw2 hown2 hgrow2 hown1' d0 d1 fz1 HW1 HK1
  go_wp2_with fail
  go_end0
  refine ⟨rfl, ⟨_, wr_set1 (wr_set0 HW2.out), ?_⟩, (HK2.out.setW HW2.out).setW (wr_set0 HW2.out)⟩
  rw [bC_append, List.length_append, hl]
  exact owns_set (owns_set HO2.out (Nat.lt_succ_self W)) (Nat.lt_succ_self W)

theorem put_s (w : World) (W : Nat) (out t : Bs) (il : Bool) (h : Wr w W out il) (hn : out.length + 1 + t.length ≤ 10000000) :
    Calls Tryz.prog 154 #[.pointer (some ⟨W, 0, none⟩), .string ⟨t.toArray⟩] w fun e w' => e = .returned (.tuple #[]) ∧ Wr w' W (putB out il t) true ∧ KT W w w' := by
  cases il
  · exact put_false w W out t h (by omega)
  · exact put_true w W out t h hn

set_option maxHeartbeats 1000000 in
theorem endLine_s (w : World) (W : Nat) (out : Bs) (il : Bool) (h : Wr w W out il) (hn : out.length + 2 ≤ 10000000) :
    Calls Tryz.prog 158 #[.pointer (some ⟨W, 0, none⟩)] w fun e w' => e = .returned (.tuple #[]) ∧ Wr w' W (out ++ [59, 10]) false ∧ KT W w w' := by
  obtain ⟨i0, hi0, hz0, hz1, hz2⟩ := info_parts infoByte
  have hW := h.lt
  obtain ⟨ov, hw, hown⟩ := h
  obtain ⟨c0, c1, fz⟩ := wr_cells hw
  obtain ⟨oa, on, oc, rfl⟩ := own_slice hown
  have n0 : w.heap.size ≠ W := by omega
  have HW := hideP2 hw
  clear hw
  go_enter Tryz.func158, Tryz.ntmps158
  go_wp2_with (at_builtin; refine wpList_append_own _ rfl _ _ 224 rfl (W + 1) 5 i0 _ 1 1 Tryz.underlying224 hi0 hz0 hz1 hz2 rfl (by decide) _ _ _ rfl (hown.alloc _) ⟨w.heap.size, 0, none⟩ 2 2 (bC [59, 10]) rfl rfl ?c1 ?c2 ?c3 ?c4 ?c5 ?_)
  case c1 => exact news_cells _ _ _ _ rfl
  case c2 => intro u hu; simp [bC] at hu; rcases hu with rfl | rfl <;> rfl
  case c3 => unfold maxLen; omega
  case c4 => omega
  case c5 => simp; omega
  intro v' w1 hown1 hgrow _
  have hw1 := wr_grown (hb_new HW.out) (hown.alloc _) hgrow (lt_new hW)
  have HK1 : Hid (KT W w w1) := ((KT.refl W w).new (Nat.le_of_lt hW) _).grown (hown.alloc _) hgrow (lt_new hW)
  obtain ⟨d0, d1, fz1⟩ := wr_cells hw1
  obtain ⟨va, vn, vc, rfl⟩ := own_slice hown1
  have HW1 := hideP2 hw1
  have HO1 := hideP2 hown1
  clear hw1 hown1 hgrow hown c0 c1 fz
  go_wp2_with fail
  go_end0
  refine ⟨rfl, ⟨_, wr_set1 (wr_set0 HW1.out), ?_⟩, (HK1.out.setW HW1.out).setW (wr_set0 HW1.out)⟩
  rw [bC_append, List.length_append]
  exact owns_set (owns_set HO1.out (Nat.lt_succ_self W)) (Nat.lt_succ_self W)
end Go.Proofs.YtnbpdffdnphbeaaGreatDoor
