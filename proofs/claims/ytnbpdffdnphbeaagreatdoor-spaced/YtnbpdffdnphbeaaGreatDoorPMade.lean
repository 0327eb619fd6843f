/- A frame, read: what it is, and how it lies in memory. -/
import Derived.Test.YtnbpdffdnphbeaaGreatDoorPFrm
import Derived.Test.YtnbpdffdnphbeaaGreatDoorFGuard
namespace Go.Proofs.YtnbpdffdnphbeaaGreatDoor
open Go.RowKit

structure FRule where
  head : Nat
  whole : Bool
  parts : List FPart
  tests : List FTest
structure FMade where
  lo : Nat → Int
  hi : Nat → Int
  rules : List FRule
  over : Nat → Nat → Bool
  heads : List Nat
/-- The heads, each once, in the order of their first rules. -/
def addH (acc : List Nat) (h : Nat) : List Nat := if h ∈ acc then acc else acc ++ [h]
def headsOf (hs : List Nat) : List Nat := hs.foldl addH []
theorem addH_mem {acc : List Nat} {h x : Nat} : x ∈ addH acc h ↔ x ∈ acc ∨ x = h := by
  unfold addH
  split
  · rename_i hm
    constructor
    · exact .inl
    · rintro (h1 | rfl)
      · exact h1
      · exact hm
  · simp
theorem foldH_mem (hs : List Nat) : ∀ (acc : List Nat) {x : Nat}, x ∈ hs.foldl addH acc ↔ x ∈ acc ∨ x ∈ hs := by
  induction hs with
  | nil => simp
  | cons h r ih => intro acc x; rw [List.foldl_cons, ih, addH_mem, List.mem_cons]; exact or_assoc
theorem headsOf_mem {hs : List Nat} {x : Nat} : x ∈ headsOf hs ↔ x ∈ hs := by unfold headsOf; rw [foldH_mem]; simp
theorem foldH_nodup (hs : List Nat) : ∀ acc : List Nat, acc.Nodup → (hs.foldl addH acc).Nodup := by
  induction hs with
  | nil => intro acc h; exact h
  | cons h r ih =>
    intro acc ha
    refine ih _ ?_
    unfold addH
    split
    · exact ha
    · rename_i hn
      rw [List.nodup_append]
      exact ⟨ha, by simp, fun a ha' b hb => by rw [List.mem_singleton.1 hb]; intro e; exact hn (e ▸ ha')⟩
theorem headsOf_nodup (hs : List Nat) : (headsOf hs).Nodup := foldH_nodup hs [] List.nodup_nil
theorem headsOf_snoc (hs : List Nat) (h : Nat) : headsOf (hs ++ [h]) = addH (headsOf hs) h := by unfold headsOf; rw [List.foldl_append]; rfl
theorem headsOf_len {hs : List Nat} (h : ∀ x ∈ hs, x < 4) : (headsOf hs).length ≤ 4 := by
  have := List.Nodup.length_le_of_subset (headsOf_nodup hs) (l₂ := List.range 4) (fun x hx => List.mem_range.2 (h x (headsOf_mem.1 hx)))
  simpa using this
/-- The earlier conclusions that a rule of head h may name. -/
def lowOf (heads : List Nat) (h : Nat) : List Nat := (List.range h).filter fun d => decide (d ∈ heads)
structure RuleOk (heads : List Nat) (r : FRule) : Prop where
  head : r.head < 4
  parts : PartsOk (lowOf heads r.head) r.parts
  tests : TestsOk (lowOf heads r.head) r.tests
structure MadeOk (M : FMade) : Prop where
  nums : ∀ i, i < 3 → 0 ≤ M.lo i ∧ M.lo i ≤ M.hi i ∧ M.hi i ≤ 9998
  few : M.rules.length ≤ 8
  heads : M.heads = headsOf (M.rules.map FRule.head)
  rules : ∀ r ∈ M.rules, RuleOk M.heads r
  over : ∀ i j, M.over i j = true → i < j ∧ j < M.rules.length ∧ (M.rules.map FRule.head).getD i 0 = (M.rules.map FRule.head).getD j 0
def upd {α : Type} (f : Nat → α) (i : Nat) (v : α) : Nat → α := fun j => if j = i then v else f j
def upd2 (f : Nat → Nat → Bool) (i k : Nat) (v : Bool) : Nat → Nat → Bool := fun a b => if a = i ∧ b = k then v else f a b
/-- The block of a frame that is read. -/
structure MadM (w : World) (g : Nat) (lo hi : Nat → Int) (rv : Value) (ov : Nat → Nat → Bool) (hv : Value) : Prop where
  blk : ∃ cs : Array Value, w.heap[g]? = some (.cells cs 133 (0, 0)) ∧ cs.size = 72 ∧ (∀ i, i < 3 → cs[i]? = some (.int .i64 (lo i))) ∧ (∀ i, i < 3 → cs[3 + i]? = some (.int .i64 (hi i))) ∧ cs[6]? = some rv ∧ (∀ i j, i < 8 → j < 8 → cs[7 + i * 8 + j]? = some (.bool (ov i j))) ∧ cs[71]? = some hv
theorem MadM.below {w w' : World} {g : Nat} {lo hi : Nat → Int} {rv : Value} {ov : Nat → Nat → Bool} {hv : Value} (h : MadM w g lo hi rv ov hv) (hb : Below w.heap.size w w') : MadM w' g lo hi rv ov hv := by
  obtain ⟨cs, h1, h2⟩ := h.blk
  exact ⟨cs, (hb.block g (hlt_of h1)).trans h1, h2⟩
theorem MadM.down {w w' : World} {B g : Nat} {lo hi : Nat → Int} {rv : Value} {ov : Nat → Nat → Bool} {hv : Value} (h : MadM w g lo hi rv ov hv) (hb : Below B w w') (hg : g < B) : MadM w' g lo hi rv ov hv := by
  obtain ⟨cs, h1, h2⟩ := h.blk
  exact ⟨cs, (hb.block g hg).trans h1, h2⟩
theorem MadM.other {w : World} {g g' k : Nat} {v : Value} {lo hi : Nat → Int} {rv : Value} {ov : Nat → Nat → Bool} {hv : Value} (h : MadM w g lo hi rv ov hv) (hne : g ≠ g') : MadM (w.setCell ⟨g', k, none⟩ v) g lo hi rv ov hv := by
  obtain ⟨cs, h1, h2⟩ := h.blk
  exact ⟨cs, by rw [Below.heap_setCell _ _ _ _ (show g ≠ (⟨g', k, none⟩ : Addr).block from hne)]; exact h1, h2⟩
theorem MadM.lt {w : World} {g : Nat} {lo hi : Nat → Int} {rv : Value} {ov : Nat → Nat → Bool} {hv : Value} (h : MadM w g lo hi rv ov hv) : g < w.heap.size := by
  obtain ⟨cs, h1, h2⟩ := h.blk; exact hlt_of h1
theorem MadM.free {w : World} {g : Nat} {lo hi : Nat → Int} {rv : Value} {ov : Nat → Nat → Bool} {hv : Value} (h : MadM w g lo hi rv ov hv) (k : Nat) : w.frozen? ⟨g, k, none⟩ = false := by
  obtain ⟨cs, h1, h2⟩ := h.blk; simp [World.frozen?, h1]
theorem MadM.cells {w : World} {g : Nat} {lo hi : Nat → Int} {rv : Value} {ov : Nat → Nat → Bool} {hv : Value} (h : MadM w g lo hi rv ov hv) : (∀ i, i < 3 → w.cell? ⟨g, i, none⟩ = some (.int .i64 (lo i))) ∧ (∀ i, i < 3 → w.cell? ⟨g, 3 + i, none⟩ = some (.int .i64 (hi i))) ∧ w.cell? ⟨g, 6, none⟩ = some rv ∧ (∀ i j, i < 8 → j < 8 → w.cell? ⟨g, 7 + i * 8 + j, none⟩ = some (.bool (ov i j))) ∧ w.cell? ⟨g, 71, none⟩ = some hv := by
  obtain ⟨cs, h1, h2, h3, h4, h5, h6, h7⟩ := h.blk
  exact ⟨fun i hi => (cell_row h1 i).trans (h3 i hi), fun i hi => (cell_row h1 _).trans (h4 i hi), (cell_row h1 6).trans h5, fun i j hi hj => (cell_row h1 _).trans (h6 i j hi hj), (cell_row h1 71).trans h7⟩
theorem set_at {cs : Array Value} {i j : Nat} {v : Value} (hi : i < cs.size) : (cs.setIfInBounds i v)[j]? = if j = i then some v else cs[j]? := by
  rw [Array.getElem?_setIfInBounds]
  by_cases h : i = j
  · subst h; simp [hi]
  · rw [if_neg h, if_neg (fun e => h e.symm)]
theorem MadM.setLo {w : World} {g : Nat} {lo hi : Nat → Int} {rv : Value} {ov : Nat → Nat → Bool} {hv : Value} (h : MadM w g lo hi rv ov hv) (k : Nat) (hk : k < 3) (v : Int) : MadM (w.setCell ⟨g, k, none⟩ (.int .i64 v)) g (upd lo k v) hi rv ov hv := by
  obtain ⟨cs, h1, h2, h3, h4, h5, h6, h7⟩ := h.blk
  refine ⟨_, heap_setCell_same _ _ _ _ _ _ h1, by simp [h2], fun i hi => ?_, fun i hi => ?_, ?_, fun i j hi hj => ?_, ?_⟩
  · rw [set_at (by omega)]; unfold upd; split
    · rfl
    · exact h3 i hi
  · rw [set_at (by omega), if_neg (by omega)]; exact h4 i hi
  · rw [set_at (by omega), if_neg (by omega)]; exact h5
  · rw [set_at (by omega), if_neg (by omega)]; exact h6 i j hi hj
  · rw [set_at (by omega), if_neg (by omega)]; exact h7
theorem MadM.setHi {w : World} {g : Nat} {lo hi : Nat → Int} {rv : Value} {ov : Nat → Nat → Bool} {hv : Value} (h : MadM w g lo hi rv ov hv) (k : Nat) (hk : k < 3) (v : Int) : MadM (w.setCell ⟨g, 3 + k, none⟩ (.int .i64 v)) g lo (upd hi k v) rv ov hv := by
  obtain ⟨cs, h1, h2, h3, h4, h5, h6, h7⟩ := h.blk
  refine ⟨_, heap_setCell_same _ _ _ _ _ _ h1, by simp [h2], fun i hi => ?_, fun i hi => ?_, ?_, fun i j hi hj => ?_, ?_⟩
  · rw [set_at (by omega), if_neg (by omega)]; exact h3 i hi
  · rw [set_at (by omega)]; unfold upd
    by_cases e : i = k
    · rw [if_pos (by omega), if_pos e]
    · rw [if_neg (by omega), if_neg e]; exact h4 i hi
  · rw [set_at (by omega), if_neg (by omega)]; exact h5
  · rw [set_at (by omega), if_neg (by omega)]; exact h6 i j hi hj
  · rw [set_at (by omega), if_neg (by omega)]; exact h7
theorem MadM.setR {w : World} {g : Nat} {lo hi : Nat → Int} {rv : Value} {ov : Nat → Nat → Bool} {hv : Value} (h : MadM w g lo hi rv ov hv) (v : Value) : MadM (w.setCell ⟨g, 6, none⟩ v) g lo hi v ov hv := by
  obtain ⟨cs, h1, h2, h3, h4, h5, h6, h7⟩ := h.blk
  refine ⟨_, heap_setCell_same _ _ _ _ _ _ h1, by simp [h2], fun i hi => ?_, fun i hi => ?_, ?_, fun i j hi hj => ?_, ?_⟩
  · rw [set_at (by omega), if_neg (by omega)]; exact h3 i hi
  · rw [set_at (by omega), if_neg (by omega)]; exact h4 i hi
  · rw [set_at (by omega), if_pos rfl]
  · rw [set_at (by omega), if_neg (by omega)]; exact h6 i j hi hj
  · rw [set_at (by omega), if_neg (by omega)]; exact h7
theorem MadM.setH {w : World} {g : Nat} {lo hi : Nat → Int} {rv : Value} {ov : Nat → Nat → Bool} {hv : Value} (h : MadM w g lo hi rv ov hv) (v : Value) : MadM (w.setCell ⟨g, 71, none⟩ v) g lo hi rv ov v := by
  obtain ⟨cs, h1, h2, h3, h4, h5, h6, h7⟩ := h.blk
  refine ⟨_, heap_setCell_same _ _ _ _ _ _ h1, by simp [h2], fun i hi => ?_, fun i hi => ?_, ?_, fun i j hi hj => ?_, ?_⟩
  · rw [set_at (by omega), if_neg (by omega)]; exact h3 i hi
  · rw [set_at (by omega), if_neg (by omega)]; exact h4 i hi
  · rw [set_at (by omega), if_neg (by omega)]; exact h5
  · rw [set_at (by omega), if_neg (by omega)]; exact h6 i j hi hj
  · rw [set_at (by omega), if_pos rfl]
theorem MadM.setO {w : World} {g : Nat} {lo hi : Nat → Int} {rv : Value} {ov : Nat → Nat → Bool} {hv : Value} (h : MadM w g lo hi rv ov hv) (a b : Nat) (ha : a < 8) (hb : b < 8) (v : Bool) : MadM (w.setCell ⟨g, 7 + a * 8 + b, none⟩ (.bool v)) g lo hi rv (upd2 ov a b v) hv := by
  obtain ⟨cs, h1, h2, h3, h4, h5, h6, h7⟩ := h.blk
  refine ⟨_, heap_setCell_same _ _ _ _ _ _ h1, by simp [h2], fun i hi => ?_, fun i hi => ?_, ?_, fun i j hi hj => ?_, ?_⟩
  · rw [set_at (by omega), if_neg (by omega)]; exact h3 i hi
  · rw [set_at (by omega), if_neg (by omega)]; exact h4 i hi
  · rw [set_at (by omega), if_neg (by omega)]; exact h5
  · rw [set_at (by omega)]; unfold upd2
    by_cases e : i = a ∧ j = b
    · rw [if_pos (by omega), if_pos e]
    · rw [if_neg (by omega), if_neg e]; exact h6 i j hi hj
  · rw [set_at (by omega), if_neg (by omega)]; exact h7
/-- Which heads are there. -/
def ThM (w : World) (g : Nat) (f : Nat → Bool) : Prop := ∃ cs : Array Value, w.heap[g]? = some (.cells cs 136 (0, 0)) ∧ cs.size = 4 ∧ ∀ i, i < 4 → cs[i]? = some (.bool (f i))
theorem ThM.cell {w : World} {g : Nat} {f : Nat → Bool} (h : ThM w g f) {i : Nat} (hi : i < 4) : w.cell? ⟨g, i, none⟩ = some (.bool (f i)) := by
  obtain ⟨cs, h1, h2, h3⟩ := h; exact (cell_row h1 i).trans (h3 i hi)
theorem ThM.free {w : World} {g : Nat} {f : Nat → Bool} (h : ThM w g f) (k : Nat) : w.frozen? ⟨g, k, none⟩ = false := by
  obtain ⟨cs, h1, h2⟩ := h; simp [World.frozen?, h1]
theorem ThM.lt {w : World} {g : Nat} {f : Nat → Bool} (h : ThM w g f) : g < w.heap.size := by obtain ⟨cs, h1, h2⟩ := h; exact hlt_of h1
theorem ThM.below {w w' : World} {g : Nat} {f : Nat → Bool} (h : ThM w g f) (hb : Below w.heap.size w w') : ThM w' g f := by
  obtain ⟨cs, h1, h2⟩ := h; exact ⟨cs, (hb.block g (hlt_of h1)).trans h1, h2⟩
theorem ThM.down {w w' : World} {B g : Nat} {f : Nat → Bool} (h : ThM w g f) (hb : Below B w w') (hg : g < B) : ThM w' g f := by
  obtain ⟨cs, h1, h2⟩ := h; exact ⟨cs, (hb.block g hg).trans h1, h2⟩
theorem ThM.other {w : World} {g g' k : Nat} {v : Value} {f : Nat → Bool} (h : ThM w g f) (hne : g ≠ g') : ThM (w.setCell ⟨g', k, none⟩ v) g f := by
  obtain ⟨cs, h1, h2⟩ := h
  exact ⟨cs, by rw [Below.heap_setCell _ _ _ _ (show g ≠ (⟨g', k, none⟩ : Addr).block from hne)]; exact h1, h2⟩
theorem ThM.of {w : World} {g : Nat} {f f' : Nat → Bool} (h : ThM w g f) (e : ∀ i, i < 4 → f i = f' i) : ThM w g f' := by
  obtain ⟨cs, h1, h2, h3⟩ := h; exact ⟨cs, h1, h2, fun i hi => by rw [h3 i hi, e i hi]⟩
theorem ThM.set {w : World} {g : Nat} {f : Nat → Bool} (h : ThM w g f) (k : Nat) (hk : k < 4) (v : Bool) : ThM (w.setCell ⟨g, k, none⟩ (.bool v)) g (upd f k v) := by
  obtain ⟨cs, h1, h2, h3⟩ := h
  refine ⟨_, heap_setCell_same _ _ _ _ _ _ h1, by simp [h2], fun i hi => ?_⟩
  rw [set_at (by omega)]; unfold upd; split
  · rfl
  · exact h3 i hi
theorem made_row : Tryz.zeroCells133 = (List.replicate 6 (Value.int .i64 0) ++ (Value.slice none 0 0 :: (List.replicate 64 (Value.bool false) ++ [Value.slice none 0 0]))).toArray := by kernel_rfl
theorem made_first (w : World) : MadM (w.alloc (.cells Tryz.zeroCells133 133)) w.heap.size (fun _ => 0) (fun _ => 0) (.slice none 0 0) (fun _ _ => false) (.slice none 0 0) := by
  rw [made_row]
  refine ⟨_, hb_end _ _, by simp, fun i hi => ?_, fun i hi => ?_, rfl, fun i j hi hj => ?_, rfl⟩
  · rw [List.getElem?_toArray, List.getElem?_append_left (by simp; omega), List.getElem?_replicate, if_pos (by omega)]
  · rw [List.getElem?_toArray, List.getElem?_append_left (by simp; omega), List.getElem?_replicate, if_pos (by omega)]
  · rw [List.getElem?_toArray, List.getElem?_append_right (by simp; omega), List.length_replicate, show 7 + i * 8 + j - 6 = (i * 8 + j) + 1 by omega, List.getElem?_cons_succ, List.getElem?_append_left (by simp; omega), List.getElem?_replicate, if_pos (by omega)]
/-- The heads of the first rules, by their raw numbers. -/
def hsN (hd : Nat → Int) (i : Nat) : List Nat := (List.range i).map fun j => (pkI (hd j) 4).toNat
theorem hsN_succ (hd : Nat → Int) (i : Nat) : hsN hd (i + 1) = hsN hd i ++ [(pkI (hd i) 4).toNat] := by unfold hsN; rw [List.range_succ, List.map_append]; rfl
theorem hsN_lt (hd : Nat → Int) (i : Nat) : ∀ x ∈ hsN hd i, x < 4 := fun x hx => by
  obtain ⟨j, -, rfl⟩ := List.mem_map.1 hx
  have := pkI_bound (hd j) 4 (by decide)
  omega
theorem lowC_snoc (l : List Nat) (d : Nat) : lowC (l ++ [d]) = lowC l ++ [.int .i64 (d : Int)] := by unfold lowC; rw [List.map_append]; rfl
end Go.Proofs.YtnbpdffdnphbeaaGreatDoor
