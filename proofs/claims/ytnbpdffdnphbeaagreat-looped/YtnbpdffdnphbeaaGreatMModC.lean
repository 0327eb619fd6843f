/- The rows of the program's model in memory; what Make answers. -/
import Derived.Test.YtnbpdffdnphbeaaGreatMAbv
import Derived.Test.YtnbpdffdnphbeaaGreatMMakeR
import Derived.Great.BuildSlice
import Derived.Test.YtnbpdffdnphbeaaGreatRnkLaw
import Derived.Deep.MidRow
import Derived.BigQuiet
namespace Go.Proofs.YtnbpdffdnphbeaaGreat
open Go.RowKit

theorem md_grown {w w2 : World} {b B : Nat} {ob : Obj} {v : Value} (hg : (w.alloc ob).grownBy w2 v.ownBlock) {x : Obj} (h : w.heap[b]? = some x) (hr : ∀ k, v.ownBlock = some k → B ≤ k) (hB : b < B) : w2.heap[b]? = some x := by
  have hb := hlt_of h
  rw [hg.block b (by simp; omega) (fun e => by have := hr b e.symm; omega)]
  exact hb_new h
theorem grown_ne {w w2 : World} {b : Nat} {v : Value} (hg : w.grownBy w2 v.ownBlock) {x : Obj} (h : w.heap[b]? = some x) (hr : ∀ k, v.ownBlock = some k → k < b) : w2.heap[b]? = some x := by
  rw [hg.block b (hlt_of h) (fun e => by have := hr b e.symm; omega)]; exact h
/-- The rows of a model lie in memory. -/
structure ModC (w : World) (iv cv rv : Value) (I : List MInp) (C : List (Bs × Nat)) (rs : List MX) : Prop where
  inp : ∃ a c, iv = .slice a I.length c ∧ CelT w 131 a (I.flatMap minpC)
  con : ∃ a c, cv = .slice a C.length c ∧ CelT w 128 a (lvC C)
  rul : ∃ a c, rv = .slice a rs.length c ∧ CelT w 95 a (rs.flatMap mruleC)
  rows : ∀ x ∈ rs, MRulC w x
  few1 : I.length ≤ 10000
  few2 : C.length ≤ 10000
  few3 : rs.length ≤ 10000
/-- What Make answers of lines. -/
def MakeIs (F : List PLine) (w w' : World) (e : Ending) : Prop := ∃ iv cv rv rs, e = .returned (.agg (mdC iv cv rv (chainsB (ordG (labsB F) F gZ)))) ∧ rs.map Prod.fst = rulesB ((inpsB F).map MInp.name) ((lvlB F).map Prod.fst) F ∧ ModC w' iv cv rv (inpsB F) (lvlB F) rs ∧ Below w.heap.size w w'
theorem make_is (F : List PLine) (w w' : World) (e : Ending) (I : List MInp) (C : List (Bs × Nat)) (G : List Bool) (iv cv rv : Value) (rs : List MX) (h1 : I = inpsB F) (h2 : C = lvlB F) (h3 : G = chainsB (ordG (labsB F) F gZ)) (h4 : rs.map Prod.fst = rulesB (I.map MInp.name) (C.map Prod.fst) F) (h5 : ModC w' iv cv rv I C rs) (h6 : Below w.heap.size w w') (h7 : e = .returned (.agg (mdC iv cv rv G))) : MakeIs F w w' e := by
  unfold MakeIs
  rw [← h1, ← h2, ← h3]
  exact ⟨iv, cv, rv, rs, h7, h4, h5, h6⟩
theorem infoMRule : (Tryz.prog.info? 95).map (fun i => (i.zero, i.size, i.bytes)) = some (some (.agg #[.string ⟨#[]⟩, .int .i64 0, .slice none 0 0, .slice none 0 0, .int .i64 0]), 5, 80) := by kernel_rfl
theorem celT_step {w4 w5 : World} {A1 A2 : Obj} {rv v : Value} {B n mb : Nat} {ys : List Value} {iv cv rv2 : Value} {G : List Bool} {t : TypeId} {a : Option Addr} {xs : List Value} (h : CelT w4 t a xs) (h1 : t ≠ 95) (h2 : t ≠ 61) (hown : w4.ownsRow B 95 5 rv n ys) (hg : ((w4.alloc A1).alloc A2).grownBy w5 rv.ownBlock) (hM : w5.heap[mb]? = some (mdO iv cv rv2 G)) : CelT (w5.setCell ⟨mb, 2, none⟩ v) t a xs :=
  (((h.below ((Below.refl _ _).alloc (Nat.le_refl _) A1)).below ((Below.refl _ _).alloc (Nat.le_refl _) A2)).grown ((hown.alloc A1).alloc A2) h1 hg).set (by unfold mdO at hM; exact hM) h2
theorem mrul_step {w4 w5 : World} {A1 A2 : Obj} {rv v : Value} {B n mb : Nat} {ys : List Value} {iv cv rv2 : Value} {G : List Bool} {z : MX} (h : MRulC w4 z) (hown : w4.ownsRow B 95 5 rv n ys) (hg : ((w4.alloc A1).alloc A2).grownBy w5 rv.ownBlock) (hM : w5.heap[mb]? = some (mdO iv cv rv2 G)) : MRulC (w5.setCell ⟨mb, 2, none⟩ v) z := by
  obtain ⟨a', c', h1, h2⟩ := h.sum
  obtain ⟨a'', c'', h3, h4⟩ := h.guard
  exact ⟨⟨a', c', h1, celT_step h2 (by decide) (by decide) hown hg hM⟩, ⟨a'', c'', h3, celT_step h4 (by decide) (by decide) hown hg hM⟩, h.few1, h.few2⟩
theorem infoMInp : (Tryz.prog.info? 131).map (fun i => (i.zero, i.size, i.bytes)) = some (some (.agg #[.string ⟨#[]⟩, .bool false, .int .i64 0, .int .i64 0]), 4, 40) := by kernel_rfl
def lvlD (x : Bs × Nat) : List Value := [.string ⟨x.1.toArray⟩, .int .i64 (x.2 : Nat)]
end Go.Proofs.YtnbpdffdnphbeaaGreat

/- What Load of the program gives of a text, leniently; Make's contract is a premise. -/
namespace Go.Proofs.YtnbpdffdnphbeaaGreat
open Go.RowKit

/-- The cells of what read answers. -/
def mkC (iv cv rv : Value) (G : List Bool) (k : Int) : Array Value := mdC iv cv rv G ++ #[.int .i64 k]
def mkO (iv cv rv : Value) (G : List Bool) (k : Int) : Obj := .cells (mkC iv cv rv G k) 63 (0, 0)
abbrev nilS : Value := .slice none 0 0
theorem mkC_size (iv cv rv : Value) (G : List Bool) (k : Int) : (mkC iv cv rv G k).size = 4 + G.length := by unfold mkC; rw [Array.size_append, mdC_size]; simp; omega
set_option maxRecDepth 100000 in
theorem mk_zero : Tryz.zeroCells63 = mkC nilS nilS nilS gZ 0 := by kernel_rfl
set_option maxRecDepth 100000 in
theorem mk_err (k : Int) : Tryz.prog.built 63 [(1, .int .i64 k)] = some (mkC nilS nilS nilS gZ k) := by kernel_rfl
set_option maxRecDepth 100000 in
theorem mk_built (iv cv rv : Value) (G : List Bool) (h : G.length = 64) : Tryz.prog.built 63 [(0, .agg (mdC iv cv rv G))] = some (mkC iv cv rv G 0) := by
  have key : ∀ b : Nat → Bool, Tryz.prog.built 63 [(0, .agg (mdC iv cv rv ((List.range 64).map b)))] = some (mkC iv cv rv ((List.range 64).map b) 0) := fun b => by kernel_rfl
  rw [range64 G h]; exact key _
theorem mkInfo {G : List Bool} (h : G.length = 64) (iv cv rv : Value) (k : Int) : (Tryz.prog.info? 63).map (·.size) = some (mkC iv cv rv G k).size := by rw [mkC_size, h]; kernel_rfl
theorem mkC_one {iv cv rv : Value} (h0 : iv.oneCell' = true) (h1 : cv.oneCell' = true) (h2 : rv.oneCell' = true) (G : List Bool) (k : Int) : (mkC iv cv rv G k).all (·.oneCell') = true := by
  rw [Array.all_eq_true_iff_forall_mem]
  intro v hv
  unfold mkC at hv
  rcases Array.mem_append.1 hv with h | h
  · exact Array.all_eq_true_iff_forall_mem.1 (mdC_one h0 h1 h2 G) v h
  · simp at h; subst h; rfl
theorem mkC_err {iv cv rv : Value} {G : List Bool} (h : G.length = 64) (k : Int) : (mkC iv cv rv G k)[67]? = some (.int .i64 k) := by
  unfold mkC
  rw [Array.getElem?_append_right (by rw [mdC_size, h]; exact Nat.le_refl _), mdC_size, h]; rfl
/-- What read answers of a text without fault. -/
def ReadMk (F : List PLine) (w w' : World) (e : Ending) : Prop := ∃ iv cv rv rs, e = .returned (.agg (mkC iv cv rv (chainsB (ordG (labsB F) F gZ)) 0)) ∧ rs.map Prod.fst = rulesB ((inpsB F).map MInp.name) ((lvlB F).map Prod.fst) F ∧ ModC w' iv cv rv (inpsB F) (lvlB F) rs ∧ Below w.heap.size w w'
theorem ModC.one {w : World} {iv cv rv : Value} {I : List MInp} {C : List (Bs × Nat)} {rs : List MX} (h : ModC w iv cv rv I C rs) : iv.oneCell' = true ∧ cv.oneCell' = true ∧ rv.oneCell' = true := by
  obtain ⟨a, c, rfl, -⟩ := h.inp
  obtain ⟨a, c, rfl, -⟩ := h.con
  obtain ⟨a, c, rfl, -⟩ := h.rul
  exact ⟨rfl, rfl, rfl⟩
theorem ModC.keepT {w w' : World} {iv cv rv : Value} {I : List MInp} {C : List (Bs × Nat)} {rs : List MX} (h : ModC w iv cv rv I C rs) (hk : ∀ (t : TypeId) (g : Nat) (cs : Array Value) (fz : Nat × Nat), t ≠ 63 → t ≠ 71 → w.heap[g]? = some (Obj.cells cs t fz) → w'.heap[g]? = w.heap[g]?) : ModC w' iv cv rv I C rs := by
  obtain ⟨a1, c1, e1, h1⟩ := h.inp
  obtain ⟨a2, c2, e2, h2⟩ := h.con
  obtain ⟨a3, c3, e3, h3⟩ := h.rul
  refine ⟨⟨a1, c1, e1, h1.keep fun g cs fz hg => hk _ g cs fz (by decide) (by decide) hg⟩, ⟨a2, c2, e2, h2.keep fun g cs fz hg => hk _ g cs fz (by decide) (by decide) hg⟩, ⟨a3, c3, e3, h3.keep fun g cs fz hg => hk _ g cs fz (by decide) (by decide) hg⟩, fun x hx => ?_, h.few1, h.few2, h.few3⟩
  have hm := h.rows x hx
  obtain ⟨a', c', h4, h5⟩ := hm.sum
  obtain ⟨a'', c'', h6, h7⟩ := hm.guard
  exact ⟨⟨a', c', h4, h5.keep fun g cs fz hg => hk _ g cs fz (by decide) (by decide) hg⟩, ⟨a'', c'', h6, h7.keep fun g cs fz hg => hk _ g cs fz (by decide) (by decide) hg⟩, hm.few1, hm.few2⟩
theorem ModC.below {w w' : World} {iv cv rv : Value} {I : List MInp} {C : List (Bs × Nat)} {rs : List MX} (h : ModC w iv cv rv I C rs) (hb : Below w.heap.size w w') : ModC w' iv cv rv I C rs :=
  h.keepT fun _ g _ _ _ _ hg => hb.block g (hlt_of hg)

set_option maxRecDepth 100000 in
set_option maxHeartbeats 2000000 in
theorem StRead_err (l : Bs) (w : World) (k : Int) (hk : k = 1 ∨ k = 2) (p : Int) (hR : ∀ o, Calls Tryz.prog 17 #[.string ⟨l.toArray⟩] (w.alloc o) fun e w' => e = .returned (readV (.slice none 0 0) k p) ∧ Below (w.alloc o).heap.size (w.alloc o) w') :
    Calls Tryz.prog 19 #[.string ⟨l.toArray⟩] w fun e w' => e = .returned (.agg (mkC nilS nilS nilS gZ k)) ∧ Below w.heap.size w w' := by
  have HR := hideP2 hR
  have e1 : (k != 0) = true := by rcases hk with rfl | rfl <;> rfl
  clear hR hk
  go_enter Tryz.func19, Tryz.ntmps19
  go_wp2_with fail
  refine (HR.out _).mono ?_
  rintro e w1 ⟨rfl, hb⟩
  have HZ : Hid (w1.heap[w.heap.size]? = some (mkO nilS nilS nilS gZ 0)) := by unfold Hid mkO; rw [hb.block _ (lt_end _ _), ← mk_zero]; exact hb_end _ _
  have HB : Hid (Below w.heap.size w w1) := ((Below.refl _ _).alloc (Nat.le_refl _) _).trans (hb.mono (Nat.le_of_lt (lt_end _ _)))
  have hs := Nat.lt_of_lt_of_le (lt_end w _) hb.size
  clear hb HR
  unfold readV
  have HZ1 : Hid (∀ o, (w1.alloc o).heap[w.heap.size]? = some (mkO nilS nilS nilS gZ 0)) := fun o => hb_new HZ.out
  go_wp2_with (first
    | (refine wpList_buildTo rfl 63 #[(1, .tmp 11)] rfl (some 12) rfl (mkC nilS nilS nilS gZ k) (by rw [Array.toList_map]; exact mk_err k) ?_)
    | (refine wpList_store_row ?hgd 63 (.tmp 2) (.tmp 12) ?ho w.heap.size (mkC nilS nilS nilS gZ k) ?hx ?hy 63 (mkC nilS nilS nilS gZ 0) (HZ1.out _) (mkInfo gZ_len _ _ _ _) ?hold (mkC_one rfl rfl rfl _ _) ?_
       case ho => rfl
       case hgd => rfl
       case hx => rfl
       case hy => rfl
       case hold => rw [mkC_size, mkC_size]))
  refine bodyPost_ret (v := .agg (mkC nilS nilS nilS gZ k)) (results_cell_row Tryz.results19 _ _ w.heap.size 63 (mkC nilS nilS nilS gZ k) (0, 0) _ rfl (setRow_heap _ _ _ _ _ _ (HZ1.out _)) Tryz.underlying63 rfl (mkInfo gZ_len _ _ _ _)) rfl ⟨rfl, below_row (HB.out.alloc (Nat.le_of_lt hs) _) (Nat.le_refl _) _⟩
end Go.Proofs.YtnbpdffdnphbeaaGreat
