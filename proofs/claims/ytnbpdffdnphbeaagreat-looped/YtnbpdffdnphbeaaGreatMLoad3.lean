/- What Load of the program gives of a text, leniently: a Base just where Check finds no fault; Make's contract is a premise. -/
import Derived.Test.YtnbpdffdnphbeaaGreatMLoad2
namespace Go.Proofs.YtnbpdffdnphbeaaGreat
open Go.RowKit

/-- The cells of a loaded Base. -/
def bsC (iv cv rv : Value) (G : List Bool) : Array Value := #[.bool true] ++ mdC iv cv rv G
theorem bsC_get (iv cv rv : Value) (G : List Bool) : (bsC iv cv rv G)[0]? = some (.bool true) ∧ (bsC iv cv rv G)[1]? = some iv ∧ (bsC iv cv rv G)[2]? = some cv ∧ (bsC iv cv rv G)[3]? = some rv ∧ ∀ k, k < G.length → (bsC iv cv rv G)[4 + k]? = some (.bool (G.getD k false)) := by
  unfold bsC
  obtain ⟨h0, h1, h2⟩ := mdC_get iv cv rv G
  refine ⟨?_, ?_, ?_, ?_, fun k hk => ?_⟩
  · rw [Array.getElem?_append_left (by simp)]; rfl
  · rw [Array.getElem?_append_right (by simp)]; exact h0
  · rw [Array.getElem?_append_right (by simp)]; exact h1
  · rw [Array.getElem?_append_right (by simp)]; exact h2
  · rw [Array.getElem?_append_right (by simp; try omega)]
    have := mdC_get3 iv cv rv G k hk
    rw [← this]
    congr 1
    simp; try omega
set_option maxRecDepth 100000 in
theorem bs_built (iv cv rv : Value) (G : List Bool) (h : G.length = 64) : Tryz.prog.built 71 [(0, .bool true), (1, .agg (mdC iv cv rv G))] = some (bsC iv cv rv G) := by
  have key : ∀ b : Nat → Bool, Tryz.prog.built 71 [(0, .bool true), (1, .agg (mdC iv cv rv ((List.range 64).map b)))] = some (bsC iv cv rv ((List.range 64).map b)) := fun b => by kernel_rfl
  rw [range64 G h]; exact key _
/-- A loaded Base lies in memory, whole. -/
structure BaseM (w : World) (b : Nat) (F : List PLine) (rs : List MX) : Prop where
  there : ∃ iv cv rv, w.heap[b]? = some (.cells (bsC iv cv rv (chainsB (ordG (labsB F) F gZ))) 71 (0, 0)) ∧ ModC w iv cv rv (inpsB F) (lvlB F) rs
  rul : rs.map Prod.fst = rulesB ((inpsB F).map MInp.name) ((lvlB F).map Prod.fst) F
theorem BaseM.below {w w' : World} {b : Nat} {F : List PLine} {rs : List MX} (h : BaseM w b F rs) (hb : Below w.heap.size w w') : BaseM w' b F rs := by
  obtain ⟨iv, cv, rv, h1, h2⟩ := h.there
  exact ⟨⟨iv, cv, rv, by rw [hb.block _ (hlt_of h1)]; exact h1, h2.below hb⟩, h.rul⟩
theorem BaseM.base {w : World} {b : Nat} {F : List PLine} {rs : List MX} (h : BaseM w b F rs) : BaseV w b (lvlB F) := by
  obtain ⟨iv, cv, rv, h1, h2⟩ := h.there
  obtain ⟨a, c, e, hc⟩ := h2.con
  obtain ⟨g0, -, g2, -⟩ := bsC_get iv cv rv (chainsB (ordG (labsB F) F gZ))
  refine ⟨(cell_row h1 0).trans g0, a, c, ?_, ?_⟩
  · rw [← e]; exact (cell_row h1 2).trans g2
  · refine ⟨fun h0 => ?_, h2.few2⟩
    rcases hc with hc | ⟨g, cs, fz, ha, hb, hcs⟩
    · exfalso
      have := (lvC_get (lvlB F) 0 h0).1
      rw [hc] at this; simp at this
    · refine ⟨g, ha, fun i hi => ?_⟩
      obtain ⟨p1, p2⟩ := lvC_get (lvlB F) i hi
      have l1 := (List.getElem?_eq_some_iff.1 p1).1
      have l2 := (List.getElem?_eq_some_iff.1 p2).1
      exact ⟨(cell_row hb _).trans ((hcs _ l1).trans p1), (cell_row hb _).trans ((hcs _ l2).trans p2)⟩
/-- What Load of the program gives of a text, leniently: more than LoadIs says. -/
def LoadM (l : Bs) (w w' : World) (e : Ending) : Prop := ∃ pv, e = .returned (.tuple #[pv, .int .i64 (chkP l).1]) ∧ Below w.heap.size w w' ∧ ((chkP l).1 ≠ 0 → pv = .pointer none) ∧ ((chkP l).1 = 0 → ∃ b rs, pv = .pointer (some ⟨b, 0, none⟩) ∧ BaseM w' b (readB l).1 rs)
theorem LoadM.is {l : Bs} {w w' : World} {e : Ending} (h : LoadM l w w' e) : LoadIs l w w' e := by
  obtain ⟨pv, h1, h2, h3, h4⟩ := h
  exact ⟨pv, h1, h2, h3, fun hk => by obtain ⟨b, rs, h5, h6⟩ := h4 hk; exact ⟨b, h5, h6.base⟩⟩

set_option maxRecDepth 100000 in
set_option maxHeartbeats 800000 in
theorem StLoad_bad (l : Bs) (w : World) (k : Int) (hk : k ≠ 0) (hR : Calls Tryz.prog 19 #[.string ⟨l.toArray⟩] w fun e w' => e = .returned (.agg (mkC nilS nilS nilS gZ k)) ∧ Below w.heap.size w w') :
    Calls Tryz.prog 13 #[.string ⟨l.toArray⟩, .bool false] w fun e w' => e = .returned (.tuple #[.pointer none, .int .i64 k]) ∧ Below w.heap.size w w' := by
  have HR := hideP2 hR
  have b0 : (k != 0) = true := by simpa using hk
  clear hR hk
  go_enter Tryz.func13, Tryz.ntmps13
  go_wp2_with fail
  refine HR.out.mono ?_
  rintro e w1 ⟨rfl, hb⟩
  have HB := hideP2 hb
  have hs := hb.size
  clear hb HR
  have HSt : Hid ((w1.alloc (.cells Tryz.zeroCells63 63)).heap[w1.heap.size]? = some (.cells Tryz.zeroCells63 63 (0, 0))) := hb_end _ _
  have hM : ((w1.alloc (.cells Tryz.zeroCells63 63)).setRow w1.heap.size (mkC nilS nilS nilS gZ k)).heap[w1.heap.size]? = some (mkO nilS nilS nilS gZ k) := setRow_heap _ _ _ _ _ _ HSt.out
  have c67 : ((w1.alloc (.cells Tryz.zeroCells63 63)).setRow w1.heap.size (mkC nilS nilS nilS gZ k)).cell? ⟨w1.heap.size, 67, none⟩ = some (.int .i64 k) := by unfold mkO at hM; exact (cell_row hM 67).trans (mkC_err gZ_len k)
  clear hM
  go_wp2_with (refine wpList_store_row ?hgd 63 (.tmp 6) (.tmp 9) ?ho w1.heap.size (mkC nilS nilS nilS gZ k) ?hx ?hy 63 Tryz.zeroCells63 HSt.out (mkInfo gZ_len _ _ _ _) ?hold (mkC_one rfl rfl rfl _ _) ?_
               case ho => rfl
               case hgd => rfl
               case hx => rfl
               case hy => rfl
               case hold => rw [mk_zero, mkC_size, mkC_size])
  go_quiet (fail)
  go_wp2_with fail
  go_ret2
  exact ⟨rfl, below_drewN (below_row (HB.out.alloc hs _) hs _) _⟩

set_option maxRecDepth 100000 in
set_option maxHeartbeats 800000 in
theorem StLoad_good (l : Bs) (w : World) (F : List PLine) (hR : Calls Tryz.prog 19 #[.string ⟨l.toArray⟩] w fun e w' => ReadMk F w w' e) :
    Calls Tryz.prog 13 #[.string ⟨l.toArray⟩, .bool false] w fun e w' => ∃ b, e = .returned (.tuple #[.pointer (some ⟨b, 0, none⟩), .int .i64 0]) ∧ (∃ rs, BaseM w' b F rs) ∧ Below w.heap.size w w' := by
  have HR := hideP2 hR
  clear hR
  obtain ⟨G, hG⟩ : ∃ G, G = chainsB (ordG (labsB F) F gZ) := ⟨_, rfl⟩
  have HGL : Hid (G.length = 64) := by unfold Hid; rw [hG]; unfold chainsB; rw [wA_len, ordG_len]; exact gZ_len
  have HRN : Hid (∀ w' e, ReadMk F w w' e → ∃ iv cv rv rs, e = .returned (.agg (mkC iv cv rv G 0)) ∧ rs.map Prod.fst = rulesB ((inpsB F).map MInp.name) ((lvlB F).map Prod.fst) F ∧ ModC w' iv cv rv (inpsB F) (lvlB F) rs ∧ Below w.heap.size w w') := fun w' e h => by rw [hG]; exact h
  have HBN : Hid (∀ w' b iv cv rv rs, w'.heap[b]? = some (.cells (bsC iv cv rv G) 71 (0, 0)) → rs.map Prod.fst = rulesB ((inpsB F).map MInp.name) ((lvlB F).map Prod.fst) F → ModC w' iv cv rv (inpsB F) (lvlB F) rs → BaseM w' b F rs) := fun w' b iv cv rv rs h1 h2 h3 => ⟨⟨iv, cv, rv, by rw [← hG]; exact h1, h3⟩, h2⟩
  clear hG
  go_enter Tryz.func13, Tryz.ntmps13
  go_wp2_with fail
  refine HR.out.mono ?_
  rintro e w1 hri
  obtain ⟨iv, cv, rv, rs, rfl, hrs, hmc, hb⟩ := HRN.out _ _ hri
  obtain ⟨o1, o2, o3⟩ := hmc.one
  have HB := hideP2 hb
  have HMc := hideP2 hmc
  have HRs := hideP2 hrs
  have hs := hb.size
  clear hb HR hri hmc hrs HRN
  have HSt : Hid ((w1.alloc (.cells Tryz.zeroCells63 63)).heap[w1.heap.size]? = some (.cells Tryz.zeroCells63 63 (0, 0))) := hb_end _ _
  have HM : Hid (((w1.alloc (.cells Tryz.zeroCells63 63)).setRow w1.heap.size (mkC iv cv rv G 0)).heap[w1.heap.size]? = some (mkO iv cv rv G 0)) := setRow_heap _ _ _ _ _ _ HSt.out
  have c67 : ((w1.alloc (.cells Tryz.zeroCells63 63)).setRow w1.heap.size (mkC iv cv rv G 0)).cell? ⟨w1.heap.size, 67, none⟩ = some (.int .i64 0) := by have h8 := HM.out; unfold mkO at h8; exact (cell_row h8 67).trans (mkC_err HGL.out 0)
  have HRg : Hid (((w1.alloc (.cells Tryz.zeroCells63 63)).setRow w1.heap.size (mkC iv cv rv G 0)).rangeAt w1.heap.size 0 (mdC iv cv rv G).toList) := fun j v hv => by
    have h8 := HM.out
    unfold mkO mkC at h8
    have hj : j < (mdC iv cv rv G).size := by have := (List.getElem?_eq_some_iff.1 hv).1; simpa using this
    rw [Nat.zero_add]
    refine (cell_row h8 j).trans ?_
    rw [Array.getElem?_append_left hj]
    rw [← hv, Array.getElem?_toList]
  have HB2 : Hid (∀ o, Below w.heap.size w (((w1.alloc (.cells Tryz.zeroCells63 63)).setRow w1.heap.size (mkC iv cv rv G 0)).alloc o)) := fun o => (below_row (HB.out.alloc hs _) hs _).alloc (by have := (below_row (HB.out.alloc hs (.cells Tryz.zeroCells63 63)) hs (mkC iv cv rv G 0)).size; exact this) o
  have HMc2 : Hid (∀ o, ModC (((w1.alloc (.cells Tryz.zeroCells63 63)).setRow w1.heap.size (mkC iv cv rv G 0)).alloc o) iv cv rv (inpsB F) (lvlB F) rs) := fun o => by
    have h1 : ModC ((w1.alloc (.cells Tryz.zeroCells63 63)).setRow w1.heap.size (mkC iv cv rv G 0)) iv cv rv (inpsB F) (lvlB F) rs := HMc.out.keepT fun t g cs fz _ _ hg => by
      have hgl := hlt_of hg
      rw [setRow_other _ _ _ _ (by omega)]
      exact (Below.heap_alloc w1 _ g hgl)
    exact h1.below ((Below.refl _ _).alloc (Nat.le_refl _) o)
  go_wp2_with (first
    | (refine wpList_store_row ?hgd 63 (.tmp 6) (.tmp 9) ?ho w1.heap.size (mkC iv cv rv G 0) ?hx ?hy 63 Tryz.zeroCells63 HSt.out (mkInfo HGL.out _ _ _ _) ?hold (mkC_one o1 o2 o3 _ _) ?_
       case ho => rfl
       case hgd => rfl
       case hx => rfl
       case hy => rfl
       case hold => rw [mk_zero, mkC_size, mkC_size, gZ_len, HGL.out])
    | (refine wpList_load_mid ?hgd 61 (.tmp 22) ?ho w1.heap.size 0 ?hx (mdC iv cv rv G).toList _ HRg.out Tryz.underlying61 rfl ?hi ?_
       case ho => rfl
       case hgd => rfl
       case hx => rfl
       case hi => rw [Array.length_toList]; exact modInfo HGL.out _ _ _)
    | (refine wpList_buildTo rfl 71 #[(0, .const (.bool true)), (1, .tmp 23)] rfl (some 24) rfl (bsC iv cv rv G) (by rw [Array.toList_map]; exact bs_built iv cv rv G HGL.out) ?_))
  go_ret2
  exact ⟨_, rfl, ⟨rs, HBN.out _ _ iv cv rv rs (hb_endK _ _ _ (by unfold World.setRow; simp)) HRs.out (HMc2.out _)⟩, HB2.out _⟩
end Go.Proofs.YtnbpdffdnphbeaaGreat
