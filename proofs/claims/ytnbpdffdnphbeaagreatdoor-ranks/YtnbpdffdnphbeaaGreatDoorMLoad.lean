/- What Load of the program gives of a text, leniently; Make's contract is a premise. -/
import Derived.Test.YtnbpdffdnphbeaaGreatDoorRkBase
import Derived.Test.YtnbpdffdnphbeaaGreatDoorMMakeN
import Derived.Deep.MidRow
import Derived.BigQuiet
import Derived.Test.YtnbpdffdnphbeaaGreatDoorPure5
import Derived.Test.YtnbpdffdnphbeaaGreatDoorMMake3
namespace Go.Proofs.YtnbpdffdnphbeaaGreatDoor
open Go.RowKit

/-- The cells of what read answers. -/
def mkC (iv cv rv : Value) (G : List Bool) (k : Int) : Array Value := mdC iv cv rv G ++ #[.int .i64 k]
def mkO (iv cv rv : Value) (G : List Bool) (k : Int) : Obj := .cells (mkC iv cv rv G k) 98 (0, 0)
abbrev nilS : Value := .slice none 0 0
theorem mkC_size (iv cv rv : Value) (G : List Bool) (k : Int) : (mkC iv cv rv G k).size = 4 + G.length := by unfold mkC; rw [Array.size_append, mdC_size]; simp; omega
set_option maxRecDepth 100000 in
theorem mk_zero : Tryz.zeroCells98 = mkC nilS nilS nilS gZ 0 := by kernel_rfl
set_option maxRecDepth 100000 in
theorem mk_err (k : Int) : Tryz.prog.built 98 [(1, .int .i64 k)] = some (mkC nilS nilS nilS gZ k) := by kernel_rfl
set_option maxRecDepth 100000 in
theorem mk_built (iv cv rv : Value) (G : List Bool) (h : G.length = 64) : Tryz.prog.built 98 [(0, .agg (mdC iv cv rv G))] = some (mkC iv cv rv G 0) := by
  have key : ∀ b : Nat → Bool, Tryz.prog.built 98 [(0, .agg (mdC iv cv rv ((List.range 64).map b)))] = some (mkC iv cv rv ((List.range 64).map b) 0) := fun b => by kernel_rfl
  rw [range64 G h]; exact key _
theorem mkInfo {G : List Bool} (h : G.length = 64) (iv cv rv : Value) (k : Int) : (Tryz.prog.info? 98).map (·.size) = some (mkC iv cv rv G k).size := by rw [mkC_size, h]; kernel_rfl
theorem mkC_one {iv cv rv : Value} (h0 : iv.oneCell' = true) (h1 : cv.oneCell' = true) (h2 : rv.oneCell' = true) (G : List Bool) (k : Int) : (mkC iv cv rv G k).all (·.oneCell') = true := by
  rw [Array.all_eq_true_iff_forall_mem]
  intro v hv
  unfold mkC at hv
  rcases Array.mem_append.1 hv with h | h
  · exact Array.all_eq_true_iff_forall_mem.1 (mdC_one h0 h1 h2 G) v h
  · simp at h; subst h; rfl
theorem mkC_err {iv cv rv : Value} {G : List Bool} (h : G.length = 64) (k : Int) : (mkC iv cv rv G k)[67]? = some (.int .i64 k) := by
  unfold mkC
  rw [Array.getElem?_append_right (by rw [mdC_size, h]; exact Nat.le_refl _), mdC_size, h]; rfl
/-- What read answers of a text without fault. -/
def ReadMk (F : List PLine) (w w' : World) (e : Ending) : Prop := ∃ iv cv rv rs, e = .returned (.agg (mkC iv cv rv (chainsB (ordG (labsB F) F gZ)) 0)) ∧ rs.map Prod.fst = rulesB ((inpsB F).map MInp.name) ((lvlB F).map Prod.fst) F ∧ ModC w' iv cv rv (inpsB F) (lvlB F) rs ∧ Below w.heap.size w w'
theorem ModC.one {w : World} {iv cv rv : Value} {I : List MInp} {C : List (Bs × Nat)} {rs : List MX} (h : ModC w iv cv rv I C rs) : iv.oneCell' = true ∧ cv.oneCell' = true ∧ rv.oneCell' = true := by
  obtain ⟨a, c, rfl, -⟩ := h.inp
  obtain ⟨a, c, rfl, -⟩ := h.con
  obtain ⟨a, c, rfl, -⟩ := h.rul
  exact ⟨rfl, rfl, rfl⟩
theorem ModC.keepT {w w' : World} {iv cv rv : Value} {I : List MInp} {C : List (Bs × Nat)} {rs : List MX} (h : ModC w iv cv rv I C rs) (hk : ∀ (t : TypeId) (g : Nat) (cs : Array Value) (fz : Nat × Nat), t ≠ 98 → t ≠ 158 → w.heap[g]? = some (Obj.cells cs t fz) → w'.heap[g]? = w.heap[g]?) : ModC w' iv cv rv I C rs := by
  obtain ⟨a1, c1, e1, h1⟩ := h.inp
  obtain ⟨a2, c2, e2, h2⟩ := h.con
  obtain ⟨a3, c3, e3, h3⟩ := h.rul
  refine ⟨⟨a1, c1, e1, h1.keep fun g cs fz hg => hk _ g cs fz (by decide) (by decide) hg⟩, ⟨a2, c2, e2, h2.keep fun g cs fz hg => hk _ g cs fz (by decide) (by decide) hg⟩, ⟨a3, c3, e3, h3.keep fun g cs fz hg => hk _ g cs fz (by decide) (by decide) hg⟩, fun x hx => ?_, h.few1, h.few2, h.few3⟩
  have hm := h.rows x hx
  obtain ⟨a', c', h4, h5⟩ := hm.sum
  obtain ⟨a'', c'', h6, h7⟩ := hm.guard
  exact ⟨⟨a', c', h4, h5.keep fun g cs fz hg => hk _ g cs fz (by decide) (by decide) hg⟩, ⟨a'', c'', h6, h7.keep fun g cs fz hg => hk _ g cs fz (by decide) (by decide) hg⟩, hm.few1, hm.few2⟩
theorem ModC.below {w w' : World} {iv cv rv : Value} {I : List MInp} {C : List (Bs × Nat)} {rs : List MX} (h : ModC w iv cv rv I C rs) (hb : Below w.heap.size w w') : ModC w' iv cv rv I C rs :=
  h.keepT fun _ g _ _ _ _ hg => hb.block g (hlt_of hg)

set_option maxRecDepth 100000 in
set_option maxHeartbeats 2000000 in
theorem StRead_err (l : Bs) (w : World) (k : Int) (hk : k = 1 ∨ k = 2) (p : Int) (hR : ∀ o, Calls Tryz.prog 60 #[.string ⟨l.toArray⟩] (w.alloc o) fun e w' => e = .returned (readV (.slice none 0 0) k p) ∧ Below (w.alloc o).heap.size (w.alloc o) w') :
    Calls Tryz.prog 37 #[.string ⟨l.toArray⟩] w fun e w' => e = .returned (.agg (mkC nilS nilS nilS gZ k)) ∧ Below w.heap.size w w' := by
  have HR := hideP2 hR
  have e1 : (k != 0) = true := by rcases hk with rfl | rfl <;> rfl
  clear hR hk
  go_enter Tryz.func37, Tryz.ntmps37
  go_wp2_with fail
  refine (HR.out _).mono ?_
  rintro e w1 ⟨rfl, hb⟩
  have HZ : Hid (w1.heap[w.heap.size]? = some (mkO nilS nilS nilS gZ 0)) := by unfold Hid mkO; rw [hb.block _ (lt_end _ _), ← mk_zero]; exact hb_end _ _
  have HB : Hid (Below w.heap.size w w1) := ((Below.refl _ _).alloc (Nat.le_refl _) _).trans (hb.mono (Nat.le_of_lt (lt_end _ _)))
  have hs := Nat.lt_of_lt_of_le (lt_end w _) hb.size
  clear hb HR
  unfold readV
  have HZ1 : Hid (∀ o, (w1.alloc o).heap[w.heap.size]? = some (mkO nilS nilS nilS gZ 0)) := fun o => hb_new HZ.out
  go_wp2_with (first
    | (refine wpList_buildTo rfl 98 #[(1, .tmp 11)] rfl (some 12) rfl (mkC nilS nilS nilS gZ k) (by rw [Array.toList_map]; exact mk_err k) ?_)
    | (refine wpList_store_row ?hgd 98 (.tmp 2) (.tmp 12) ?ho w.heap.size (mkC nilS nilS nilS gZ k) ?hx ?hy 98 (mkC nilS nilS nilS gZ 0) (HZ1.out _) (mkInfo gZ_len _ _ _ _) ?hold (mkC_one rfl rfl rfl _ _) ?_
       case ho => rfl
       case hgd => rfl
       case hx => rfl
       case hy => rfl
       case hold => rw [mkC_size, mkC_size]))
  refine bodyPost_ret (v := .agg (mkC nilS nilS nilS gZ k)) (results_cell_row Tryz.results37 _ _ w.heap.size 98 (mkC nilS nilS nilS gZ k) (0, 0) _ rfl (setRow_heap _ _ _ _ _ _ (HZ1.out _)) Tryz.underlying98 rfl (mkInfo gZ_len _ _ _ _)) rfl ⟨rfl, below_row (HB.out.alloc (Nat.le_of_lt hs) _) (Nat.le_refl _) _⟩
end Go.Proofs.YtnbpdffdnphbeaaGreatDoor

/- What read and Load of the program give of a text, leniently; Make's contract is a premise. -/
namespace Go.Proofs.YtnbpdffdnphbeaaGreatDoor
open Go.RowKit

/-- Make's contract. -/
def MakeOk : Prop := ∀ (w : World) (a : Option Addr) (c : Nat) (ls : List LX), LinV w a ls → (∀ x ∈ ls, x.1.nd.length ≤ 10000) → Calls Tryz.prog 69 #[.slice a ls.length c] w fun e w' => MakeIs (fs ls) w w' e
/-- What read answers of a text. -/
def RdAns (l : Bs) (w w' : World) (e : Ending) : Prop := ((chkP l).1 ≠ 0 → e = .returned (.agg (mkC nilS nilS nilS gZ (chkP l).1)) ∧ Below w.heap.size w w') ∧ ((chkP l).1 = 0 → ReadMk (readB l).1 w w' e)

theorem read_is (F : List PLine) (w w' : World) (e : Ending) (I : List MInp) (C : List (Bs × Nat)) (G : List Bool) (iv cv rv : Value) (rs : List MX) (h1 : I = inpsB F) (h2 : C = lvlB F) (h3 : G = chainsB (ordG (labsB F) F gZ)) (h4 : rs.map Prod.fst = rulesB ((inpsB F).map MInp.name) ((lvlB F).map Prod.fst) F) (h5 : ModC w' iv cv rv I C rs) (h6 : Below w.heap.size w w') (h7 : e = .returned (.agg (mkC iv cv rv G 0))) : ReadMk F w w' e := by
  unfold ReadMk
  rw [← h3]
  rw [h1, h2] at h5
  exact ⟨iv, cv, rv, rs, h7, h4, h5, h6⟩
/-- What Make answers, the lines' own lists by names. -/
def MkN (F : List PLine) (I : List MInp) (C : List (Bs × Nat)) (G : List Bool) (w w' : World) (e : Ending) : Prop := ∃ iv cv rv rs, e = .returned (.agg (mdC iv cv rv G)) ∧ rs.map Prod.fst = rulesB ((inpsB F).map MInp.name) ((lvlB F).map Prod.fst) F ∧ ModC w' iv cv rv I C rs ∧ Below w.heap.size w w'
set_option maxRecDepth 100000 in
set_option maxHeartbeats 800000 in
theorem StRead_ok (l : Bs) (w : World) (hl : l.length ≤ 4000) (hf : (readB l).2.2 = false) (hg : ∀ x ∈ (readB l).1, GoodP x) (hm : (readB l).1.length ≤ 10000) (hnd : ∀ x ∈ (readB l).1, x.nd.length ≤ 10000) (hMk : MakeOk) :
    Calls Tryz.prog 37 #[.string ⟨l.toArray⟩] w fun e w' => ((checkL (readB l).1).1 ≠ 0 → e = .returned (.agg (mkC nilS nilS nilS gZ (checkL (readB l).1).1)) ∧ Below w.heap.size w w') ∧ ((checkL (readB l).1).1 = 0 → ReadMk (readB l).1 w w' e) := by
  have HR := hideP2 (fun o => BookRead_any l (w.alloc o) hl)
  have HRI : Hid (∀ w0 w' e, ReadIs w0 w' l e → ∃ lv ls, e = .returned (readV lv 0 0) ∧ ls.map Prod.fst = (readB l).1 ∧ LinesM w' w0.heap.size lv ls) := by
    intro w0 w' e h; unfold ReadIs at h; rw [hf] at h; exact h
  generalize (readB l).1 = F at *
  have HG := hideP2 hg
  have HMn := hideP2 hm
  have HNd := hideP2 hnd
  have HMk := hideP2 hMk
  clear hg hm hf hnd hMk
  generalize hck : checkL F = ck at *
  have HCk := hideP2 hck
  clear hck
  obtain ⟨ck1, ck2⟩ := ck
  simp only
  obtain ⟨G, hG⟩ : ∃ G, G = chainsB (ordG (labsB F) F gZ) := ⟨_, rfl⟩
  obtain ⟨I, hI⟩ : ∃ I, I = inpsB F := ⟨_, rfl⟩
  obtain ⟨C, hC⟩ : ∃ C, C = lvlB F := ⟨_, rfl⟩
  have HGL : Hid (G.length = 64) := by unfold Hid; rw [hG]; unfold chainsB; rw [wA_len, ordG_len]; exact gZ_len
  have HMN : Hid (∀ w' w'' e, MakeIs F w' w'' e → MkN F I C G w' w'' e) := fun w' w'' e h => by unfold MkN; rw [hG, hI, hC]; exact h
  have HRN : Hid (∀ w' e iv cv rv rs, rs.map Prod.fst = rulesB ((inpsB F).map MInp.name) ((lvlB F).map Prod.fst) F → ModC w' iv cv rv I C rs → Below w.heap.size w w' → e = .returned (.agg (mkC iv cv rv G 0)) → ReadMk F w w' e) := fun w' e iv cv rv rs h4 h5 h6 h7 => read_is F w w' e I C G iv cv rv rs hI hC hG h4 h5 h6 h7
  clear hG hI hC
  go_enter Tryz.func37, Tryz.ntmps37
  go_wp2_with fail
  refine (HR.out _).mono ?_
  rintro e w1 ⟨hri, hb⟩
  obtain ⟨lv, ls, rfl, hmap, hlin⟩ := HRI.out _ _ _ hri
  have HZ : Hid (w1.heap[w.heap.size]? = some (mkO nilS nilS nilS gZ 0)) := by unfold Hid mkO; rw [hb.block _ (lt_end _ _), ← mk_zero]; exact hb_end _ _
  have HB : Hid (Below w.heap.size w w1) := ((Below.refl _ _).alloc (Nat.le_refl _) _).trans (hb.mono (Nat.le_of_lt (lt_end _ _)))
  have hs := Nat.lt_of_lt_of_le (lt_end w _) hb.size
  have hLn : ls.length ≤ 10000 := by have h9 := congrArg List.length hmap; rw [List.length_map] at h9; rw [h9]; exact HMn.out
  obtain ⟨la, lc, rfl, hlc, hlv⟩ := lin_of hlin (fun x hx => HG.out _ (by rw [← hmap]; exact List.mem_map.2 ⟨x, hx, rfl⟩)) hLn
  have HCl : Hid (∀ o, Calls Tryz.prog 62 #[.slice la ls.length lc] (w1.alloc o) fun e w' => e = .returned (faultV (ck1, ck2)) ∧ Below (w1.alloc o).heap.size (w1.alloc o) w') := fun o => by
    have := Lines_s (w1.alloc o) la lc ls hlc (hlv.below ((Below.refl _ _).alloc (Nat.le_refl _) o) (Nat.le_refl _))
    rw [show fs ls = F from hmap, HCk.out] at this
    exact this
  have HMk1 : Hid (∀ w', Below w1.heap.size w1 w' → Calls Tryz.prog 69 #[.slice la ls.length lc] w' fun e w'' => MkN F I C G w' w'' e) := fun w' hb' => by
    have := HMk.out w' la lc ls (hlv.below hb' (Nat.le_refl _)) (fun x hx => HNd.out _ (by rw [← hmap]; exact List.mem_map.2 ⟨x, hx, rfl⟩))
    rw [show fs ls = F from hmap] at this
    exact this.mono fun e w'' h => HMN.out _ _ _ h
  clear hb hri hlin hlv hmap HR HRI HG HMn HCk HNd HMk
  unfold readV
  go_wp2_with fail
  refine (HCl.out _).mono ?_
  rintro e w2 ⟨rfl, hb2⟩
  have HZ2 : Hid (∀ o, (w2.alloc o).heap[w.heap.size]? = some (mkO nilS nilS nilS gZ 0)) := fun o => hb_new (by rw [hb2.block _ (by simp; omega)]; exact hb_new HZ.out)
  have HBr : Hid (∀ o, Below w1.heap.size w1 ((w2.alloc o))) := fun o => by
    have h1 := ((Below.refl w1.heap.size w1).alloc (Nat.le_refl _) _).trans (hb2.mono (by simp))
    exact h1.alloc h1.size o
  have q2 : w2.cell? ⟨w1.heap.size, 0, none⟩ = some (.slice la ls.length lc) := by
    rw [hb2.cell (p := ⟨w1.heap.size, 0, none⟩) (lt_end _ _)]; exact (cell_row (hb_end _ _) 0).trans rfl
  have hlt2 : w1.heap.size < w2.heap.size := Nat.lt_of_lt_of_le (lt_end _ _) hb2.size
  have HB2 : Hid (Below w.heap.size w w2) := (HB.out.alloc (Nat.le_of_lt hs) _).trans (hb2.mono (by simp; omega))
  have hs2 := HB2.out.size
  clear HCl hb2
  unfold faultV
  by_cases k0 : ck1 = 0
  · subst k0
    go_wp2_with fail
    refine (HMk1.out _ (HBr.out _)).mono ?_
    rintro e w3 ⟨iv, cv, rv, rs, rfl, hrs, hmc, hb3⟩
    have HZ3 : Hid (w3.heap[w.heap.size]? = some (mkO nilS nilS nilS gZ 0)) := by unfold Hid; rw [hb3.block _ (by simp; omega)]; exact HZ2.out _
    have HB3 : Hid (Below w.heap.size w w3) := (HB2.out.alloc hs2 _).trans (hb3.mono (by simp; omega))
    have HMc := hideP2 hmc
    have HRs := hideP2 hrs
    obtain ⟨o1, o2, o3⟩ := hmc.one
    clear hb3 hmc hrs HMk1
    go_wp2_with (first
      | (refine wpList_buildTo rfl 98 #[(0, .tmp 24)] rfl (some 25) rfl (mkC iv cv rv G 0) (by rw [Array.toList_map]; exact mk_built iv cv rv _ HGL.out) ?_)
      | (refine wpList_store_row ?hgd 98 (.tmp 2) (.tmp 25) ?ho w.heap.size (mkC iv cv rv G 0) ?hx ?hy 98 (mkC nilS nilS nilS gZ 0) HZ3.out (mkInfo HGL.out _ _ _ _) ?hold (mkC_one o1 o2 o3 _ _) ?_
         case ho => rfl
         case hgd => rfl
         case hx => rfl
         case hy => rfl
         case hold => rw [mkC_size, mkC_size, gZ_len, HGL.out]))
    have HFin : Hid (ModC (w3.setRow w.heap.size (mkC iv cv rv G 0)) iv cv rv I C rs) := HMc.out.keepT fun t g cs fz h1 _ hg => setRow_other _ _ _ _ (fun e => by
      subst e
      have h8 := HZ3.out
      unfold mkO at h8
      rw [hg] at h8
      simp only [Option.some.injEq, Obj.cells.injEq] at h8
      exact h1 h8.2.1)
    refine bodyPost_ret (v := .agg (mkC iv cv rv G 0)) (results_cell_row Tryz.results37 _ _ w.heap.size 98 (mkC iv cv rv G 0) (0, 0) _ rfl (setRow_heap _ _ _ _ _ _ HZ3.out) Tryz.underlying98 rfl (mkInfo HGL.out _ _ _ _)) rfl ?_
    exact HRN.out _ _ iv cv rv rs HRs.out HFin.out (below_row HB3.out (Nat.le_refl _) _) rfl
  · have b0 : (ck1 != 0) = true := by simpa using k0
    have HK := hideP2 k0
    clear k0
    go_wp2_with (first
      | (refine wpList_buildTo rfl 98 #[(1, .tmp 20)] rfl (some 21) rfl (mkC nilS nilS nilS gZ ck1) (by rw [Array.toList_map]; exact mk_err ck1) ?_)
      | (refine wpList_store_row ?hgd 98 (.tmp 2) (.tmp 21) ?ho w.heap.size (mkC nilS nilS nilS gZ ck1) ?hx ?hy 98 (mkC nilS nilS nilS gZ 0) (HZ2.out _) (mkInfo gZ_len _ _ _ _) ?hold (mkC_one rfl rfl rfl _ _) ?_
         case ho => rfl
         case hgd => rfl
         case hx => rfl
         case hy => rfl
         case hold => rw [mkC_size, mkC_size]))
    refine bodyPost_ret (v := .agg (mkC nilS nilS nilS gZ ck1)) (results_cell_row Tryz.results37 _ _ w.heap.size 98 (mkC nilS nilS nilS gZ ck1) (0, 0) _ rfl (setRow_heap _ _ _ _ _ _ (HZ2.out _)) Tryz.underlying98 rfl (mkInfo gZ_len _ _ _ _)) rfl ?_
    exact ⟨fun _ => ⟨rfl, below_row (HB2.out.alloc hs2 _) (Nat.le_refl _) _⟩, fun h => absurd h HK.out⟩
end Go.Proofs.YtnbpdffdnphbeaaGreatDoor

/- What Load of the program gives of a text, leniently: a Base just where Check finds no fault; Make's contract is a premise. -/
namespace Go.Proofs.YtnbpdffdnphbeaaGreatDoor
open Go.RowKit

/-- The cells of a loaded Base. -/
def bsC (iv cv rv : Value) (G : List Bool) : Array Value := #[.bool true] ++ mdC iv cv rv G
theorem bsC_get (iv cv rv : Value) (G : List Bool) : (bsC iv cv rv G)[0]? = some (.bool true) ∧ (bsC iv cv rv G)[1]? = some iv ∧ (bsC iv cv rv G)[2]? = some cv ∧ (bsC iv cv rv G)[3]? = some rv ∧ ∀ k, k < G.length → (bsC iv cv rv G)[4 + k]? = some (.bool (G.getD k false)) := by
  unfold bsC
  obtain ⟨h0, h1, h2⟩ := mdC_get iv cv rv G
  refine ⟨?_, ?_, ?_, ?_, fun k hk => ?_⟩
  · rw [Array.getElem?_append_left (by simp)]; rfl
  · rw [Array.getElem?_append_right (by simp)]; exact h0
  · rw [Array.getElem?_append_right (by simp)]; exact h1
  · rw [Array.getElem?_append_right (by simp)]; exact h2
  · rw [Array.getElem?_append_right (by simp; try omega)]
    have := mdC_get3 iv cv rv G k hk
    rw [← this]
    congr 1
    simp; try omega
set_option maxRecDepth 100000 in
theorem bs_built (iv cv rv : Value) (G : List Bool) (h : G.length = 64) : Tryz.prog.built 158 [(0, .bool true), (1, .agg (mdC iv cv rv G))] = some (bsC iv cv rv G) := by
  have key : ∀ b : Nat → Bool, Tryz.prog.built 158 [(0, .bool true), (1, .agg (mdC iv cv rv ((List.range 64).map b)))] = some (bsC iv cv rv ((List.range 64).map b)) := fun b => by kernel_rfl
  rw [range64 G h]; exact key _
/-- A loaded Base lies in memory, whole. -/
structure BaseM (w : World) (b : Nat) (F : List PLine) (rs : List MX) : Prop where
  there : ∃ iv cv rv, w.heap[b]? = some (.cells (bsC iv cv rv (chainsB (ordG (labsB F) F gZ))) 158 (0, 0)) ∧ ModC w iv cv rv (inpsB F) (lvlB F) rs
  rul : rs.map Prod.fst = rulesB ((inpsB F).map MInp.name) ((lvlB F).map Prod.fst) F
theorem BaseM.below {w w' : World} {b : Nat} {F : List PLine} {rs : List MX} (h : BaseM w b F rs) (hb : Below w.heap.size w w') : BaseM w' b F rs := by
  obtain ⟨iv, cv, rv, h1, h2⟩ := h.there
  exact ⟨⟨iv, cv, rv, by rw [hb.block _ (hlt_of h1)]; exact h1, h2.below hb⟩, h.rul⟩
theorem BaseM.base {w : World} {b : Nat} {F : List PLine} {rs : List MX} (h : BaseM w b F rs) : BaseV w b (lvlB F) := by
  obtain ⟨iv, cv, rv, h1, h2⟩ := h.there
  obtain ⟨a, c, e, hc⟩ := h2.con
  obtain ⟨g0, -, g2, -⟩ := bsC_get iv cv rv (chainsB (ordG (labsB F) F gZ))
  refine ⟨(cell_row h1 0).trans g0, a, c, ?_, ?_⟩
  · rw [← e]; exact (cell_row h1 2).trans g2
  · refine ⟨fun h0 => ?_, h2.few2⟩
    rcases hc with hc | ⟨g, cs, fz, ha, hb, hcs⟩
    · exfalso
      have := (lvC_get (lvlB F) 0 h0).1
      rw [hc] at this; simp at this
    · refine ⟨g, ha, fun i hi => ?_⟩
      obtain ⟨p1, p2⟩ := lvC_get (lvlB F) i hi
      have l1 := (List.getElem?_eq_some_iff.1 p1).1
      have l2 := (List.getElem?_eq_some_iff.1 p2).1
      exact ⟨(cell_row hb _).trans ((hcs _ l1).trans p1), (cell_row hb _).trans ((hcs _ l2).trans p2)⟩
/-- What Load of the program gives of a text, leniently: more than LoadIs says. -/
def LoadM (l : Bs) (w w' : World) (e : Ending) : Prop := ∃ pv, e = .returned (.tuple #[pv, .int .i64 (chkP l).1]) ∧ Below w.heap.size w w' ∧ ((chkP l).1 ≠ 0 → pv = .pointer none) ∧ ((chkP l).1 = 0 → ∃ b rs, pv = .pointer (some ⟨b, 0, none⟩) ∧ BaseM w' b (readB l).1 rs)
theorem LoadM.is {l : Bs} {w w' : World} {e : Ending} (h : LoadM l w w' e) : LoadIs l w w' e := by
  obtain ⟨pv, h1, h2, h3, h4⟩ := h
  exact ⟨pv, h1, h2, h3, fun hk => by obtain ⟨b, rs, h5, h6⟩ := h4 hk; exact ⟨b, h5, h6.base⟩⟩

set_option maxRecDepth 100000 in
set_option maxHeartbeats 800000 in
theorem StLoad_bad (l : Bs) (w : World) (k : Int) (hk : k ≠ 0) (hR : Calls Tryz.prog 37 #[.string ⟨l.toArray⟩] w fun e w' => e = .returned (.agg (mkC nilS nilS nilS gZ k)) ∧ Below w.heap.size w w') :
    Calls Tryz.prog 26 #[.string ⟨l.toArray⟩, .bool false] w fun e w' => e = .returned (.tuple #[.pointer none, .int .i64 k]) ∧ Below w.heap.size w w' := by
  have HR := hideP2 hR
  have b0 : (k != 0) = true := by simpa using hk
  clear hR hk
  go_enter Tryz.func26, Tryz.ntmps26
  go_wp2_with fail
  refine HR.out.mono ?_
  rintro e w1 ⟨rfl, hb⟩
  have HB := hideP2 hb
  have hs := hb.size
  clear hb HR
  have HSt : Hid ((w1.alloc (.cells Tryz.zeroCells98 98)).heap[w1.heap.size]? = some (.cells Tryz.zeroCells98 98 (0, 0))) := hb_end _ _
  have hM : ((w1.alloc (.cells Tryz.zeroCells98 98)).setRow w1.heap.size (mkC nilS nilS nilS gZ k)).heap[w1.heap.size]? = some (mkO nilS nilS nilS gZ k) := setRow_heap _ _ _ _ _ _ HSt.out
  have c67 : ((w1.alloc (.cells Tryz.zeroCells98 98)).setRow w1.heap.size (mkC nilS nilS nilS gZ k)).cell? ⟨w1.heap.size, 67, none⟩ = some (.int .i64 k) := by unfold mkO at hM; exact (cell_row hM 67).trans (mkC_err gZ_len k)
  clear hM
  go_wp2_with (refine wpList_store_row ?hgd 98 (.tmp 6) (.tmp 9) ?ho w1.heap.size (mkC nilS nilS nilS gZ k) ?hx ?hy 98 Tryz.zeroCells98 HSt.out (mkInfo gZ_len _ _ _ _) ?hold (mkC_one rfl rfl rfl _ _) ?_
               case ho => rfl
               case hgd => rfl
               case hx => rfl
               case hy => rfl
               case hold => rw [mk_zero, mkC_size, mkC_size])
  go_quiet (fail)
  go_wp2_with fail
  go_ret2
  exact ⟨rfl, below_drewN (below_row (HB.out.alloc hs _) hs _) _⟩

set_option maxRecDepth 100000 in
set_option maxHeartbeats 800000 in
theorem StLoad_good (l : Bs) (w : World) (F : List PLine) (hR : Calls Tryz.prog 37 #[.string ⟨l.toArray⟩] w fun e w' => ReadMk F w w' e) :
    Calls Tryz.prog 26 #[.string ⟨l.toArray⟩, .bool false] w fun e w' => ∃ b, e = .returned (.tuple #[.pointer (some ⟨b, 0, none⟩), .int .i64 0]) ∧ (∃ rs, BaseM w' b F rs) ∧ Below w.heap.size w w' := by
  have HR := hideP2 hR
  clear hR
  obtain ⟨G, hG⟩ : ∃ G, G = chainsB (ordG (labsB F) F gZ) := ⟨_, rfl⟩
  have HGL : Hid (G.length = 64) := by unfold Hid; rw [hG]; unfold chainsB; rw [wA_len, ordG_len]; exact gZ_len
  have HRN : Hid (∀ w' e, ReadMk F w w' e → ∃ iv cv rv rs, e = .returned (.agg (mkC iv cv rv G 0)) ∧ rs.map Prod.fst = rulesB ((inpsB F).map MInp.name) ((lvlB F).map Prod.fst) F ∧ ModC w' iv cv rv (inpsB F) (lvlB F) rs ∧ Below w.heap.size w w') := fun w' e h => by rw [hG]; exact h
  have HBN : Hid (∀ w' b iv cv rv rs, w'.heap[b]? = some (.cells (bsC iv cv rv G) 158 (0, 0)) → rs.map Prod.fst = rulesB ((inpsB F).map MInp.name) ((lvlB F).map Prod.fst) F → ModC w' iv cv rv (inpsB F) (lvlB F) rs → BaseM w' b F rs) := fun w' b iv cv rv rs h1 h2 h3 => ⟨⟨iv, cv, rv, by rw [← hG]; exact h1, h3⟩, h2⟩
  clear hG
  go_enter Tryz.func26, Tryz.ntmps26
  go_wp2_with fail
  refine HR.out.mono ?_
  rintro e w1 hri
  obtain ⟨iv, cv, rv, rs, rfl, hrs, hmc, hb⟩ := HRN.out _ _ hri
  obtain ⟨o1, o2, o3⟩ := hmc.one
  have HB := hideP2 hb
  have HMc := hideP2 hmc
  have HRs := hideP2 hrs
  have hs := hb.size
  clear hb HR hri hmc hrs HRN
  have HSt : Hid ((w1.alloc (.cells Tryz.zeroCells98 98)).heap[w1.heap.size]? = some (.cells Tryz.zeroCells98 98 (0, 0))) := hb_end _ _
  have HM : Hid (((w1.alloc (.cells Tryz.zeroCells98 98)).setRow w1.heap.size (mkC iv cv rv G 0)).heap[w1.heap.size]? = some (mkO iv cv rv G 0)) := setRow_heap _ _ _ _ _ _ HSt.out
  have c67 : ((w1.alloc (.cells Tryz.zeroCells98 98)).setRow w1.heap.size (mkC iv cv rv G 0)).cell? ⟨w1.heap.size, 67, none⟩ = some (.int .i64 0) := by have h8 := HM.out; unfold mkO at h8; exact (cell_row h8 67).trans (mkC_err HGL.out 0)
  have HRg : Hid (((w1.alloc (.cells Tryz.zeroCells98 98)).setRow w1.heap.size (mkC iv cv rv G 0)).rangeAt w1.heap.size 0 (mdC iv cv rv G).toList) := fun j v hv => by
    have h8 := HM.out
    unfold mkO mkC at h8
    have hj : j < (mdC iv cv rv G).size := by have := (List.getElem?_eq_some_iff.1 hv).1; simpa using this
    rw [Nat.zero_add]
    refine (cell_row h8 j).trans ?_
    rw [Array.getElem?_append_left hj]
    rw [← hv, Array.getElem?_toList]
  have HB2 : Hid (∀ o, Below w.heap.size w (((w1.alloc (.cells Tryz.zeroCells98 98)).setRow w1.heap.size (mkC iv cv rv G 0)).alloc o)) := fun o => (below_row (HB.out.alloc hs _) hs _).alloc (by have := (below_row (HB.out.alloc hs (.cells Tryz.zeroCells98 98)) hs (mkC iv cv rv G 0)).size; exact this) o
  have HMc2 : Hid (∀ o, ModC (((w1.alloc (.cells Tryz.zeroCells98 98)).setRow w1.heap.size (mkC iv cv rv G 0)).alloc o) iv cv rv (inpsB F) (lvlB F) rs) := fun o => by
    have h1 : ModC ((w1.alloc (.cells Tryz.zeroCells98 98)).setRow w1.heap.size (mkC iv cv rv G 0)) iv cv rv (inpsB F) (lvlB F) rs := HMc.out.keepT fun t g cs fz _ _ hg => by
      have hgl := hlt_of hg
      rw [setRow_other _ _ _ _ (by omega)]
      exact (Below.heap_alloc w1 _ g hgl)
    exact h1.below ((Below.refl _ _).alloc (Nat.le_refl _) o)
  go_wp2_with (first
    | (refine wpList_store_row ?hgd 98 (.tmp 6) (.tmp 9) ?ho w1.heap.size (mkC iv cv rv G 0) ?hx ?hy 98 Tryz.zeroCells98 HSt.out (mkInfo HGL.out _ _ _ _) ?hold (mkC_one o1 o2 o3 _ _) ?_
       case ho => rfl
       case hgd => rfl
       case hx => rfl
       case hy => rfl
       case hold => rw [mk_zero, mkC_size, mkC_size, gZ_len, HGL.out])
    | (refine wpList_load_mid ?hgd 96 (.tmp 22) ?ho w1.heap.size 0 ?hx (mdC iv cv rv G).toList _ HRg.out Tryz.underlying96 rfl ?hi ?_
       case ho => rfl
       case hgd => rfl
       case hx => rfl
       case hi => rw [Array.length_toList]; exact modInfo HGL.out _ _ _)
    | (refine wpList_buildTo rfl 158 #[(0, .const (.bool true)), (1, .tmp 23)] rfl (some 24) rfl (bsC iv cv rv G) (by rw [Array.toList_map]; exact bs_built iv cv rv G HGL.out) ?_))
  go_ret2
  exact ⟨_, rfl, ⟨rs, HBN.out _ _ iv cv rv rs (hb_endK _ _ _ (by unfold World.setRow; simp)) HRs.out (HMc2.out _)⟩, HB2.out _⟩
end Go.Proofs.YtnbpdffdnphbeaaGreatDoor

/- Plain: a guard that was read has at most twice as many nodes as tokens. -/
namespace Go.Proofs.YtnbpdffdnphbeaaGreatDoor

theorem loopB_nd (P : List PT) (item : GS → Int × GS) (tok : Bs) (kind : Int) (hit : ∀ q, (item q).2.nd.length + 2 * q.s.1 ≤ q.nd.length + 2 * (item q).2.s.1 + 1) (k : Nat) : ∀ l q, (loopB P item tok kind k l q).2.nd.length + 2 * q.s.1 ≤ q.nd.length + 2 * (loopB P item tok kind k l q).2.s.1 := by
  induction k with
  | zero => intro l q; exact Nat.le_refl _
  | succ k ih =>
    intro l q
    have h1 := pSkip_mono P tok q.s
    rw [loopB]
    split
    · show q.nd.length + 2 * q.s.1 ≤ q.nd.length + 2 * (pSkip P tok q.s).2.1; omega
    · rename_i hsk
      have h2 := pSkip_true hsk
      have h3 := ih ((item (q.to (pSkip P tok q.s).2)).2.nd.length : Nat) ((item (q.to (pSkip P tok q.s).2)).2.add ⟨kind, l, (item (q.to (pSkip P tok q.s).2)).1, [], [], [], 0⟩)
      have h4 := hit (q.to (pSkip P tok q.s).2)
      have e1 : (q.to (pSkip P tok q.s).2).s.1 = (pSkip P tok q.s).2.1 := rfl
      have e2 : (q.to (pSkip P tok q.s).2).nd = q.nd := rfl
      have e3 : ((item (q.to (pSkip P tok q.s).2)).2.add ⟨kind, l, (item (q.to (pSkip P tok q.s).2)).1, [], [], [], 0⟩).nd.length = (item (q.to (pSkip P tok q.s).2)).2.nd.length + 1 := by simp [GS.add]
      have e4 : ((item (q.to (pSkip P tok q.s).2)).2.add ⟨kind, l, (item (q.to (pSkip P tok q.s).2)).1, [], [], [], 0⟩).s = (item (q.to (pSkip P tok q.s).2)).2.s := rfl
      rw [e3, e4] at h3
      rw [e1, e2] at h4
      omega
theorem termsW_nd (P : List PT) (fact : GS → Int → Int × GS) (hf : ∀ q d, (fact q d).2.nd.length + 2 * q.s.1 ≤ q.nd.length + 2 * (fact q d).2.s.1 + 1) (q : GS) (d : Int) : (termsW P fact q d).2.nd.length + 2 * q.s.1 ≤ q.nd.length + 2 * (termsW P fact q d).2.s.1 + 1 := by
  have h1 := hf q d
  have h2 := loopB_nd P (fun q => fact q d) kAnd 2 (fun q => hf q d) P.length (fact q d).1 (fact q d).2
  unfold termsW; omega
theorem altW_nd (P : List PT) (fact : GS → Int → Int × GS) (hf : ∀ q d, (fact q d).2.nd.length + 2 * q.s.1 ≤ q.nd.length + 2 * (fact q d).2.s.1 + 1) (q : GS) (d : Int) : (altW P fact q d).2.nd.length + 2 * q.s.1 ≤ q.nd.length + 2 * (altW P fact q d).2.s.1 + 1 := by
  have h1 := termsW_nd P fact hf q d
  have h2 := loopB_nd P (fun q => termsW P fact q d) kOr 1 (fun q => termsW_nd P fact hf q d) P.length (termsW P fact q d).1 (termsW P fact q d).2
  unfold altW; omega
theorem pFact_nd (P : List PT) (n : Nat) : ∀ q d, (pFact P n q d).2.nd.length + 2 * q.s.1 ≤ q.nd.length + 2 * (pFact P n q d).2.s.1 + 1 := by
  induction n with
  | zero => intro q d; exact Nat.le_succ _
  | succ n ih =>
    intro q d
    have h1 := pSkip_mono P kNot q.s
    rw [pFact]
    split
    · rename_i hsk
      have h2 := pSkip_true hsk
      have h3 := ih (q.to (pSkip P kNot q.s).2) (d + 1)
      have e1 : (q.to (pSkip P kNot q.s).2).s.1 = (pSkip P kNot q.s).2.1 := rfl
      have e2 : (q.to (pSkip P kNot q.s).2).nd = q.nd := rfl
      rw [e1, e2] at h3
      show ((pFact P n (q.to (pSkip P kNot q.s).2) (d + 1)).2.nd ++ [_]).length + 2 * q.s.1 ≤ q.nd.length + 2 * (pFact P n (q.to (pSkip P kNot q.s).2) (d + 1)).2.s.1 + 1
      rw [List.length_append, List.length_singleton]
      omega
    · have h2 := pSkip_mono P kOpen (pSkip P kNot q.s).2
      split
      · have h3 := altW_nd P (pFact P n) ih (q.to (pSkip P kOpen (pSkip P kNot q.s).2).2) (d + 1)
        have e1 : (q.to (pSkip P kOpen (pSkip P kNot q.s).2).2).s.1 = (pSkip P kOpen (pSkip P kNot q.s).2).2.1 := rfl
        have e2 : (q.to (pSkip P kOpen (pSkip P kNot q.s).2).2).nd = q.nd := rfl
        rw [e1, e2] at h3
        have h4 := pWant_mono P kShut (altW P (pFact P n) (q.to (pSkip P kOpen (pSkip P kNot q.s).2).2) (d + 1)).2.s
        show (altW P (pFact P n) (q.to (pSkip P kOpen (pSkip P kNot q.s).2).2) (d + 1)).2.nd.length + 2 * q.s.1 ≤ q.nd.length + 2 * (pWant P kShut (altW P (pFact P n) (q.to (pSkip P kOpen (pSkip P kNot q.s).2).2) (d + 1)).2.s).1 + 1
        omega
      · have h3 := pTest_mono P (pSkip P kOpen (pSkip P kNot q.s).2).2
        show (q.nd ++ [_]).length + 2 * q.s.1 ≤ q.nd.length + 2 * (pTest P (pSkip P kOpen (pSkip P kNot q.s).2).2).2.1 + 1
        rw [List.length_append, List.length_singleton]
        omega
theorem pGuard_nd (P : List PT) (s : St) : (pGuard P s).2.nd.length ≤ 2 * (pGuard P s).2.s.1 + 1 := by
  have := altW_nd P (pFact P P.length) (pFact_nd P P.length) ⟨s, [], 0, 0⟩ 0
  have e : (pGuard P s) = altW P (pFact P P.length) ⟨s, [], 0, 0⟩ 0 := rfl
  rw [e]
  simp only [List.length_nil] at this
  omega
theorem pLine_nd (P : List PT) (s : St) : (pLine P s).1.nd.length ≤ 2 * (pLine P s).2.1 + 1 := by
  unfold pLine
  split
  · exact Nat.zero_le _
  · split
    · exact Nat.zero_le _
    · split
      · generalize (pSkip P [114, 117, 108, 101] (pSkip P [102, 108, 97, 103] (pSkip P [110, 117, 109] s).2).2).2 = s3
        have h1 := pGuard_nd P (pWant P kWhen (pSum P (pWant P [61] (pName P (pWant P [58] (pName P s3).2)).2)).2)
        have h2 := pWant_mono P [59] (pGuard P (pWant P kWhen (pSum P (pWant P [61] (pName P (pWant P [58] (pName P s3).2)).2)).2)).2.s
        exact Nat.le_trans h1 (by show _ ≤ 2 * (pWant P [59] (pGuard P (pWant P kWhen (pSum P (pWant P [61] (pName P (pWant P [58] (pName P s3).2)).2)).2)).2.s).1 + 1; omega)
      · exact Nat.zero_le _
theorem lines_nd {ts : Toks} {len : Nat} (hts : TsOk ts) (hlen : ts.length ≤ 4000) (n : Nat) : ∀ (i : Nat) (acc : List PLine), i ≤ ts.length → (∀ x ∈ acc, x.nd.length ≤ 10000) → (pLines (pp ts len) n (i, false) acc).2.2 = false → ∀ x ∈ (pLines (pp ts len) n (i, false) acc).1, x.nd.length ≤ 10000 := by
  induction n with
  | zero => intro i acc _ ha _ x hx; exact ha x hx
  | succ n ih =>
    intro i acc hi ha
    rw [pLines]
    simp only
    by_cases hk : (cur (pp ts len) i).k = 0
    · rw [if_pos hk]; exact fun _ x hx => ha x hx
    · rw [if_neg hk]
      have hi' : i < ts.length := by
        rcases Nat.lt_or_ge i ts.length with h | h
        · exact h
        · exact absurd ((k_end (len := len) hi).2 (by omega)) hk
      have hL := line_sim (len := len) hts hlen hi'
      have hN := pLine_nd (pp ts len) (i, false)
      generalize pLine (pp ts len) (i, false) = r at hL hN ⊢
      obtain ⟨x, ⟨j, f⟩⟩ := r
      rcases hL with ⟨h1, h2⟩ | ⟨h1, h2, h3, _⟩
      · simp only at h1; subst h1
        rw [lines_f]
        intro h; exact absurd (show true = false from h) (by decide)
      · simp only at h1 h2 h3 hN; subst h1
        refine ih j (acc ++ [x]) h3 (fun y hy => ?_)
        rcases List.mem_append.1 hy with h | h
        · exact ha y h
        · rw [List.mem_singleton.1 h]; omega
theorem nd_few {l : Bs} (hl : l.length ≤ 4000) (hf : (readB l).2.2 = false) : ∀ x ∈ (readB l).1, x.nd.length ≤ 10000 := by
  have ht : (toksAt l 0).length ≤ 4000 := Nat.le_trans (toksAt_len l 0) hl
  exact lines_nd (len := l.length) (toksAt_ok l) ht (2 * (toP l).length + 1) 0 [] (Nat.zero_le _) (by simp) hf
end Go.Proofs.YtnbpdffdnphbeaaGreatDoor

/- What Load of the program gives of every text, leniently. -/
namespace Go.Proofs.YtnbpdffdnphbeaaGreatDoor
open Go.RowKit

theorem make_ok : MakeOk := fun w a c ls h hn => Make_s w a c ls h hn
theorem StLoad_lm (l : Bs) (w : World) (hmax : l.length ≤ maxLen) (hg : l.length ≤ 4000 → (readB l).2.2 = false → ∀ x ∈ (readB l).1, GoodP x) (hm : l.length ≤ 4000 → (readB l).1.length ≤ 10000) :
    Calls Tryz.prog 26 #[.string ⟨l.toArray⟩, .bool false] w fun e w' => LoadM l w w' e := by
  have bad : ∀ k : Int, k ≠ 0 → (chkP l).1 = k → Calls Tryz.prog 37 #[.string ⟨l.toArray⟩] w (fun e w' => e = .returned (.agg (mkC nilS nilS nilS gZ k)) ∧ Below w.heap.size w w') → Calls Tryz.prog 26 #[.string ⟨l.toArray⟩, .bool false] w fun e w' => LoadM l w w' e := fun k hk hc hR => by
    refine (StLoad_bad l w k hk hR).mono ?_
    rintro e w' ⟨h1, h2⟩
    exact ⟨.pointer none, by rw [hc]; exact h1, h2, fun _ => rfl, fun h => absurd (hc.symm.trans h) hk⟩
  by_cases hl : 4000 < l.length
  · have ec : chkP l = (1, 0) := by unfold chkP; rw [if_pos hl]
    exact bad 1 (by decide) (by rw [ec]) (StRead_err l w 1 (.inl rfl) 0 (fun o => BookRead_long l (w.alloc o) hmax hl))
  · cases hf : (readB l).2.2
    · have ec : chkP l = checkL (readB l).1 := by unfold chkP; rw [if_neg hl, hf]
      have hR := StRead_ok l w (by omega) hf (hg (by omega) hf) (hm (by omega)) (nd_few (by omega) hf) make_ok
      by_cases hk : (checkL (readB l).1).1 = 0
      · refine (StLoad_good l w (readB l).1 (hR.mono fun e w' h => h.2 hk)).mono ?_
        rintro e w' ⟨b, h1, ⟨rs, h2⟩, h3⟩
        have hc : (chkP l).1 = 0 := by rw [ec]; exact hk
        exact ⟨_, by rw [hc]; exact h1, h3, fun h => absurd hc h, fun _ => ⟨b, rs, rfl, h2⟩⟩
      · exact bad _ hk (by rw [ec]) (hR.mono fun e w' h => h.1 hk)
    · have ec : chkP l = (2, ((cur (toP l) (readB l).2.1).p : Int)) := by unfold chkP; rw [if_neg hl, hf]
      refine bad 2 (by decide) (by rw [ec]) (StRead_err l w 2 (.inr rfl) ((cur (toP l) (readB l).2.1).p : Int) (fun o => (BookRead_any l (w.alloc o) (by omega)).mono ?_))
      rintro e w' ⟨h1, h2⟩
      unfold ReadIs at h1
      rw [hf] at h1
      exact ⟨h1, h2⟩
theorem StLoad_any (l : Bs) (w : World) (hmax : l.length ≤ maxLen) (hg : l.length ≤ 4000 → (readB l).2.2 = false → ∀ x ∈ (readB l).1, GoodP x) (hm : l.length ≤ 4000 → (readB l).1.length ≤ 10000) :
    Calls Tryz.prog 26 #[.string ⟨l.toArray⟩, .bool false] w fun e w' => LoadIs l w w' e :=
  (StLoad_lm l w hmax hg hm).mono fun _ _ h => h.is
end Go.Proofs.YtnbpdffdnphbeaaGreatDoor
