/- What read and Load of the program give of a text, leniently; Make's contract is a premise. -/
import Derived.Test.YtnbpdffdnphbeaaGreatMModC
namespace Go.Proofs.YtnbpdffdnphbeaaGreat
open Go.RowKit

/-- Make's contract. -/
def MakeOk : Prop := ∀ (w : World) (a : Option Addr) (c : Nat) (ls : List LX), LinV w a ls → (∀ x ∈ ls, x.1.nd.length ≤ 10000) → Calls Tryz.prog 30 #[.slice a ls.length c] w fun e w' => MakeIs (fs ls) w w' e
/-- What read answers of a text. -/
def RdAns (l : Bs) (w w' : World) (e : Ending) : Prop := ((chkP l).1 ≠ 0 → e = .returned (.agg (mkC nilS nilS nilS gZ (chkP l).1)) ∧ Below w.heap.size w w') ∧ ((chkP l).1 = 0 → ReadMk (readB l).1 w w' e)

theorem read_is (F : List PLine) (w w' : World) (e : Ending) (I : List MInp) (C : List (Bs × Nat)) (G : List Bool) (iv cv rv : Value) (rs : List MX) (h1 : I = inpsB F) (h2 : C = lvlB F) (h3 : G = chainsB (ordG (labsB F) F gZ)) (h4 : rs.map Prod.fst = rulesB ((inpsB F).map MInp.name) ((lvlB F).map Prod.fst) F) (h5 : ModC w' iv cv rv I C rs) (h6 : Below w.heap.size w w') (h7 : e = .returned (.agg (mkC iv cv rv G 0))) : ReadMk F w w' e := by
  unfold ReadMk
  rw [← h3]
  rw [h1, h2] at h5
  exact ⟨iv, cv, rv, rs, h7, h4, h5, h6⟩
/-- What Make answers, the lines' own lists by names. -/
def MkN (F : List PLine) (I : List MInp) (C : List (Bs × Nat)) (G : List Bool) (w w' : World) (e : Ending) : Prop := ∃ iv cv rv rs, e = .returned (.agg (mdC iv cv rv G)) ∧ rs.map Prod.fst = rulesB ((inpsB F).map MInp.name) ((lvlB F).map Prod.fst) F ∧ ModC w' iv cv rv I C rs ∧ Below w.heap.size w w'
set_option maxRecDepth 100000 in
set_option maxHeartbeats 800000 in
theorem StRead_ok (l : Bs) (w : World) (hl : l.length ≤ 4000) (hf : (readB l).2.2 = false) (hg : ∀ x ∈ (readB l).1, GoodP x) (hm : (readB l).1.length ≤ 10000) (hnd : ∀ x ∈ (readB l).1, x.nd.length ≤ 10000) (hMk : MakeOk) :
    Calls Tryz.prog 19 #[.string ⟨l.toArray⟩] w fun e w' => ((checkL (readB l).1).1 ≠ 0 → e = .returned (.agg (mkC nilS nilS nilS gZ (checkL (readB l).1).1)) ∧ Below w.heap.size w w') ∧ ((checkL (readB l).1).1 = 0 → ReadMk (readB l).1 w w' e) := by
  have HR := hideP2 (fun o => BookRead_any l (w.alloc o) hl)
  have HRI : Hid (∀ w0 w' e, ReadIs w0 w' l e → ∃ lv ls, e = .returned (readV lv 0 0) ∧ ls.map Prod.fst = (readB l).1 ∧ LinesM w' w0.heap.size lv ls) := by
    intro w0 w' e h; unfold ReadIs at h; rw [hf] at h; exact h
  generalize (readB l).1 = F at *
  have HG := hideP2 hg
  have HMn := hideP2 hm
  have HNd := hideP2 hnd
  have HMk := hideP2 hMk
  clear hg hm hf hnd hMk
  generalize hck : checkL F = ck at *
  have HCk := hideP2 hck
  clear hck
  obtain ⟨ck1, ck2⟩ := ck
  simp only
  obtain ⟨G, hG⟩ : ∃ G, G = chainsB (ordG (labsB F) F gZ) := ⟨_, rfl⟩
  obtain ⟨I, hI⟩ : ∃ I, I = inpsB F := ⟨_, rfl⟩
  obtain ⟨C, hC⟩ : ∃ C, C = lvlB F := ⟨_, rfl⟩
  have HGL : Hid (G.length = 64) := by unfold Hid; rw [hG]; unfold chainsB; rw [wA_len, ordG_len]; exact gZ_len
  have HMN : Hid (∀ w' w'' e, MakeIs F w' w'' e → MkN F I C G w' w'' e) := fun w' w'' e h => by unfold MkN; rw [hG, hI, hC]; exact h
  have HRN : Hid (∀ w' e iv cv rv rs, rs.map Prod.fst = rulesB ((inpsB F).map MInp.name) ((lvlB F).map Prod.fst) F → ModC w' iv cv rv I C rs → Below w.heap.size w w' → e = .returned (.agg (mkC iv cv rv G 0)) → ReadMk F w w' e) := fun w' e iv cv rv rs h4 h5 h6 h7 => read_is F w w' e I C G iv cv rv rs hI hC hG h4 h5 h6 h7
  clear hG hI hC
  go_enter Tryz.func19, Tryz.ntmps19
  go_wp2_with fail
  refine (HR.out _).mono ?_
  rintro e w1 ⟨hri, hb⟩
  obtain ⟨lv, ls, rfl, hmap, hlin⟩ := HRI.out _ _ _ hri
  have HZ : Hid (w1.heap[w.heap.size]? = some (mkO nilS nilS nilS gZ 0)) := by unfold Hid mkO; rw [hb.block _ (lt_end _ _), ← mk_zero]; exact hb_end _ _
  have HB : Hid (Below w.heap.size w w1) := ((Below.refl _ _).alloc (Nat.le_refl _) _).trans (hb.mono (Nat.le_of_lt (lt_end _ _)))
  have hs := Nat.lt_of_lt_of_le (lt_end w _) hb.size
  have hLn : ls.length ≤ 10000 := by have h9 := congrArg List.length hmap; rw [List.length_map] at h9; rw [h9]; exact HMn.out
  obtain ⟨la, lc, rfl, hlc, hlv⟩ := lin_of hlin (fun x hx => HG.out _ (by rw [← hmap]; exact List.mem_map.2 ⟨x, hx, rfl⟩)) hLn
  have HCl : Hid (∀ o, Calls Tryz.prog 18 #[.slice la ls.length lc] (w1.alloc o) fun e w' => e = .returned (faultV (ck1, ck2)) ∧ Below (w1.alloc o).heap.size (w1.alloc o) w') := fun o => by
    have := Lines_s (w1.alloc o) la lc ls hlc (hlv.below ((Below.refl _ _).alloc (Nat.le_refl _) o) (Nat.le_refl _))
    rw [show fs ls = F from hmap, HCk.out] at this
    exact this
  have HMk1 : Hid (∀ w', Below w1.heap.size w1 w' → Calls Tryz.prog 30 #[.slice la ls.length lc] w' fun e w'' => MkN F I C G w' w'' e) := fun w' hb' => by
    have := HMk.out w' la lc ls (hlv.below hb' (Nat.le_refl _)) (fun x hx => HNd.out _ (by rw [← hmap]; exact List.mem_map.2 ⟨x, hx, rfl⟩))
    rw [show fs ls = F from hmap] at this
    exact this.mono fun e w'' h => HMN.out _ _ _ h
  clear hb hri hlin hlv hmap HR HRI HG HMn HCk HNd HMk
  unfold readV
  go_wp2_with fail
  refine (HCl.out _).mono ?_
  rintro e w2 ⟨rfl, hb2⟩
  have HZ2 : Hid (∀ o, (w2.alloc o).heap[w.heap.size]? = some (mkO nilS nilS nilS gZ 0)) := fun o => hb_new (by rw [hb2.block _ (by simp; omega)]; exact hb_new HZ.out)
  have HBr : Hid (∀ o, Below w1.heap.size w1 ((w2.alloc o))) := fun o => by
    have h1 := ((Below.refl w1.heap.size w1).alloc (Nat.le_refl _) _).trans (hb2.mono (by simp))
    exact h1.alloc h1.size o
  have q2 : w2.cell? ⟨w1.heap.size, 0, none⟩ = some (.slice la ls.length lc) := by
    rw [hb2.cell (p := ⟨w1.heap.size, 0, none⟩) (lt_end _ _)]; exact (cell_row (hb_end _ _) 0).trans rfl
  have hlt2 : w1.heap.size < w2.heap.size := Nat.lt_of_lt_of_le (lt_end _ _) hb2.size
  have HB2 : Hid (Below w.heap.size w w2) := (HB.out.alloc (Nat.le_of_lt hs) _).trans (hb2.mono (by simp; omega))
  have hs2 := HB2.out.size
  clear HCl hb2
  unfold faultV
  by_cases k0 : ck1 = 0
  · subst k0
    go_wp2_with fail
    refine (HMk1.out _ (HBr.out _)).mono ?_
    rintro e w3 ⟨iv, cv, rv, rs, rfl, hrs, hmc, hb3⟩
    have HZ3 : Hid (w3.heap[w.heap.size]? = some (mkO nilS nilS nilS gZ 0)) := by unfold Hid; rw [hb3.block _ (by simp; omega)]; exact HZ2.out _
    have HB3 : Hid (Below w.heap.size w w3) := (HB2.out.alloc hs2 _).trans (hb3.mono (by simp; omega))
    have HMc := hideP2 hmc
    have HRs := hideP2 hrs
    obtain ⟨o1, o2, o3⟩ := hmc.one
    clear hb3 hmc hrs HMk1
    go_wp2_with (first
      | (refine wpList_buildTo rfl 63 #[(0, .tmp 24)] rfl (some 25) rfl (mkC iv cv rv G 0) (by rw [Array.toList_map]; exact mk_built iv cv rv _ HGL.out) ?_)
      | (refine wpList_store_row ?hgd 63 (.tmp 2) (.tmp 25) ?ho w.heap.size (mkC iv cv rv G 0) ?hx ?hy 63 (mkC nilS nilS nilS gZ 0) HZ3.out (mkInfo HGL.out _ _ _ _) ?hold (mkC_one o1 o2 o3 _ _) ?_
         case ho => rfl
         case hgd => rfl
         case hx => rfl
         case hy => rfl
         case hold => rw [mkC_size, mkC_size, gZ_len, HGL.out]))
    have HFin : Hid (ModC (w3.setRow w.heap.size (mkC iv cv rv G 0)) iv cv rv I C rs) := HMc.out.keepT fun t g cs fz h1 _ hg => setRow_other _ _ _ _ (fun e => by
      subst e
      have h8 := HZ3.out
      unfold mkO at h8
      rw [hg] at h8
      simp only [Option.some.injEq, Obj.cells.injEq] at h8
      exact h1 h8.2.1)
    refine bodyPost_ret (v := .agg (mkC iv cv rv G 0)) (results_cell_row Tryz.results19 _ _ w.heap.size 63 (mkC iv cv rv G 0) (0, 0) _ rfl (setRow_heap _ _ _ _ _ _ HZ3.out) Tryz.underlying63 rfl (mkInfo HGL.out _ _ _ _)) rfl ?_
    exact HRN.out _ _ iv cv rv rs HRs.out HFin.out (below_row HB3.out (Nat.le_refl _) _) rfl
  · have b0 : (ck1 != 0) = true := by simpa using k0
    have HK := hideP2 k0
    clear k0
    go_wp2_with (first
      | (refine wpList_buildTo rfl 63 #[(1, .tmp 20)] rfl (some 21) rfl (mkC nilS nilS nilS gZ ck1) (by rw [Array.toList_map]; exact mk_err ck1) ?_)
      | (refine wpList_store_row ?hgd 63 (.tmp 2) (.tmp 21) ?ho w.heap.size (mkC nilS nilS nilS gZ ck1) ?hx ?hy 63 (mkC nilS nilS nilS gZ 0) (HZ2.out _) (mkInfo gZ_len _ _ _ _) ?hold (mkC_one rfl rfl rfl _ _) ?_
         case ho => rfl
         case hgd => rfl
         case hx => rfl
         case hy => rfl
         case hold => rw [mkC_size, mkC_size]))
    refine bodyPost_ret (v := .agg (mkC nilS nilS nilS gZ ck1)) (results_cell_row Tryz.results19 _ _ w.heap.size 63 (mkC nilS nilS nilS gZ ck1) (0, 0) _ rfl (setRow_heap _ _ _ _ _ _ (HZ2.out _)) Tryz.underlying63 rfl (mkInfo gZ_len _ _ _ _)) rfl ?_
    exact ⟨fun _ => ⟨rfl, below_row (HB2.out.alloc hs2 _) (Nat.le_refl _) _⟩, fun h => absurd h HK.out⟩
end Go.Proofs.YtnbpdffdnphbeaaGreat
