/- What the program's check tells of a rulebook's lines: the first fault. -/
import Derived.Test.YtnbpdffdnphbeaaGreatCkName2
namespace Go.Proofs.YtnbpdffdnphbeaaGreat
open Go.RowKit

def manyG (ls : List PLine) : Nat → Nat → Option Nat
  | 0, _ => none
  | n + 1, i => if manyP ls i = true then some i else manyG ls n (i + 1)
def errG (ls : List PLine) : Nat → Nat → Option Nat
  | 0, _ => none
  | n + 1, i => if errP ls i = 0 then errG ls n (i + 1) else some i
def ringsP (ls : List PLine) : Int × Int := if ringB (namG (headsB ls) ls gZ) = true then (7, 0) else if ringB (ordG (labsB ls) ls gZ) = true then (7, 1) else (0, 0)
def errsP (ls : List PLine) : Int × Int := match errG ls ls.length 0 with | some i => (errP ls i, (i : Int)) | none => ringsP ls
/-- The program's answer of lines. -/
def checkL (ls : List PLine) : Int × Int := match manyG ls ls.length 0 with | some i => (3, (i : Int)) | none => errsP ls

theorem namG_len (names : List Bs) (ls : List PLine) : ∀ G, (namG names ls G).length = G.length := by
  have hp : ∀ f (S : List PPart) G, (partG names f S G).length = G.length := by
    intro f S; induction S with
    | nil => intro G; rfl
    | cons x r ih => intro G; rw [partG, ih, addG_len]
  have hn : ∀ f (N : List PNode) G, (nodeG names f N G).length = G.length := by
    intro f N; induction N with
    | nil => intro G; rfl
    | cons x r ih => intro G; rw [nodeG, ih]; split
                     · rw [addG_len]
                     · rfl
  induction ls with
  | nil => intro G; rfl
  | cons x r ih => intro G; rw [namG, ih]; split
                   · rw [hn, hp]
                   · rfl
theorem ordG_len (labs : List Bs) (ls : List PLine) : ∀ G, (ordG labs ls G).length = G.length := by
  induction ls with
  | nil => intro G; rfl
  | cons x r ih => intro G; rw [ordG, ih]; split
                   · rw [addG_len]
                   · rfl

abbrev fltO : Obj := .cells #[.int .i64 0, .int .i64 0] 51 (0, 0)
def faultV (x : Int × Int) : Value := .agg #[.int .i64 x.1, .int .i64 x.2]

theorem flt_free {w w1 : World} (hb : Below (w.alloc fltO).heap.size (w.alloc fltO) w1) (k : Nat) : w1.frozen? ⟨w.heap.size, k, none⟩ = false := by
  have h1 : w1.heap[w.heap.size]? = some fltO := by rw [hb.block _ (lt_end _ _)]; exact hb_end _ _
  simp [World.frozen?, h1]
theorem flt_end {w w1 : World} (hb : Below (w.alloc fltO).heap.size (w.alloc fltO) w1) (x y : Value) :
    ((w1.setCell ⟨w.heap.size, 0, none⟩ x).setCell ⟨w.heap.size, 1, none⟩ y).heap[w.heap.size]? = some (.cells #[x, y] 51 (0, 0)) ∧ Below w.heap.size w ((w1.setCell ⟨w.heap.size, 0, none⟩ x).setCell ⟨w.heap.size, 1, none⟩ y) := by
  have h1 : w1.heap[w.heap.size]? = some fltO := by rw [hb.block _ (lt_end _ _)]; exact hb_end _ _
  have h2 : (w1.setCell ⟨w.heap.size, 0, none⟩ x).heap[w.heap.size]? = some (.cells #[x, .int .i64 0] 51 (0, 0)) := by
    rw [setCell_eq_setRow _ _ _ _ _ _ _ h1, setRow_heap _ _ _ _ _ _ h1]; rfl
  refine ⟨?_, ((size_alloc hb).setCell (p := ⟨w.heap.size, 0, none⟩) (Nat.le_refl _) _).setCell (p := ⟨w.heap.size, 1, none⟩) (Nat.le_refl _) _⟩
  rw [setCell_eq_setRow _ _ _ _ _ _ _ h2, setRow_heap _ _ _ _ _ _ h2]; rfl
theorem fltInfo : (Tryz.prog.info? 51).map (·.size) = some 2 := by kernel_rfl

set_option maxRecDepth 100000 in
set_option maxHeartbeats 4000000 in
theorem Lines_s (w : World) (a : Option Addr) (c : Nat) (ls : List LX) (hc : ls.length ≤ c) (h : LinV w a ls) :
    Calls Tryz.prog 18 #[.slice a ls.length c] w fun e w' => e = .returned (faultV (checkL (fs ls))) ∧ Below w.heap.size w w' := by
  have HL := hideP2 h
  have hfew := h.few
  clear h
  go_enter Tryz.func18, Tryz.ntmps18
  go_wp2_with fail
  go_loopw [10] (fun iv wr => ∃ (i : Nat), i ≤ ls.length ∧ iv = .int .i64 i ∧ Hid (Below (w.alloc fltO).heap.size (w.alloc fltO) wr) ∧ Hid (manyG (fs ls) (ls.length - i) i = manyG (fs ls) ls.length 0)) (fun iv _ => ls.length - (intOf iv).toNat)
  case atStart => exact ⟨0, Nat.zero_le _, rfl, hideP2 (Below.refl _ _), hideP2 rfl⟩
  case round =>
    obtain ⟨i, hi, rfl, HB, HE⟩ := hrel
    have HBw : Hid (Below w.heap.size w wr) := size_alloc HB.out
    have q := own_row HB.out
    have hfz := flt_free HB.out
    by_cases hlt : i < ls.length
    · have HC := hideP2 (isTooMany_s wr a c ls i hlt hc (HL.out.below HBw.out (Nat.le_refl _)))
      have hE := HE.out
      rw [show ls.length - i = (ls.length - (i + 1)) + 1 by omega, manyG] at hE
      have HE2 := hideP2 hE
      clear HE hE
      generalize manyP (fs ls) i = z at *
      cases z
      · have HE3 : Hid (manyG (fs ls) (ls.length - (i + 1)) (i + 1) = manyG (fs ls) ls.length 0) := HE2.out
        clear HE2
        go_wp2_with fail
        refine HC.out.mono ?_
        rintro e w1 ⟨rfl, hb1⟩
        have HB1 : Hid (Below (w.alloc fltO).heap.size (w.alloc fltO) w1) := HB.out.trans (hb1.mono HB.out.size)
        clear hb1
        go_wp2_with fail
        go_roundw
        case rel => exact ⟨i + 1, by omega, by go_num, HB1, HE3⟩
        case measure => simp [intOf]; omega
      · have HR : Hid (checkL (fs ls) = (3, (i : Int))) := by
          have : some i = manyG (fs ls) ls.length 0 := HE2.out
          unfold Hid checkL; rw [fs_len, ← this]
        clear HE2
        go_wp2_with fail
        refine HC.out.mono ?_
        rintro e w1 ⟨rfl, hb1⟩
        have HB1 : Hid (Below (w.alloc fltO).heap.size (w.alloc fltO) w1) := HB.out.trans (hb1.mono HB.out.size)
        have q1 := own_row HB1.out
        have hfz1 := flt_free HB1.out
        clear hb1 q hfz
        go_wp2_with fail
        refine bodyPost_ret (v := faultV (3, (i : Int))) (results_cell_row Tryz.results18 _ _ w.heap.size 51 #[.int .i64 3, .int .i64 (i : Int)] (0, 0) _ rfl (flt_end HB1.out _ _).1 Tryz.underlying51 rfl fltInfo) rfl ⟨by rw [HR.out], (flt_end HB1.out _ _).2⟩
    · have HMn : Hid (checkL (fs ls) = errsP (fs ls)) := by
        have := HE.out; rw [show ls.length - i = 0 by omega] at this
        unfold Hid checkL; rw [fs_len, ← this]; rfl
      clear HE q hfz
      obtain ⟨wq, hwq⟩ : ∃ wq, wq = wr := ⟨_, rfl⟩
      subst hwq
      go_wp2_with fail
      go_loopw [21] (fun iv wr => ∃ (i : Nat), i ≤ ls.length ∧ iv = .int .i64 i ∧ Hid (Below (w.alloc fltO).heap.size (w.alloc fltO) wr) ∧ Hid (errG (fs ls) (ls.length - i) i = errG (fs ls) ls.length 0)) (fun iv _ => ls.length - (intOf iv).toNat)
      case atStart => exact ⟨0, Nat.zero_le _, rfl, HB, hideP2 rfl⟩
      case round =>
        obtain ⟨j, hj, rfl, HBj, HEj⟩ := hrel
        have HBv : Hid (Below w.heap.size w wr) := size_alloc HBj.out
        by_cases hltj : j < ls.length
        · have HC := hideP2 (lineError_s wr a c ls j hltj hc (HL.out.below HBv.out (Nat.le_refl _)))
          have hE := HEj.out
          rw [show ls.length - j = (ls.length - (j + 1)) + 1 by omega, errG] at hE
          have HE2 := hideP2 hE
          have HP : Hid (errP (fs ls) j = errP (fs ls) j) := rfl
          clear HEj hE
          by_cases hz : errP (fs ls) j = 0
          · have HE3 : Hid (errG (fs ls) (ls.length - (j + 1)) (j + 1) = errG (fs ls) ls.length 0) := by have := HE2.out; rw [if_pos hz] at this; exact this
            rw [hz] at HC
            clear HE2 hz HP
            go_wp2_with fail
            refine HC.out.mono ?_
            rintro e w1 ⟨rfl, hb1⟩
            have HB1 : Hid (Below (w.alloc fltO).heap.size (w.alloc fltO) w1) := HBj.out.trans (hb1.mono HBj.out.size)
            clear hb1
            go_wp2_with fail
            go_roundw
            case rel => exact ⟨j + 1, by omega, by go_num, HB1, HE3⟩
            case measure => simp [intOf]; omega
          · have HR : Hid (checkL (fs ls) = (errP (fs ls) j, (j : Int))) := by
              have : some j = errG (fs ls) ls.length 0 := by have := HE2.out; rw [if_neg hz] at this; exact this
              unfold Hid; rw [HMn.out, errsP, fs_len, ← this]
            clear HE2 HP
            generalize errP (fs ls) j = er at *
            have be : (er != 0) = true := by simpa using hz
            clear hz
            go_wp2_with fail
            refine HC.out.mono ?_
            rintro e w1 ⟨rfl, hb1⟩
            have HB1 : Hid (Below (w.alloc fltO).heap.size (w.alloc fltO) w1) := HBj.out.trans (hb1.mono HBj.out.size)
            have q1 := own_row HB1.out
            have hfz1 := flt_free HB1.out
            clear hb1
            go_wp2_with fail
            refine bodyPost_ret (v := faultV (er, (j : Int))) (results_cell_row Tryz.results18 _ _ w.heap.size 51 #[.int .i64 er, .int .i64 (j : Int)] (0, 0) _ rfl (flt_end HB1.out _ _).1 Tryz.underlying51 rfl fltInfo) rfl ⟨by rw [HR.out], (flt_end HB1.out _ _).2⟩
        · have HRg : Hid (checkL (fs ls) = ringsP (fs ls)) := by
            have := HEj.out; rw [show ls.length - j = 0 by omega] at this
            unfold Hid; rw [HMn.out, errsP, fs_len, ← this]; rfl
          clear HEj HMn
          have HNm := hideP2 (Naming_s wr a c ls (HL.out.below HBv.out (Nat.le_refl _)))
          have hgl : (namG (headsB (fs ls)) (fs ls) gZ).length = 64 := by rw [namG_len]; exact gZ_len
          have hgl2 : (ordG (labsB (fs ls)) (fs ls) gZ).length = 64 := by rw [ordG_len]; exact gZ_len
          have HOr := hideP2 (fun w' (hb : Below w.heap.size w w') => Order_s w' a c ls (HL.out.below hb (Nat.le_refl _)))
          have HR0 : Hid (checkL (fs ls) = if ringB (namG (headsB (fs ls)) (fs ls) gZ) = true then (7, 0) else if ringB (ordG (labsB (fs ls)) (fs ls) gZ) = true then (7, 1) else (0, 0)) := HRg.out
          have HGL := hideP2 hgl
          have HGL2 := hideP2 hgl2
          clear HRg hgl hgl2
          generalize namG (headsB (fs ls)) (fs ls) gZ = Gn at *
          generalize ordG (labsB (fs ls)) (fs ls) gZ = Go at *
          go_wp2_with fail
          refine HNm.out.mono ?_
          rintro e w2 ⟨rfl, hb2⟩
          have HB2 : Hid (Below (w.alloc fltO).heap.size (w.alloc fltO) w2) := HBj.out.trans (hb2.mono HBj.out.size)
          clear hb2
          go_wp2_with (refine wpList_store_row ?hgd 59 (.tmp 6) (.tmp 34) ?ho w2.heap.size (gC Gn) ?hx ?hy 59 (gC gZ) (hb_end w2 _) (gInfoC HGL.out) ?hold (gC_one Gn) ?_
                       case ho => rfl
                       case hgd => rfl
                       case hx => rfl
                       case hy => rfl
                       case hold => rw [gC_size, gC_size, gZ_len, HGL.out])
          refine (HasRing_s _ w2.heap.size Gn ⟨setRow_heap _ _ (gC gZ) _ _ _ (hb_end w2 _), HGL.out⟩).mono ?_
          rintro e w3 ⟨rfl, hb3⟩
          have HB3 : Hid (Below (w.alloc fltO).heap.size (w.alloc fltO) w3) := by
            have h1 : Below (w.alloc fltO).heap.size (w.alloc fltO) ((w2.alloc (.cells (gC gZ) 59 (0, 0))).setRow w2.heap.size (gC Gn)) := below_row (HB2.out.alloc HB2.out.size _) HB2.out.size _
            exact h1.trans (hb3.mono h1.size)
          have q3 := own_row HB3.out
          have hfz3 := flt_free HB3.out
          clear hb3
          generalize ringB Gn = z1 at *
          cases z1
          · have HR1 : Hid (checkL (fs ls) = if ringB Go = true then (7, 1) else (0, 0)) := by have := HR0.out; rw [if_neg Bool.false_ne_true] at this; exact this
            clear HR0
            go_wp2_with fail
            refine (HOr.out _ (size_alloc HB3.out)).mono ?_
            rintro e w4 ⟨rfl, hb4⟩
            have HB4 : Hid (Below (w.alloc fltO).heap.size (w.alloc fltO) w4) := HB3.out.trans (hb4.mono HB3.out.size)
            clear hb4 q3 hfz3
            go_wp2_with (refine wpList_store_row ?hgd 59 (.tmp 7) (.tmp 38) ?ho w4.heap.size (gC Go) ?hx ?hy 59 (gC gZ) (hb_end w4 _) (gInfoC HGL2.out) ?hold (gC_one Go) ?_
                         case ho => rfl
                         case hgd => rfl
                         case hx => rfl
                         case hy => rfl
                         case hold => rw [gC_size, gC_size, gZ_len, HGL2.out])
            refine (HasRing_s _ w4.heap.size Go ⟨setRow_heap _ _ (gC gZ) _ _ _ (hb_end w4 _), HGL2.out⟩).mono ?_
            rintro e w5 ⟨rfl, hb5⟩
            have HB5 : Hid (Below (w.alloc fltO).heap.size (w.alloc fltO) w5) := by
              have h1 : Below (w.alloc fltO).heap.size (w.alloc fltO) ((w4.alloc (.cells (gC gZ) 59 (0, 0))).setRow w4.heap.size (gC Go)) := below_row (HB4.out.alloc HB4.out.size _) HB4.out.size _
              exact h1.trans (hb5.mono h1.size)
            have q5 := own_row HB5.out
            have hfz5 := flt_free HB5.out
            clear hb5
            generalize ringB Go = z2 at *
            cases z2
            · have HR : Hid (checkL (fs ls) = (0, 0)) := by have := HR1.out; rw [if_neg Bool.false_ne_true] at this; exact this
              clear HR1
              go_wp2_with fail
              refine bodyPost_ret (v := faultV (0, 0)) (results_cell_row Tryz.results18 _ _ w.heap.size 51 #[.int .i64 0, .int .i64 0] (0, 0) _ rfl (flt_end HB5.out _ _).1 Tryz.underlying51 rfl fltInfo) rfl ⟨by rw [HR.out], (flt_end HB5.out _ _).2⟩
            · have HR : Hid (checkL (fs ls) = (7, 1)) := by have := HR1.out; rw [if_pos rfl] at this; exact this
              clear HR1
              go_wp2_with fail
              refine bodyPost_ret (v := faultV (7, 1)) (results_cell_row Tryz.results18 _ _ w.heap.size 51 #[.int .i64 7, .int .i64 1] (0, 0) _ rfl (flt_end HB5.out _ _).1 Tryz.underlying51 rfl fltInfo) rfl ⟨by rw [HR.out], (flt_end HB5.out _ _).2⟩
          · have HR : Hid (checkL (fs ls) = (7, 0)) := by have := HR0.out; rw [if_pos rfl] at this; exact this
            clear HR0
            go_wp2_with fail
            refine bodyPost_ret (v := faultV (7, 0)) (results_cell_row Tryz.results18 _ _ w.heap.size 51 #[.int .i64 7, .int .i64 0] (0, 0) _ rfl (flt_end HB3.out _ _).1 Tryz.underlying51 rfl fltInfo) rfl ⟨by rw [HR.out], (flt_end HB3.out _ _).2⟩
end Go.Proofs.YtnbpdffdnphbeaaGreat
