/- What the program's links draw: an arrow from each conclusion to those that it names, from each rule to those that it is put over. -/
import Derived.Test.YtnbpdffdnphbeaaDoorCkLinks
import Derived.Test.YtnbpdffdnphbeaaDoorCkGraph
import Derived.Test.YtnbpdffdnphbeaaDoorCkMany
namespace Go.Proofs.YtnbpdffdnphbeaaDoor
open Go.RowKit

def ordG (labs : List Bs) : List PLine → List Bool → List Bool
  | [], G => G
  | x :: r, G => ordG labs r (if x.kind = 4 then addG G (findN labs x.name) (findN labs x.lower) else G)
def partG (names : List Bs) (from' : Int) : List PPart → List Bool → List Bool
  | [], G => G
  | x :: r, G => partG names from' r (addG G from' (findN names x.name))
def nodeG (names : List Bs) (from' : Int) : List PNode → List Bool → List Bool
  | [], G => G
  | x :: r, G => nodeG names from' r (if x.kind = 5 then addG G from' (findN names x.name) else G)
def namG (names : List Bs) : List PLine → List Bool → List Bool
  | [], G => G
  | x :: r, G => namG names r (if x.kind = 3 then nodeG names (findN names x.conc) x.nd (partG names (findN names x.conc) x.sum G) else G)
theorem ordG_drop (labs : List Bs) (ls : List PLine) (i : Nat) (G : List Bool) (h : i < ls.length) : ordG labs (ls.drop i) G = ordG labs (ls.drop (i + 1)) (if (lA ls i).kind = 4 then addG G (findN labs (lA ls i).name) (findN labs (lA ls i).lower) else G) := by
  rw [List.drop_eq_getElem_cons h, ordG]; simp [lA, List.getD, h]
theorem namG_drop (names : List Bs) (ls : List PLine) (i : Nat) (G : List Bool) (h : i < ls.length) : namG names (ls.drop i) G = namG names (ls.drop (i + 1)) (if (lA ls i).kind = 3 then nodeG names (findN names (lA ls i).conc) (lA ls i).nd (partG names (findN names (lA ls i).conc) (lA ls i).sum G) else G) := by
  rw [List.drop_eq_getElem_cons h, namG]; simp [lA, List.getD, h]
theorem partG_drop (names : List Bs) (f : Int) (S : List PPart) (i : Nat) (G : List Bool) (h : i < S.length) : partG names f (S.drop i) G = partG names f (S.drop (i + 1)) (addG G f (findN names (xAt S i).name)) := by
  rw [dropX S i h, partG]
theorem nodeG_drop (names : List Bs) (f : Int) (N : List PNode) (i : Nat) (G : List Bool) (h : i < N.length) : nodeG names f (N.drop i) G = nodeG names f (N.drop (i + 1)) (if (nAt N i).kind = 5 then addG G f (findN names (nAt N i).name) else G) := by
  rw [List.drop_eq_getElem_cons h, nodeG]; simp [nAt, List.getD, h]

theorem OnlyG.trans {g : Nat} {a b c : World} (h : OnlyG g a b) (k : OnlyG g b c) : OnlyG g a c :=
  ⟨k.os.trans h.os, k.tape.trans h.tape, k.output.trans h.output, Nat.le_trans h.size k.size, fun i hi hne => (k.block i (Nat.lt_of_lt_of_le hi h.size) hne).trans (h.block i hi hne)⟩
theorem OnlyG.alloc {g : Nat} {a b : World} (h : OnlyG g a b) (o : Obj) : OnlyG g a (b.alloc o) :=
  h.trans ⟨rfl, rfl, rfl, by simp, fun k hk _ => Below.heap_alloc _ _ _ hk⟩
theorem OnlyG.below {g B : Nat} {a b : World} (h : OnlyG g a b) (hB : B ≤ a.heap.size) (hg : B ≤ g) : Below B a b :=
  ⟨h.os, h.tape, h.output, h.size, fun k hk => h.block k (by omega) (by omega)⟩
theorem GrM.new {w : World} {g : Nat} {G : List Bool} (h : GrM w g G) (o : Obj) : GrM (w.alloc o) g G := ⟨hb_new h.1, h.2⟩

/-- Where the links draw: the graph in block g, the result's block, the names. -/
structure LnkM (w wc : World) (g : Nat) (a : Option Addr) (names : List Bs) : Prop where
  res : wc.heap[w.heap.size]? = some (.cells (gC gZ) 78 (0, 0))
  g1 : w.heap.size < g
  lt : g < wc.heap.size
  bel : Below w.heap.size w wc
  str : ∀ w', OnlyG g wc w' → StrV w' a names

theorem LnkM.mk' {w w1 : World} {v : Value} {names : List Bs} {o : Obj} {cs : Array Value} (hz : w1.heap[w.heap.size]? = some (.cells (gC gZ) 78 (0, 0))) (hb : Below w.heap.size w w1) (hs : w.heap.size < w1.heap.size) {B : Nat} (hown : w1.ownsRow B 9 1 v names.length (strC names)) (hf : names.length ≤ 10000) :
    ∃ a c, v = .slice a names.length c ∧ LnkM w ((w1.alloc o).setRow w1.heap.size cs) w1.heap.size a names := by
  obtain ⟨a, c, hv, hstr⟩ := own_str hown hf
  refine ⟨a, c, hv, ⟨hb_row (hb_new hz) (by omega), hs, ?_, below_row (hb.alloc hb.size _) (Nat.le_of_lt hs) _, fun w' ho => ⟨fun h0 => ?_, hf⟩⟩⟩
  · unfold World.setRow; simp
  · obtain ⟨g, e, p⟩ := hstr.blk h0
    refine ⟨g, e, fun i hi => ?_⟩
    have hp := p i hi
    have hg : g < w1.heap.size := by
      rcases Nat.lt_or_ge g w1.heap.size with h1 | h1
      · exact h1
      · rw [World.cell?, Array.getElem?_eq_none (by simpa using h1)] at hp; cases hp
    have e1 : w'.heap[g]? = w1.heap[g]? := by
      rw [ho.block g (by unfold World.setRow; simp; omega) (by omega)]
      unfold World.setRow
      simp only [Array.getElem?_modify]
      rw [if_neg (by omega)]
      exact Below.heap_alloc _ _ _ hg
    simp only [World.cell?, e1] at hp ⊢
    exact hp

set_option maxRecDepth 100000 in
set_option maxHeartbeats 4000000 in
theorem Order_s (w : World) (a : Option Addr) (c : Nat) (ls : List LX) (h : LinV w a ls) :
    Calls Tryd.prog 33 #[.slice a ls.length c] w fun e w' => e = .returned (.agg (gC (ordG (labsB (fs ls)) (fs ls) gZ))) ∧ Below w.heap.size w w' := by
  have HL := hideP2 h
  have hfew := h.few
  have HRL := hideP2 (fun o => ruleLabels_s (w.alloc o) a c ls (h.below ((Below.refl _ _).alloc (Nat.le_refl _) o) (Nat.le_refl _)))
  clear h
  go_enter Tryd.func33, Tryd.ntmps33
  go_wp2_with fail
  refine (HRL.out _).mono ?_
  rintro e w1 ⟨v, rfl, hown, hlen, hb1⟩
  have hz : w1.heap[w.heap.size]? = some (.cells (gC gZ) 78 (0, 0)) := by rw [hb1.block _ (lt_end _ _)]; exact hb_end _ _
  have hs : w.heap.size < w1.heap.size := Nat.lt_of_lt_of_le (lt_end _ _) hb1.size
  have HK := hideP2 (fun o cs => LnkM.mk' (o := o) (cs := cs) hz (size_alloc hb1) hs hown (by omega))
  obtain ⟨la, lc, rfl, _⟩ := HK.out (.cells #[] 0 (0, 0)) #[]
  generalize hlb : labsB (fs ls) = labs at *
  have HLB := hideP2 hlb
  clear hlb
  have HK2 : Hid (∀ o cs, LnkM w ((w1.alloc o).setRow w1.heap.size cs) w1.heap.size la labs) := fun o cs => by
    obtain ⟨a', c', e, p⟩ := HK.out o cs
    simp only [Value.slice.injEq] at e
    rw [e.1]; exact p
  clear hz hown hb1 HK HRL
  go_upto_region 2 with fail
  go_cut [4] from 11 to 11 (fun p4 wx => p4 = .pointer (some ⟨w1.heap.size, 0, none⟩) ∧ Hid (LnkM w wx w1.heap.size la labs) ∧ Hid (GrM wx w1.heap.size gZ))
  case first =>
    go_wp2_with (refine wpList_store_row ?hgd 78 (.tmp 4) (.tmp 11) ?ho w1.heap.size (gC gZ) ?hx ?hy 78 (gC gZ) (hb_end w1 _) (gInfoC gZ_len) rfl (gC_one gZ) ?_
                 case ho => rfl
                 case hgd => rfl
                 case hx => rfl
                 case hy => rfl)
    go_meet
    exact ⟨rfl, hideP2 (HK2.out _ _), hideP2 ⟨setRow_heap _ _ (gC gZ) _ _ _ (hb_end w1 _), gZ_len⟩⟩
  case rest =>
    obtain ⟨rfl, HM, HG0⟩ := hcut
    generalize w1.heap.size = g at *
    clear HK2
    go_wp2_with fail
    go_loopw [14] (fun iv wr => ∃ (i : Nat) (G : List Bool), i ≤ ls.length ∧ iv = .int .i64 i ∧ Hid (OnlyG g wc wr) ∧ Hid (GrM wr g G) ∧ Hid (ordG labs ((fs ls).drop i) G = ordG labs (fs ls) gZ)) (fun iv _ => ls.length - (intOf iv).toNat)
    case atStart => exact ⟨0, gZ, Nat.zero_le _, rfl, hideP2 (OnlyG.refl _ _), HG0, hideP2 rfl⟩
    case round =>
      obtain ⟨i, G, hi, rfl, HO, HG, HE⟩ := hrel
      clear HG0
      have HBw : Hid (Below w.heap.size w wr) := HM.out.bel.trans (HO.out.below HM.out.bel.size (Nat.le_of_lt HM.out.g1))
      by_cases hlt : i < ls.length
      · obtain ⟨gl, sa, sn, sc, na, nn, nc, rfl, hgl, ⟨c0, c1, c2, c3, c4, c5, c6, c7, c8, c9, c10⟩, _, _⟩ := (HL.out.below HBw.out (Nat.le_refl _)).line hlt
        have hE := HE.out
        rw [ordG_drop _ _ i _ (by simpa using hlt), fs_get] at hE
        have HE2 := hideP2 hE
        have HF := hideP2 (fun o nm => find_s (wr.alloc o) la lc labs nm (HM.out.str _ (HO.out.alloc o)))
        have HA := hideP2 (fun o x y => Add_s (wr.alloc o) g G x y (HG.out.new o))
        clear HE hE
        generalize (lAt ls i).1 = x at *
        obtain ⟨kd, n1, lo, hi', cc, S, N, ro, te, de, lw⟩ := x
        simp only at c0 c1 c2 c3 c4 c5 c6 c7 c8 c9 c10
        by_cases k1 : kd = 4
        · have b1 : (kd == 4) = true := by simpa using k1
          have HE3 : Hid (ordG labs ((fs ls).drop (i + 1)) (addG G (findN labs n1) (findN labs lw)) = ordG labs (fs ls) gZ) := by have := HE2.out; rw [if_pos k1] at this; exact this
          clear HE2 k1
          go_wp2_with fail
          refine (HF.out _ n1).mono ?_
          rintro e w2 ⟨rfl, hw⟩; obtain rfl := hw.symm
          go_wp2_with fail
          refine (HF.out _ lw).mono ?_
          rintro e w2 ⟨rfl, hw⟩; obtain rfl := hw.symm
          go_wp2_with fail
          refine (HA.out _ _ _).mono ?_
          rintro e w2 ⟨rfl, hg2, ho2⟩
          have HO2 : Hid (OnlyG g wc w2) := (HO.out.alloc _).trans ho2
          have HG2 := hideP2 hg2
          clear hg2 ho2
          go_wp2_with fail
          go_roundw
          case rel => exact ⟨i + 1, _, by omega, by go_num, HO2, HG2, HE3⟩
          case measure => simp [intOf]; omega
        · have b1 : (kd == 4) = false := by simpa using k1
          have HE3 : Hid (ordG labs ((fs ls).drop (i + 1)) G = ordG labs (fs ls) gZ) := by have := HE2.out; rw [if_neg k1] at this; exact this
          clear HE2 k1
          go_wp2_with fail
          go_roundw
          case rel => exact ⟨i + 1, G, by omega, by go_num, hideP2 (HO.out.alloc _), hideP2 (HG.out.new _), HE3⟩
          case measure => simp [intOf]; omega
      · have HE3 : Hid (G = ordG labs (fs ls) gZ) := by have := HE.out; rw [List.drop_eq_nil_of_le (by simp; omega)] at this; exact this
        have HRs : Hid (wr.heap[w.heap.size]? = some (.cells (gC gZ) 78 (0, 0))) := by
          unfold Hid; rw [HO.out.block _ (Nat.lt_trans HM.out.g1 HM.out.lt) (Nat.ne_of_lt HM.out.g1)]; exact HM.out.res
        clear HE
        go_wp2_with (first
          | (refine wpList_load_row ?hgd 78 (.tmp 4) ?ho g ?hx 78 (gC G) (0, 0) _ HG.out.1 Tryd.underlying78 rfl (gInfoC HG.out.2) ?_
             case ho => rfl
             case hgd => rfl
             case hx => rfl)
          | (refine wpList_store_row ?hgd 78 (.tmp 2) (.tmp 33) ?ho w.heap.size (gC G) ?hx ?hy 78 (gC gZ) HRs.out (gInfoC HG.out.2) ?hold (gC_one G) ?_
             case ho => rfl
             case hgd => rfl
             case hx => rfl
             case hy => rfl
             case hold => rw [gC_size, gC_size, gZ_len, HG.out.2]))
        refine bodyPost_ret (v := .agg (gC G)) (results_cell_row Tryd.results33 _ _ w.heap.size 78 (gC G) (0, 0) _ rfl (setRow_heap _ _ (gC gZ) _ _ _ HRs.out) Tryd.underlying78 rfl (gInfoC HG.out.2)) rfl ⟨by rw [HLB.out, ← HE3.out], below_row HBw.out (Nat.le_refl _) _⟩
end Go.Proofs.YtnbpdffdnphbeaaDoor
