/- What the program's links draw: an arrow from each conclusion to those that it names, from each rule to those that it is put over. -/
import Derived.Test.YtnbpdffdnphbeaaGreatCkLinks
import Derived.Test.YtnbpdffdnphbeaaGreatCkGraph
import Derived.Test.YtnbpdffdnphbeaaGreatCkMany
import Derived.Test.YtnbpdffdnphbeaaGreatCkLines2
import Derived.BigQuiet
namespace Go.Proofs.YtnbpdffdnphbeaaGreat
open Go.RowKit

def ordG (labs : List Bs) : List PLine → List Bool → List Bool
  | [], G => G
  | x :: r, G => ordG labs r (if x.kind = 4 then addG G (findN labs x.name) (findN labs x.lower) else G)
def partG (names : List Bs) (from' : Int) : List PPart → List Bool → List Bool
  | [], G => G
  | x :: r, G => partG names from' r (addG G from' (findN names x.name))
def nodeG (names : List Bs) (from' : Int) : List PNode → List Bool → List Bool
  | [], G => G
  | x :: r, G => nodeG names from' r (if x.kind = 5 then addG G from' (findN names x.name) else G)
def namG (names : List Bs) : List PLine → List Bool → List Bool
  | [], G => G
  | x :: r, G => namG names r (if x.kind = 3 then nodeG names (findN names x.conc) x.nd (partG names (findN names x.conc) x.sum G) else G)
theorem ordG_drop (labs : List Bs) (ls : List PLine) (i : Nat) (G : List Bool) (h : i < ls.length) : ordG labs (ls.drop i) G = ordG labs (ls.drop (i + 1)) (if (lA ls i).kind = 4 then addG G (findN labs (lA ls i).name) (findN labs (lA ls i).lower) else G) := by
  rw [List.drop_eq_getElem_cons h, ordG]; simp [lA, List.getD, h]
theorem namG_drop (names : List Bs) (ls : List PLine) (i : Nat) (G : List Bool) (h : i < ls.length) : namG names (ls.drop i) G = namG names (ls.drop (i + 1)) (if (lA ls i).kind = 3 then nodeG names (findN names (lA ls i).conc) (lA ls i).nd (partG names (findN names (lA ls i).conc) (lA ls i).sum G) else G) := by
  rw [List.drop_eq_getElem_cons h, namG]; simp [lA, List.getD, h]
theorem partG_drop (names : List Bs) (f : Int) (S : List PPart) (i : Nat) (G : List Bool) (h : i < S.length) : partG names f (S.drop i) G = partG names f (S.drop (i + 1)) (addG G f (findN names (xAt S i).name)) := by
  rw [dropX S i h, partG]
theorem nodeG_drop (names : List Bs) (f : Int) (N : List PNode) (i : Nat) (G : List Bool) (h : i < N.length) : nodeG names f (N.drop i) G = nodeG names f (N.drop (i + 1)) (if (nAt N i).kind = 5 then addG G f (findN names (nAt N i).name) else G) := by
  rw [List.drop_eq_getElem_cons h, nodeG]; simp [nAt, List.getD, h]

theorem OnlyG.trans {g : Nat} {a b c : World} (h : OnlyG g a b) (k : OnlyG g b c) : OnlyG g a c :=
  ⟨k.os.trans h.os, k.tape.trans h.tape, k.output.trans h.output, Nat.le_trans h.size k.size, fun i hi hne => (k.block i (Nat.lt_of_lt_of_le hi h.size) hne).trans (h.block i hi hne)⟩
theorem OnlyG.alloc {g : Nat} {a b : World} (h : OnlyG g a b) (o : Obj) : OnlyG g a (b.alloc o) :=
  h.trans ⟨rfl, rfl, rfl, by simp, fun k hk _ => Below.heap_alloc _ _ _ hk⟩
theorem OnlyG.below {g B : Nat} {a b : World} (h : OnlyG g a b) (hB : B ≤ a.heap.size) (hg : B ≤ g) : Below B a b :=
  ⟨h.os, h.tape, h.output, h.size, fun k hk => h.block k (by omega) (by omega)⟩
theorem GrM.new {w : World} {g : Nat} {G : List Bool} (h : GrM w g G) (o : Obj) : GrM (w.alloc o) g G := ⟨hb_new h.1, h.2⟩

/-- Where the links draw: the graph in block g, the result's block, the names. -/
structure LnkM (w wc : World) (g : Nat) (a : Option Addr) (names : List Bs) : Prop where
  res : wc.heap[w.heap.size]? = some (.cells (gC gZ) 59 (0, 0))
  g1 : w.heap.size < g
  lt : g < wc.heap.size
  bel : Below w.heap.size w wc
  str : ∀ w', OnlyG g wc w' → StrV w' a names

theorem LnkM.mk' {w w1 : World} {v : Value} {names : List Bs} {o : Obj} {cs : Array Value} (hz : w1.heap[w.heap.size]? = some (.cells (gC gZ) 59 (0, 0))) (hb : Below w.heap.size w w1) (hs : w.heap.size < w1.heap.size) {B : Nat} (hown : w1.ownsRow B 9 1 v names.length (strC names)) (hf : names.length ≤ 10000) :
    ∃ a c, v = .slice a names.length c ∧ LnkM w ((w1.alloc o).setRow w1.heap.size cs) w1.heap.size a names := by
  obtain ⟨a, c, hv, hstr⟩ := own_str hown hf
  refine ⟨a, c, hv, ⟨hb_row (hb_new hz) (by omega), hs, ?_, below_row (hb.alloc hb.size _) (Nat.le_of_lt hs) _, fun w' ho => ⟨fun h0 => ?_, hf⟩⟩⟩
  · unfold World.setRow; simp
  · obtain ⟨g, e, p⟩ := hstr.blk h0
    refine ⟨g, e, fun i hi => ?_⟩
    have hp := p i hi
    have hg : g < w1.heap.size := by
      rcases Nat.lt_or_ge g w1.heap.size with h1 | h1
      · exact h1
      · rw [World.cell?, Array.getElem?_eq_none (by simpa using h1)] at hp; cases hp
    have e1 : w'.heap[g]? = w1.heap[g]? := by
      rw [ho.block g (by unfold World.setRow; simp; omega) (by omega)]
      unfold World.setRow
      simp only [Array.getElem?_modify]
      rw [if_neg (by omega)]
      exact Below.heap_alloc _ _ _ hg
    simp only [World.cell?, e1] at hp ⊢
    exact hp

set_option maxRecDepth 100000 in
set_option maxHeartbeats 4000000 in
theorem Order_s (w : World) (a : Option Addr) (c : Nat) (ls : List LX) (h : LinV w a ls) :
    Calls Tryz.prog 29 #[.slice a ls.length c] w fun e w' => e = .returned (.agg (gC (ordG (labsB (fs ls)) (fs ls) gZ))) ∧ Below w.heap.size w w' := by
  have HL := hideP2 h
  have hfew := h.few
  have HRL := hideP2 (fun o => ruleLabels_s (w.alloc o) a c ls (h.below ((Below.refl _ _).alloc (Nat.le_refl _) o) (Nat.le_refl _)))
  clear h
  go_enter Tryz.func29, Tryz.ntmps29
  go_wp2_with fail
  refine (HRL.out _).mono ?_
  rintro e w1 ⟨v, rfl, hown, hlen, hb1⟩
  have hz : w1.heap[w.heap.size]? = some (.cells (gC gZ) 59 (0, 0)) := by rw [hb1.block _ (lt_end _ _)]; exact hb_end _ _
  have hs : w.heap.size < w1.heap.size := Nat.lt_of_lt_of_le (lt_end _ _) hb1.size
  have HK := hideP2 (fun o cs => LnkM.mk' (o := o) (cs := cs) hz (size_alloc hb1) hs hown (by omega))
  obtain ⟨la, lc, rfl, _⟩ := HK.out (.cells #[] 0 (0, 0)) #[]
  generalize hlb : labsB (fs ls) = labs at *
  have HLB := hideP2 hlb
  clear hlb
  have HK2 : Hid (∀ o cs, LnkM w ((w1.alloc o).setRow w1.heap.size cs) w1.heap.size la labs) := fun o cs => by
    obtain ⟨a', c', e, p⟩ := HK.out o cs
    simp only [Value.slice.injEq] at e
    rw [e.1]; exact p
  clear hz hown hb1 HK HRL
  go_upto_region 2 with fail
  go_cut [4] from 11 to 11 (fun p4 wx => p4 = .pointer (some ⟨w1.heap.size, 0, none⟩) ∧ Hid (LnkM w wx w1.heap.size la labs) ∧ Hid (GrM wx w1.heap.size gZ))
  case first =>
    go_wp2_with (refine wpList_store_row ?hgd 59 (.tmp 4) (.tmp 11) ?ho w1.heap.size (gC gZ) ?hx ?hy 59 (gC gZ) (hb_end w1 _) (gInfoC gZ_len) rfl (gC_one gZ) ?_
                 case ho => rfl
                 case hgd => rfl
                 case hx => rfl
                 case hy => rfl)
    go_meet
    exact ⟨rfl, hideP2 (HK2.out _ _), hideP2 ⟨setRow_heap _ _ (gC gZ) _ _ _ (hb_end w1 _), gZ_len⟩⟩
  case rest =>
    obtain ⟨rfl, HM, HG0⟩ := hcut
    generalize w1.heap.size = g at *
    clear HK2
    go_wp2_with fail
    go_loopw [14] (fun iv wr => ∃ (i : Nat) (G : List Bool), i ≤ ls.length ∧ iv = .int .i64 i ∧ Hid (OnlyG g wc wr) ∧ Hid (GrM wr g G) ∧ Hid (ordG labs ((fs ls).drop i) G = ordG labs (fs ls) gZ)) (fun iv _ => ls.length - (intOf iv).toNat)
    case atStart => exact ⟨0, gZ, Nat.zero_le _, rfl, hideP2 (OnlyG.refl _ _), HG0, hideP2 rfl⟩
    case round =>
      obtain ⟨i, G, hi, rfl, HO, HG, HE⟩ := hrel
      clear HG0
      have HBw : Hid (Below w.heap.size w wr) := HM.out.bel.trans (HO.out.below HM.out.bel.size (Nat.le_of_lt HM.out.g1))
      by_cases hlt : i < ls.length
      · obtain ⟨gl, sa, sn, sc, na, nn, nc, rfl, hgl, ⟨c0, c1, c2, c3, c4, c5, c6, c7, c8, c9, c10⟩, _, _⟩ := (HL.out.below HBw.out (Nat.le_refl _)).line hlt
        have hE := HE.out
        rw [ordG_drop _ _ i _ (by simpa using hlt), fs_get] at hE
        have HE2 := hideP2 hE
        have HF := hideP2 (fun o nm => find_s (wr.alloc o) la lc labs nm (HM.out.str _ (HO.out.alloc o)))
        have HA := hideP2 (fun o x y => Add_s (wr.alloc o) g G x y (HG.out.new o))
        clear HE hE
        generalize (lAt ls i).1 = x at *
        obtain ⟨kd, n1, lo, hi', cc, S, N, ro, te, de, lw⟩ := x
        simp only at c0 c1 c2 c3 c4 c5 c6 c7 c8 c9 c10
        by_cases k1 : kd = 4
        · have b1 : (kd == 4) = true := by simpa using k1
          have HE3 : Hid (ordG labs ((fs ls).drop (i + 1)) (addG G (findN labs n1) (findN labs lw)) = ordG labs (fs ls) gZ) := by have := HE2.out; rw [if_pos k1] at this; exact this
          clear HE2 k1
          go_wp2_with fail
          refine (HF.out _ n1).mono ?_
          rintro e w2 ⟨rfl, hw⟩; obtain rfl := hw.symm
          go_wp2_with fail
          refine (HF.out _ lw).mono ?_
          rintro e w2 ⟨rfl, hw⟩; obtain rfl := hw.symm
          go_wp2_with fail
          refine (HA.out _ _ _).mono ?_
          rintro e w2 ⟨rfl, hg2, ho2⟩
          have HO2 : Hid (OnlyG g wc w2) := (HO.out.alloc _).trans ho2
          have HG2 := hideP2 hg2
          clear hg2 ho2
          go_wp2_with fail
          go_roundw
          case rel => exact ⟨i + 1, _, by omega, by go_num, HO2, HG2, HE3⟩
          case measure => simp [intOf]; omega
        · have b1 : (kd == 4) = false := by simpa using k1
          have HE3 : Hid (ordG labs ((fs ls).drop (i + 1)) G = ordG labs (fs ls) gZ) := by have := HE2.out; rw [if_neg k1] at this; exact this
          clear HE2 k1
          go_wp2_with fail
          go_roundw
          case rel => exact ⟨i + 1, G, by omega, by go_num, hideP2 (HO.out.alloc _), hideP2 (HG.out.new _), HE3⟩
          case measure => simp [intOf]; omega
      · have HE3 : Hid (G = ordG labs (fs ls) gZ) := by have := HE.out; rw [List.drop_eq_nil_of_le (by simp; omega)] at this; exact this
        have HRs : Hid (wr.heap[w.heap.size]? = some (.cells (gC gZ) 59 (0, 0))) := by
          unfold Hid; rw [HO.out.block _ (Nat.lt_trans HM.out.g1 HM.out.lt) (Nat.ne_of_lt HM.out.g1)]; exact HM.out.res
        clear HE
        go_wp2_with (first
          | (refine wpList_load_row ?hgd 59 (.tmp 4) ?ho g ?hx 59 (gC G) (0, 0) _ HG.out.1 Tryz.underlying59 rfl (gInfoC HG.out.2) ?_
             case ho => rfl
             case hgd => rfl
             case hx => rfl)
          | (refine wpList_store_row ?hgd 59 (.tmp 2) (.tmp 33) ?ho w.heap.size (gC G) ?hx ?hy 59 (gC gZ) HRs.out (gInfoC HG.out.2) ?hold (gC_one G) ?_
             case ho => rfl
             case hgd => rfl
             case hx => rfl
             case hy => rfl
             case hold => rw [gC_size, gC_size, gZ_len, HG.out.2]))
        refine bodyPost_ret (v := .agg (gC G)) (results_cell_row Tryz.results29 _ _ w.heap.size 59 (gC G) (0, 0) _ rfl (setRow_heap _ _ (gC gZ) _ _ _ HRs.out) Tryz.underlying59 rfl (gInfoC HG.out.2)) rfl ⟨by rw [HLB.out, ← HE3.out], below_row HBw.out (Nat.le_refl _) _⟩
end Go.Proofs.YtnbpdffdnphbeaaGreat

/- What the program's check asks of a num's range, of a rule's names, of a pair: the error of a line. -/
namespace Go.Proofs.YtnbpdffdnphbeaaGreat
open Go.RowKit

theorem below_drewN {B : Nat} {a w : World} (h : Below B a w) (n : Nat) : Below B a (w.drewN n) := ⟨h.os, h.tape, h.output, h.size, h.block⟩

set_option maxHeartbeats 1000000 in
theorem numError_s (w : World) (a : Option Addr) (c : Nat) (ls : List LX) (i : Nat) (hi : i < ls.length) (hc : ls.length ≤ c) (h : LinV w a ls) :
    Calls Tryz.prog 50 #[.slice a ls.length c, .int .i64 i] w fun e w' => e = .returned (.int .i64 (numE (fs ls) i)) ∧ Below w.heap.size w w' := by
  have hfew := h.few
  have HI := hideP2 (inputError_s w a c ls i hi hc h)
  have HL := hideP2 h
  have h4 : inpE (fs ls) i = 4 ∨ inpE (fs ls) i = 0 := by unfold inpE; split; exact .inl rfl; exact .inr rfl
  rcases h4 with h4 | h4
  · have HR : Hid (numE (fs ls) i = 4) := by unfold Hid numE; rw [h4]; rfl
    rw [h4] at HI
    clear h h4
    go_enter Tryz.func50, Tryz.ntmps50
    go_wp2_with fail
    refine HI.out.mono ?_
    rintro e w1 ⟨rfl, hb1⟩
    have HB1 := hideP2 hb1
    clear hb1
    go_wp2_with fail
    go_ret
    exact ⟨ret_int HR.out.symm, HB1.out⟩
  · have HR : Hid (numE (fs ls) i = if (lAt ls i).1.high < (lAt ls i).1.low then 5 else 0) := by unfold Hid numE; rw [h4, fs_get]; rfl
    rw [h4] at HI
    clear h h4
    go_enter Tryz.func50, Tryz.ntmps50
    go_wp2_with fail
    refine HI.out.mono ?_
    rintro e w1 ⟨rfl, hb1⟩
    have HB1 := hideP2 hb1
    obtain ⟨gl, sa, sn, sc, na, nn, nc, rfl, hgl, ⟨c0, c1, c2, c3, c4, c5, c6, c7, c8, c9, c10⟩, _, _⟩ := (HL.out.below hb1 (Nat.le_refl _)).line hi
    clear hb1 c0 c1 c4 c5 c6 c7 c8 c9 c10 HL HI
    generalize (lAt ls i).1.low = lo at *
    generalize (lAt ls i).1.high = hh at *
    go_wp2_with fail
    go_quiet (fail)
    by_cases hk : hh < lo
    · have HR2 : Hid (numE (fs ls) i = 5) := by unfold Hid; rw [HR.out, if_pos hk]
      go_wp2_with fail
      go_ret
      exact ⟨ret_int HR2.out.symm, below_drewN HB1.out _⟩
    · have HR2 : Hid (numE (fs ls) i = 0) := by unfold Hid; rw [HR.out, if_neg hk]
      go_wp2_with fail
      go_ret
      exact ⟨ret_int HR2.out.symm, below_drewN HB1.out _⟩

theorem below_call {B : Nat} {a w w1 : World} {o : Obj} (h : Below B a w) (hB : B ≤ w.heap.size) (h1 : Below (w.alloc o).heap.size (w.alloc o) w1) : Below B a w1 := (h.alloc hB o).trans (h1.mono (Nat.le_trans hB (Nat.le_of_lt (lt_end _ _))))
abbrev rowA (x : PLine) (sv nv : Value) : Array Value := #[.int .i64 x.kind, .string ⟨x.name.toArray⟩, .int .i64 x.low, .int .i64 x.high, .string ⟨x.conc.toArray⟩, sv, nv, .int .i64 x.root, .int .i64 x.tests, .int .i64 x.dep, .string ⟨x.lower.toArray⟩]

set_option maxHeartbeats 2000000 in
theorem ruleError_s (w : World) (a : Option Addr) (c : Nat) (ls : List LX) (i : Nat) (hi : i < ls.length) (hc : ls.length ≤ c) (hk : (lAt ls i).1.kind = 3) (h : LinV w a ls) :
    Calls Tryz.prog 52 #[.slice a ls.length c, .int .i64 i] w fun e w' => e = .returned (.int .i64 (ruleE (fs ls) i)) ∧ Below w.heap.size w w' := by
  have hfew := h.few
  have HR : Hid (ruleE (fs ls) i = if hasL ((fs ls).take i) 3 (lAt ls i).1.name || ((lAt ls i).1.sum.any (fun x => !partOk (fs ls) x) || (lAt ls i).1.nd.any (fun x => !nodeOk (fs ls) x)) then 4 else 0) := by unfold Hid ruleE; rw [fs_get]
  have H1 := hideP2 (hasLine_t h c 3 (lAt ls i).1.name i hi)
  have H2 := hideP2 (fun nm => isSummand_a h c nm)
  have H3 := hideP2 (fun x => isNodeKnown_a h c x)
  obtain ⟨gl, sa, sn, sc, na, nn, nc, rfl, hgl, ⟨c0, c1, c2, c3, c4, c5, c6, c7, c8, c9, c10⟩, eq, hC⟩ := h.line hi
  obtain ⟨rfl, hS, rfl, hN⟩ := hC.rule hk eq
  have HS := hideP2 hS
  have HN := hideP2 hN
  have hs1 := hS.few
  have hn1 := hN.few
  unfold maxLen at hs1 hn1
  clear h eq hC hS hN hk
  generalize (lAt ls i).1 = x at *
  obtain ⟨kd, n1, lo, hi', cc, S, N, ro, te, de, lw⟩ := x
  simp only at c0 c1 c2 c3 c4 c5 c6 c7 c8 c9 c10 HR H1 HS HN hs1 hn1
  generalize hasL ((fs ls).take i) 3 n1 = p at *
  go_enter Tryz.func52, Tryz.ntmps52
  go_wp2_with fail
  go_cut [19] from 14 to 19 (fun v wx => v = .bool p ∧ Hid (Below w.heap.size w wx) ∧ Hid (w.heap.size < wx.heap.size) ∧ ∀ j, wx.cell? ⟨w.heap.size, j, none⟩ = (rowA ⟨kd, n1, lo, hi', cc, S, N, ro, te, de, lw⟩ (.slice sa S.length sc) (.slice na N.length nc))[j]?)
  case first =>
    go_region_with (go_at_call 79
                    refine (H1.out _ (Below.drew (Below.alloc (Below.refl _ _) (Nat.le_refl _) _))).mono ?_
                    rintro e w1 ⟨rfl, hb1⟩
                    have b1 := hb_below (hb_drew (hb_end _ _)) hb1 (lt_drew (lt_end _ _))
                    have HB1 : Hid (Below w.heap.size w w1) := (Below.drew (Below.alloc (Below.refl _ _) (Nat.le_refl _) _)).trans (hb1.mono (Nat.le_of_lt (lt_drew (lt_end _ _))))
                    have q := cell_row b1
                    have HZ : Hid (w.heap.size < w1.heap.size) := Nat.lt_of_lt_of_le (lt_drew (lt_end _ _)) hb1.size
                    clear hb1 b1)
    all_goals
      go_wp2_with fail
      go_meet
      exact ⟨rfl, HB1, HZ, q⟩
  case rest =>
    obtain ⟨rfl, HB1, HZ, q⟩ := hcut
    clear c0 c1 c2 c3 c4 c5 c6 c7 c8 c9 c10 H1
    cases p
    · have HR2 : Hid (ruleE (fs ls) i = if S.any (fun x => !partOk (fs ls) x) || N.any (fun x => !nodeOk (fs ls) x) then 4 else 0) := HR.out
      clear HR
      go_wp2_with fail
      go_loopw [23] (fun iv wr => ∃ (k : Nat), k ≤ S.length ∧ iv = .int .i64 k ∧ Hid (Below wc.heap.size wc wr) ∧ Hid ((S.drop k).any (fun x => !partOk (fs ls) x) = S.any (fun x => !partOk (fs ls) x))) (fun iv _ => S.length - (intOf iv).toNat)
      case atStart => exact ⟨0, Nat.zero_le _, rfl, hideP2 (Below.refl _ _), hideP2 rfl⟩
      case round =>
        obtain ⟨k, hk, rfl, HBr, HE⟩ := hrel
        have HBw : Hid (Below w.heap.size w wr) := HB1.out.trans (HBr.out.mono HB1.out.size)
        have hsz := HBr.out.size
        have hsw := HBw.out.size
        by_cases hlt : k < S.length
        · obtain ⟨g, cur, rfl, hp⟩ := (HS.out.below HBw.out (Nat.le_refl _)).blk (by omega)
          obtain ⟨d0, d1, d2, d3⟩ := hp.cells hlt
          have hg := hp.lt
          have hE := HE.out
          rw [any_drop _ xz _ k hlt, show S.getD k xz = xAt S k from rfl] at hE
          have HE2 := hideP2 hE
          clear HE hE hp q
          generalize xAt S k = y at *
          obtain ⟨mi, st, nu, nm⟩ := y
          simp only at d0 d1 d2 d3
          by_cases ko : nm = []
          · have HE3 : Hid ((S.drop (k + 1)).any (fun x => !partOk (fs ls) x) = S.any (fun x => !partOk (fs ls) x)) := by have := HE2.out; unfold Hid; rw [← this]; simp [partOk, ko]
            have bo : (nm == []) = true := by simpa using ko
            clear HE2 ko
            go_wp2_with fail
            go_roundw
            case rel => exact ⟨k + 1, by omega, by go_num, hideP2 (HBr.out.alloc hsz _), HE3⟩
            case measure => simp [intOf]; omega
          · have HA := hideP2 (H2.out nm)
            have bo : (nm == []) = false := by simpa using ko
            have HE2' : Hid ((!sumOk (fs ls) nm || (S.drop (k + 1)).any (fun x => !partOk (fs ls) x)) = S.any (fun x => !partOk (fs ls) x)) := by have := HE2.out; unfold Hid; rw [← this]; simp [partOk, ko]
            clear HE2 ko
            generalize sumOk (fs ls) nm = z at *
            cases z
            · have HR3 : Hid (ruleE (fs ls) i = 4) := by unfold Hid; rw [HR2.out, ← HE2'.out]; rfl
              clear HE2'
              go_wp2_with fail
              refine (HA.out _ (HBw.out.alloc hsw _)).mono ?_
              rintro e w1 ⟨rfl, hb1⟩
              have HBn : Hid (Below w.heap.size w w1) := below_call HBw.out hsw hb1
              clear hb1
              go_wp2_with fail
              go_ret
              exact ⟨ret_int HR3.out.symm, HBn.out⟩
            · have HE3 : Hid ((S.drop (k + 1)).any (fun x => !partOk (fs ls) x) = S.any (fun x => !partOk (fs ls) x)) := by have := HE2'.out; unfold Hid; rw [← this]; rfl
              clear HE2'
              go_wp2_with fail
              refine (HA.out _ (HBw.out.alloc hsw _)).mono ?_
              rintro e w1 ⟨rfl, hb1⟩
              have HBn : Hid (Below wc.heap.size wc w1) := below_call HBr.out hsz hb1
              clear hb1
              go_wp2_with fail
              go_roundw
              case rel => exact ⟨k + 1, by omega, by go_num, HBn, HE3⟩
              case measure => simp [intOf]; omega
        · have HR3 : Hid (ruleE (fs ls) i = if N.any (fun x => !nodeOk (fs ls) x) then 4 else 0) := by
            have := HE.out; rw [List.drop_eq_nil_of_le (by omega)] at this
            unfold Hid; rw [HR2.out, ← this]; rfl
          have qr : ∀ j, wr.cell? ⟨w.heap.size, j, none⟩ = (rowA ⟨kd, n1, lo, hi', cc, S, N, ro, te, de, lw⟩ (.slice sa S.length sc) (.slice na N.length nc))[j]? := fun j => (HBr.out.cell (p := ⟨w.heap.size, j, none⟩) HZ.out).trans (q j)
          clear HE HR2 q HS H2
          obtain ⟨wq, rfl⟩ : ∃ wq, wq = wr := ⟨_, rfl⟩
          go_wp2_with fail
          go_loopw [42] (fun iv wr => ∃ (k : Nat), k ≤ N.length ∧ iv = .int .i64 k ∧ Hid (Below wq.heap.size wq wr) ∧ Hid ((N.drop k).any (fun x => !nodeOk (fs ls) x) = N.any (fun x => !nodeOk (fs ls) x))) (fun iv _ => N.length - (intOf iv).toNat)
          case atStart => exact ⟨0, Nat.zero_le _, rfl, hideP2 (Below.refl _ _), hideP2 rfl⟩
          case round =>
            obtain ⟨m, hm, rfl, HBs, HF⟩ := hrel
            have HBv : Hid (Below w.heap.size w wr) := HBw.out.trans (HBs.out.mono hsw)
            have hsz2 := HBs.out.size
            have hsw2 := HBv.out.size
            by_cases hlt2 : m < N.length
            · obtain ⟨g, cur, rfl, hp⟩ := (HN.out.below HBv.out (Nat.le_refl _)).blk (by omega)
              obtain ⟨d0, d1, d2, d3, d4, d5, d6⟩ := hp.cells hlt2
              have hg := hp.lt
              have hE := HF.out
              rw [any_drop _ nz _ m hlt2, show N.getD m nz = nAt N m from rfl] at hE
              have HE2 := hideP2 hE
              have HA := hideP2 (H3.out (nAt N m))
              clear HF hE hp qr
              generalize nodeOk (fs ls) (nAt N m) = z at *
              unfold nodeV at HA
              generalize nAt N m = y at *
              obtain ⟨kd', le, ri, nm, mk, ot, nu⟩ := y
              simp only at d0 d1 d2 d3 d4 d5 d6 HA
              cases z
              · have HR4 : Hid (ruleE (fs ls) i = 4) := by unfold Hid; rw [HR3.out, ← HE2.out]; rfl
                clear HE2
                go_wp2_with fail
                refine (HA.out _ (HBv.out.alloc hsw2 _)).mono ?_
                rintro e w1 ⟨rfl, hb1⟩
                have HBn : Hid (Below w.heap.size w w1) := below_call HBv.out hsw2 hb1
                clear hb1
                go_wp2_with fail
                go_ret
                exact ⟨ret_int HR4.out.symm, HBn.out⟩
              · have HE3 : Hid ((N.drop (m + 1)).any (fun x => !nodeOk (fs ls) x) = N.any (fun x => !nodeOk (fs ls) x)) := by have := HE2.out; unfold Hid; rw [← this]; rfl
                clear HE2
                go_wp2_with fail
                refine (HA.out _ (HBv.out.alloc hsw2 _)).mono ?_
                rintro e w1 ⟨rfl, hb1⟩
                have HBn : Hid (Below wq.heap.size wq w1) := below_call HBs.out hsz2 hb1
                clear hb1
                go_wp2_with fail
                go_roundw
                case rel => exact ⟨m + 1, by omega, by go_num, HBn, HE3⟩
                case measure => simp [intOf]; omega
            · have HR4 : Hid (ruleE (fs ls) i = 0) := by
                have := HF.out; rw [List.drop_eq_nil_of_le (by omega)] at this
                unfold Hid; rw [HR3.out, ← this]; rfl
              clear HF
              go_wp2_with fail
              go_ret
              exact ⟨ret_int HR4.out.symm, HBv.out⟩
    · have HR2 : Hid (ruleE (fs ls) i = 4) := HR.out
      clear HR
      go_wp2_with fail
      go_ret
      exact ⟨ret_int HR2.out.symm, HB1.out⟩
end Go.Proofs.YtnbpdffdnphbeaaGreat
