/- What the program's check asks of a line: is there one too many, or too much in it? -/
import Derived.Test.YtnbpdffdnphbeaaGreatDoorCkLines
import Derived.Deep.RegionWith
import Derived.Deep.CutRange
import Derived.Test.YtnbpdffdnphbeaaGreatDoorCkErr
import Derived.Test.YtnbpdffdnphbeaaGreatDoorCkGraph
namespace Go.Proofs.YtnbpdffdnphbeaaGreatDoor
open Go.RowKit

set_option maxHeartbeats 1000000 in
theorem isSumTooGreat_s (w : World) (a : Option Addr) (c : Nat) (S : List PPart) (h : ParV w a S) :
    Calls Tryz.prog 161 #[.slice a S.length c] w fun e w' => e = .returned (.bool (sumBig S)) ∧ Below w.heap.size w w' := by
  have HL := hideP2 h
  have hfew := h.few
  unfold maxLen at hfew
  clear h
  by_cases hb4 : 4 < S.length
  · have HR : Hid (sumBig S = true) := by unfold Hid sumBig; rw [decide_eq_true hb4]; rfl
    go_enter Tryz.func161, Tryz.ntmps161
    go_wp2_with fail
    go_ret
    exact ⟨ret_bool HR.out.symm, Below.refl _ _⟩
  · have HR : Hid (S.any partBig = sumBig S) := by unfold Hid sumBig; rw [decide_eq_false hb4]; rfl
    go_enter Tryz.func161, Tryz.ntmps161
    go_wp2_with fail
    go_loopw [10] (fun iv wr => ∃ (i : Nat), i ≤ S.length ∧ iv = .int .i64 i ∧ Hid (Below w.heap.size w wr) ∧ Hid ((S.drop i).any partBig = sumBig S)) (fun iv _ => S.length - (intOf iv).toNat)
    case atStart => exact ⟨0, Nat.zero_le _, rfl, hideP2 (Below.refl _ _), HR⟩
    case round =>
      obtain ⟨i, hi, rfl, HB, HE⟩ := hrel
      by_cases hlt : i < S.length
      · obtain ⟨g, cur, rfl, hp⟩ := (HL.out.below HB.out (Nat.le_refl _)).blk (by omega)
        obtain ⟨c0, c1, c2, c3⟩ := hp.cells hlt
        have hg := hp.lt
        have hE := HE.out
        rw [any_drop _ xz _ i hlt, show S.getD i xz = xAt S i from rfl] at hE
        have HE2 := hideP2 hE
        have hsz := HB.out.size
        clear HE hE hp HR
        generalize xAt S i = x at *
        obtain ⟨mi, st, nu, na⟩ := x
        simp only at c0 c1 c2 c3
        cases st
        · have HE3 : Hid ((S.drop (i + 1)).any partBig = sumBig S) := by have := HE2.out; unfold Hid; rw [← this]; simp [partBig]
          clear HE2
          go_wp2_with fail
          go_roundw
          case rel => exact ⟨i + 1, by omega, by go_num, hideP2 (HB.out.alloc hsz _), HE3⟩
          case measure => simp [intOf]; omega
        · by_cases k1 : 9 < nu
          · have HE3 : Hid (sumBig S = true) := by have := HE2.out; unfold Hid; rw [← this]; simp [partBig, k1]
            clear HE2
            go_wp2_with fail
            go_ret
            exact ⟨ret_bool HE3.out.symm, HB.out.alloc hsz _⟩
          · have HE3 : Hid ((S.drop (i + 1)).any partBig = sumBig S) := by have := HE2.out; unfold Hid; rw [← this]; simp [partBig, k1]
            clear HE2
            go_wp2_with fail
            go_roundw
            case rel => exact ⟨i + 1, by omega, by go_num, hideP2 (HB.out.alloc hsz _), HE3⟩
            case measure => simp [intOf]; omega
      · have HE3 : Hid (sumBig S = false) := by have := HE.out; rw [List.drop_eq_nil_of_le (by omega)] at this; exact this.symm
        clear HE
        go_wp2_with fail
        go_ret
        exact ⟨ret_bool HE3.out.symm, HB.out⟩

/-- A rule's rows. -/
theorem LineC.rule {w : World} {x : LX} {sa na : Option Addr} {sn sc nn nc : Nat} (h : LineC w x) (hk : x.1.kind = 3) (e : x.2 = (.slice sa sn sc, .slice na nn nc)) : sn = x.1.sum.length ∧ ParV w sa x.1.sum ∧ nn = x.1.nd.length ∧ NodV w na x.1.nd := by
  obtain ⟨h1, h2, h3⟩ := h.g.rule hk
  obtain ⟨g, c, cur, e2, p⟩ := h.b.sum h1
  obtain ⟨g', c', cur', e3, p'⟩ := h.b.nod (by omega)
  rw [e] at e2 e3
  simp only [Value.slice.injEq] at e2 e3
  have h4 := h.g.sumN
  exact ⟨e2.2.1, ⟨fun _ => ⟨g, cur, e2.1, p⟩, by unfold maxLen; omega⟩, e3.2.1, ⟨fun _ => ⟨g', cur', e3.1, p'⟩, h.nds⟩⟩

/-- A block of the call's own, behind calls that leave it. -/
theorem hb_below {w w' : World} {x : Obj} {k B : Nat} (h : w.heap[k]? = some x) (hb : Below B w w') (hk : k < B) : w'.heap[k]? = some x := by
  rw [hb.block k hk]; exact h
theorem cell_row {w : World} {b : Nat} {cs : Array Value} {T : TypeId} {fz : Nat × Nat} (h : w.heap[b]? = some (.cells cs T fz)) (j : Nat) : w.cell? ⟨b, j, none⟩ = cs[j]? := by
  simp only [World.cell?, h]; rfl

set_option maxHeartbeats 2000000 in
theorem isTooMany_s (w : World) (a : Option Addr) (c : Nat) (ls : List LX) (i : Nat) (hi : i < ls.length) (hc : ls.length ≤ c) (h : LinV w a ls) :
    Calls Tryz.prog 104 #[.slice a ls.length c, .int .i64 i] w fun e w' => e = .returned (.bool (manyP (fs ls) i)) ∧ Below w.heap.size w w' := by
  have hfew := h.few
  obtain ⟨gl, sa, sn, sc, na, nn, nc, rfl, hgl, ⟨c0, c1, c2, c3, c4, c5, c6, c7, c8, c9, c10⟩, eq, hC⟩ := h.line hi
  have HC : Hid (∀ w', Below w.heap.size w w' → Calls Tryz.prog 159 #[.slice (some ⟨gl, 0, none⟩) i c, .int .i64 (lAt ls i).1.kind] w' fun e w'' => e = .returned (.int .i64 (cntK (lAt ls i).1.kind ((fs ls).take i))) ∧ Below w'.heap.size w' w'') := by
    intro w' hb
    have := countKind_s w' (some ⟨gl, 0, none⟩) c (ls.take i) (lAt ls i).1.kind ((h.take i).below hb (Nat.le_refl _))
    rw [List.length_take, Nat.min_eq_left (by omega), show fs (ls.take i) = (fs ls).take i from List.map_take ..] at this
    exact this
  have HS : Hid ((lAt ls i).1.kind = 3 → ∀ w', Below w.heap.size w w' → Calls Tryz.prog 161 #[.slice sa sn sc] w' fun e w'' => e = .returned (.bool (sumBig (lAt ls i).1.sum)) ∧ Below w'.heap.size w' w'') := by
    intro hk w' hb
    obtain ⟨h1, h2, _⟩ := hC.rule hk eq
    rw [h1]
    exact isSumTooGreat_s w' sa sc _ (h2.below hb (Nat.le_refl _))
  have HM : Hid (manyP (fs ls) i = (decide (limP (lAt ls i).1.kind ≤ (cntK (lAt ls i).1.kind ((fs ls).take i) : Int)) || (decide ((lAt ls i).1.kind = 3) && manyX (lAt ls i).1))) := by unfold Hid manyP; rw [fs_get]
  have hcl := cntK_le (lAt ls i).1.kind ((fs ls).take i)
  rw [List.length_take] at hcl
  clear h hC eq
  generalize (lAt ls i).1 = x at *
  obtain ⟨kd, n1, lo, hi', cc, S, N, ro, te, de, lw⟩ := x
  simp only at c0 c1 c2 c3 c4 c5 c6 c7 c8 c9 c10 HC HS HM hcl
  generalize cntK kd ((fs ls).take i) = cn at *
  have hlim : 0 ≤ limP kd ∧ limP kd ≤ 28 := by unfold limP; repeat' split <;> omega
  generalize hlm : limP kd = lm at *
  have HLm := hideP2 hlm
  clear hlm
  have hsn : w.heap.size < w.heap.size + 1 := Nat.lt_succ_self _
  go_enter Tryz.func104, Tryz.ntmps104
  go_wp2_with fail
  go_cut [19] from 10 to 19 (fun v wx => v = .bool (decide (lm ≤ (cn : Int))) ∧ Hid (Below w.heap.size w wx) ∧ ∀ j, wx.cell? ⟨w.heap.size, j, none⟩ = #[Value.int .i64 kd, .string ⟨n1.toArray⟩, .int .i64 lo, .int .i64 hi', .string ⟨cc.toArray⟩, .slice sa sn sc, .slice na nn nc, .int .i64 ro, .int .i64 te, .int .i64 de, .string ⟨lw.toArray⟩][j]?)
  case first =>
    go_region_with (first
      | (go_at_call 159
         refine (HC.out _ (Below.drew (Below.alloc (Below.refl _ _) (Nat.le_refl _) _))).mono ?_
         rintro e w1 ⟨rfl, hb1⟩
         have b1 := hb_below (hb_drew (hb_end _ _)) hb1 (lt_drew (lt_end _ _))
         have HB1 : Hid (Below w.heap.size w w1) := (Below.drew (Below.alloc (Below.refl _ _) (Nat.le_refl _) _)).trans (hb1.mono (Nat.le_of_lt (lt_drew (lt_end _ _))))
         have q := cell_row b1
         clear hb1 b1)
      | (go_at_call 160
         refine (limit_s _ _).mono ?_
         rintro e w2 ⟨rfl, hw⟩
         obtain rfl := hw.symm
         rw [HLm.out]))
    all_goals
      go_wp2_with fail
      go_meet
      exact ⟨rfl, HB1, q⟩
  case rest =>
    obtain ⟨rfl, HB1, q⟩ := hcut
    clear c0 c1 c2 c3 c4 c5 c6 c7 c8 c9 c10 HC
    by_cases hm : lm ≤ (cn : Int)
    · have HR : Hid (manyP (fs ls) i = true) := by unfold Hid; rw [HM.out, decide_eq_true hm]; rfl
      clear HM
      go_wp2_with fail
      go_ret
      exact ⟨ret_bool HR.out.symm, HB1.out⟩
    · have hm' : decide (lm ≤ (cn : Int)) = false := decide_eq_false hm
      have HM1 : Hid (manyP (fs ls) i = (decide (kd = 3) && manyX ⟨kd, n1, lo, hi', cc, S, N, ro, te, de, lw⟩)) := by unfold Hid; rw [HM.out, hm']; rfl
      clear HM
      by_cases k3 : kd = 3
      · have HM2 : Hid (manyP (fs ls) i = (decide (6 < te) || (decide (4 < de) || sumBig S))) := by unfold Hid; rw [HM1.out, decide_eq_true k3]; rfl
        have HS2 := hideP2 (HS.out k3)
        have b3 : (kd != 3) = false := by simpa using k3
        clear HM1 HS k3
        by_cases k6 : 6 < te
        · have HR : Hid (manyP (fs ls) i = true) := by unfold Hid; rw [HM2.out, decide_eq_true k6]; rfl
          clear HM2
          go_wp2_with fail
          go_ret
          exact ⟨ret_bool HR.out.symm, HB1.out⟩
        · by_cases k7 : 4 < de
          · have HR : Hid (manyP (fs ls) i = true) := by unfold Hid; rw [HM2.out, decide_eq_true k7, Bool.true_or, Bool.or_true]
            clear HM2
            go_wp2_with fail
            go_ret
            exact ⟨ret_bool HR.out.symm, HB1.out⟩
          · have HR : Hid (manyP (fs ls) i = sumBig S) := by unfold Hid; rw [HM2.out, decide_eq_false k6, decide_eq_false k7]; rfl
            clear HM2
            go_wp2_with fail
            refine (HS2.out _ HB1.out).mono ?_
            rintro e w3 ⟨rfl, hb3⟩
            have HB3 : Hid (Below w.heap.size w w3) := HB1.out.trans (hb3.mono HB1.out.size)
            clear hb3
            go_wp2_with fail
            go_ret
            exact ⟨ret_bool HR.out.symm, HB3.out⟩
      · have HR : Hid (manyP (fs ls) i = false) := by unfold Hid; rw [HM1.out, decide_eq_false k3]; rfl
        have b3 : (kd != 3) = true := by simpa using k3
        clear HM1 k3
        go_wp2_with fail
        go_ret
        exact ⟨ret_bool HR.out.symm, HB1.out⟩
end Go.Proofs.YtnbpdffdnphbeaaGreatDoor

/- What the program's links draw: an arrow from each conclusion to those that it names, from each rule to those that it is put over. -/
namespace Go.Proofs.YtnbpdffdnphbeaaGreatDoor
open Go.RowKit

def ordG (labs : List Bs) : List PLine → List Bool → List Bool
  | [], G => G
  | x :: r, G => ordG labs r (if x.kind = 4 then addG G (findN labs x.name) (findN labs x.lower) else G)
def partG (names : List Bs) (from' : Int) : List PPart → List Bool → List Bool
  | [], G => G
  | x :: r, G => partG names from' r (addG G from' (findN names x.name))
def nodeG (names : List Bs) (from' : Int) : List PNode → List Bool → List Bool
  | [], G => G
  | x :: r, G => nodeG names from' r (if x.kind = 5 then addG G from' (findN names x.name) else G)
def namG (names : List Bs) : List PLine → List Bool → List Bool
  | [], G => G
  | x :: r, G => namG names r (if x.kind = 3 then nodeG names (findN names x.conc) x.nd (partG names (findN names x.conc) x.sum G) else G)
theorem ordG_drop (labs : List Bs) (ls : List PLine) (i : Nat) (G : List Bool) (h : i < ls.length) : ordG labs (ls.drop i) G = ordG labs (ls.drop (i + 1)) (if (lA ls i).kind = 4 then addG G (findN labs (lA ls i).name) (findN labs (lA ls i).lower) else G) := by
  rw [List.drop_eq_getElem_cons h, ordG]; simp [lA, List.getD, h]
theorem namG_drop (names : List Bs) (ls : List PLine) (i : Nat) (G : List Bool) (h : i < ls.length) : namG names (ls.drop i) G = namG names (ls.drop (i + 1)) (if (lA ls i).kind = 3 then nodeG names (findN names (lA ls i).conc) (lA ls i).nd (partG names (findN names (lA ls i).conc) (lA ls i).sum G) else G) := by
  rw [List.drop_eq_getElem_cons h, namG]; simp [lA, List.getD, h]
theorem partG_drop (names : List Bs) (f : Int) (S : List PPart) (i : Nat) (G : List Bool) (h : i < S.length) : partG names f (S.drop i) G = partG names f (S.drop (i + 1)) (addG G f (findN names (xAt S i).name)) := by
  rw [dropX S i h, partG]
theorem nodeG_drop (names : List Bs) (f : Int) (N : List PNode) (i : Nat) (G : List Bool) (h : i < N.length) : nodeG names f (N.drop i) G = nodeG names f (N.drop (i + 1)) (if (nAt N i).kind = 5 then addG G f (findN names (nAt N i).name) else G) := by
  rw [List.drop_eq_getElem_cons h, nodeG]; simp [nAt, List.getD, h]

theorem OnlyG.trans {g : Nat} {a b c : World} (h : OnlyG g a b) (k : OnlyG g b c) : OnlyG g a c :=
  ⟨k.os.trans h.os, k.tape.trans h.tape, k.output.trans h.output, Nat.le_trans h.size k.size, fun i hi hne => (k.block i (Nat.lt_of_lt_of_le hi h.size) hne).trans (h.block i hi hne)⟩
theorem OnlyG.alloc {g : Nat} {a b : World} (h : OnlyG g a b) (o : Obj) : OnlyG g a (b.alloc o) :=
  h.trans ⟨rfl, rfl, rfl, by simp, fun k hk _ => Below.heap_alloc _ _ _ hk⟩
theorem OnlyG.below {g B : Nat} {a b : World} (h : OnlyG g a b) (hB : B ≤ a.heap.size) (hg : B ≤ g) : Below B a b :=
  ⟨h.os, h.tape, h.output, h.size, fun k hk => h.block k (by omega) (by omega)⟩
theorem GrM.new {w : World} {g : Nat} {G : List Bool} (h : GrM w g G) (o : Obj) : GrM (w.alloc o) g G := ⟨hb_new h.1, h.2⟩

/-- Where the links draw: the graph in block g, the result's block, the names. -/
structure LnkM (w wc : World) (g : Nat) (a : Option Addr) (names : List Bs) : Prop where
  res : wc.heap[w.heap.size]? = some (.cells (gC gZ) 94 (0, 0))
  g1 : w.heap.size < g
  lt : g < wc.heap.size
  bel : Below w.heap.size w wc
  str : ∀ w', OnlyG g wc w' → StrV w' a names

theorem LnkM.mk' {w w1 : World} {v : Value} {names : List Bs} {o : Obj} {cs : Array Value} (hz : w1.heap[w.heap.size]? = some (.cells (gC gZ) 94 (0, 0))) (hb : Below w.heap.size w w1) (hs : w.heap.size < w1.heap.size) {B : Nat} (hown : w1.ownsRow B 9 1 v names.length (strC names)) (hf : names.length ≤ 10000) :
    ∃ a c, v = .slice a names.length c ∧ LnkM w ((w1.alloc o).setRow w1.heap.size cs) w1.heap.size a names := by
  obtain ⟨a, c, hv, hstr⟩ := own_str hown hf
  refine ⟨a, c, hv, ⟨hb_row (hb_new hz) (by omega), hs, ?_, below_row (hb.alloc hb.size _) (Nat.le_of_lt hs) _, fun w' ho => ⟨fun h0 => ?_, hf⟩⟩⟩
  · unfold World.setRow; simp
  · obtain ⟨g, e, p⟩ := hstr.blk h0
    refine ⟨g, e, fun i hi => ?_⟩
    have hp := p i hi
    have hg : g < w1.heap.size := by
      rcases Nat.lt_or_ge g w1.heap.size with h1 | h1
      · exact h1
      · rw [World.cell?, Array.getElem?_eq_none (by simpa using h1)] at hp; cases hp
    have e1 : w'.heap[g]? = w1.heap[g]? := by
      rw [ho.block g (by unfold World.setRow; simp; omega) (by omega)]
      unfold World.setRow
      simp only [Array.getElem?_modify]
      rw [if_neg (by omega)]
      exact Below.heap_alloc _ _ _ hg
    simp only [World.cell?, e1] at hp ⊢
    exact hp

set_option maxRecDepth 100000 in
set_option maxHeartbeats 4000000 in
theorem Order_s (w : World) (a : Option Addr) (c : Nat) (ls : List LX) (h : LinV w a ls) :
    Calls Tryz.prog 108 #[.slice a ls.length c] w fun e w' => e = .returned (.agg (gC (ordG (labsB (fs ls)) (fs ls) gZ))) ∧ Below w.heap.size w w' := by
  have HL := hideP2 h
  have hfew := h.few
  have HRL := hideP2 (fun o => ruleLabels_s (w.alloc o) a c ls (h.below ((Below.refl _ _).alloc (Nat.le_refl _) o) (Nat.le_refl _)))
  clear h
  go_enter Tryz.func108, Tryz.ntmps108
  go_wp2_with fail
  refine (HRL.out _).mono ?_
  rintro e w1 ⟨v, rfl, hown, hlen, hb1⟩
  have hz : w1.heap[w.heap.size]? = some (.cells (gC gZ) 94 (0, 0)) := by rw [hb1.block _ (lt_end _ _)]; exact hb_end _ _
  have hs : w.heap.size < w1.heap.size := Nat.lt_of_lt_of_le (lt_end _ _) hb1.size
  have HK := hideP2 (fun o cs => LnkM.mk' (o := o) (cs := cs) hz (size_alloc hb1) hs hown (by omega))
  obtain ⟨la, lc, rfl, _⟩ := HK.out (.cells #[] 0 (0, 0)) #[]
  generalize hlb : labsB (fs ls) = labs at *
  have HLB := hideP2 hlb
  clear hlb
  have HK2 : Hid (∀ o cs, LnkM w ((w1.alloc o).setRow w1.heap.size cs) w1.heap.size la labs) := fun o cs => by
    obtain ⟨a', c', e, p⟩ := HK.out o cs
    simp only [Value.slice.injEq] at e
    rw [e.1]; exact p
  clear hz hown hb1 HK HRL
  go_upto_region 2 with fail
  go_cut [4] from 11 to 11 (fun p4 wx => p4 = .pointer (some ⟨w1.heap.size, 0, none⟩) ∧ Hid (LnkM w wx w1.heap.size la labs) ∧ Hid (GrM wx w1.heap.size gZ))
  case first =>
    go_wp2_with (refine wpList_store_row ?hgd 94 (.tmp 4) (.tmp 11) ?ho w1.heap.size (gC gZ) ?hx ?hy 94 (gC gZ) (hb_end w1 _) (gInfoC gZ_len) rfl (gC_one gZ) ?_
                 case ho => rfl
                 case hgd => rfl
                 case hx => rfl
                 case hy => rfl)
    go_meet
    exact ⟨rfl, hideP2 (HK2.out _ _), hideP2 ⟨setRow_heap _ _ (gC gZ) _ _ _ (hb_end w1 _), gZ_len⟩⟩
  case rest =>
    obtain ⟨rfl, HM, HG0⟩ := hcut
    generalize w1.heap.size = g at *
    clear HK2
    go_wp2_with fail
    go_loopw [14] (fun iv wr => ∃ (i : Nat) (G : List Bool), i ≤ ls.length ∧ iv = .int .i64 i ∧ Hid (OnlyG g wc wr) ∧ Hid (GrM wr g G) ∧ Hid (ordG labs ((fs ls).drop i) G = ordG labs (fs ls) gZ)) (fun iv _ => ls.length - (intOf iv).toNat)
    case atStart => exact ⟨0, gZ, Nat.zero_le _, rfl, hideP2 (OnlyG.refl _ _), HG0, hideP2 rfl⟩
    case round =>
      obtain ⟨i, G, hi, rfl, HO, HG, HE⟩ := hrel
      clear HG0
      have HBw : Hid (Below w.heap.size w wr) := HM.out.bel.trans (HO.out.below HM.out.bel.size (Nat.le_of_lt HM.out.g1))
      by_cases hlt : i < ls.length
      · obtain ⟨gl, sa, sn, sc, na, nn, nc, rfl, hgl, ⟨c0, c1, c2, c3, c4, c5, c6, c7, c8, c9, c10⟩, _, _⟩ := (HL.out.below HBw.out (Nat.le_refl _)).line hlt
        have hE := HE.out
        rw [ordG_drop _ _ i _ (by simpa using hlt), fs_get] at hE
        have HE2 := hideP2 hE
        have HF := hideP2 (fun o nm => find_s (wr.alloc o) la lc labs nm (HM.out.str _ (HO.out.alloc o)))
        have HA := hideP2 (fun o x y => Add_s (wr.alloc o) g G x y (HG.out.new o))
        clear HE hE
        generalize (lAt ls i).1 = x at *
        obtain ⟨kd, n1, lo, hi', cc, S, N, ro, te, de, lw⟩ := x
        simp only at c0 c1 c2 c3 c4 c5 c6 c7 c8 c9 c10
        by_cases k1 : kd = 4
        · have b1 : (kd == 4) = true := by simpa using k1
          have HE3 : Hid (ordG labs ((fs ls).drop (i + 1)) (addG G (findN labs n1) (findN labs lw)) = ordG labs (fs ls) gZ) := by have := HE2.out; rw [if_pos k1] at this; exact this
          clear HE2 k1
          go_wp2_with fail
          refine (HF.out _ n1).mono ?_
          rintro e w2 ⟨rfl, hw⟩; obtain rfl := hw.symm
          go_wp2_with fail
          refine (HF.out _ lw).mono ?_
          rintro e w2 ⟨rfl, hw⟩; obtain rfl := hw.symm
          go_wp2_with fail
          refine (HA.out _ _ _).mono ?_
          rintro e w2 ⟨rfl, hg2, ho2⟩
          have HO2 : Hid (OnlyG g wc w2) := (HO.out.alloc _).trans ho2
          have HG2 := hideP2 hg2
          clear hg2 ho2
          go_wp2_with fail
          go_roundw
          case rel => exact ⟨i + 1, _, by omega, by go_num, HO2, HG2, HE3⟩
          case measure => simp [intOf]; omega
        · have b1 : (kd == 4) = false := by simpa using k1
          have HE3 : Hid (ordG labs ((fs ls).drop (i + 1)) G = ordG labs (fs ls) gZ) := by have := HE2.out; rw [if_neg k1] at this; exact this
          clear HE2 k1
          go_wp2_with fail
          go_roundw
          case rel => exact ⟨i + 1, G, by omega, by go_num, hideP2 (HO.out.alloc _), hideP2 (HG.out.new _), HE3⟩
          case measure => simp [intOf]; omega
      · have HE3 : Hid (G = ordG labs (fs ls) gZ) := by have := HE.out; rw [List.drop_eq_nil_of_le (by simp; omega)] at this; exact this
        have HRs : Hid (wr.heap[w.heap.size]? = some (.cells (gC gZ) 94 (0, 0))) := by
          unfold Hid; rw [HO.out.block _ (Nat.lt_trans HM.out.g1 HM.out.lt) (Nat.ne_of_lt HM.out.g1)]; exact HM.out.res
        clear HE
        go_wp2_with (first
          | (refine wpList_load_row ?hgd 94 (.tmp 4) ?ho g ?hx 94 (gC G) (0, 0) _ HG.out.1 Tryz.underlying94 rfl (gInfoC HG.out.2) ?_
             case ho => rfl
             case hgd => rfl
             case hx => rfl)
          | (refine wpList_store_row ?hgd 94 (.tmp 2) (.tmp 33) ?ho w.heap.size (gC G) ?hx ?hy 94 (gC gZ) HRs.out (gInfoC HG.out.2) ?hold (gC_one G) ?_
             case ho => rfl
             case hgd => rfl
             case hx => rfl
             case hy => rfl
             case hold => rw [gC_size, gC_size, gZ_len, HG.out.2]))
        refine bodyPost_ret (v := .agg (gC G)) (results_cell_row Tryz.results108 _ _ w.heap.size 94 (gC G) (0, 0) _ rfl (setRow_heap _ _ (gC gZ) _ _ _ HRs.out) Tryz.underlying94 rfl (gInfoC HG.out.2)) rfl ⟨by rw [HLB.out, ← HE3.out], below_row HBw.out (Nat.le_refl _) _⟩
end Go.Proofs.YtnbpdffdnphbeaaGreatDoor
