/- What the program's links draw of conclusions: an arrow to each that is named. -/
import Derived.Test.YtnbpdffdnphbeaaGreatCkName
namespace Go.Proofs.YtnbpdffdnphbeaaGreat
open Go.RowKit

set_option maxRecDepth 100000 in
set_option maxHeartbeats 8000000 in
theorem Naming_s (w : World) (a : Option Addr) (c : Nat) (ls : List LX) (h : LinV w a ls) :
    Calls Tryz.prog 27 #[.slice a ls.length c] w fun e w' => e = .returned (.agg (gC (namG (headsB (fs ls)) (fs ls) gZ))) ∧ Below w.heap.size w w' := by
  have HL := hideP2 h
  have hfew := h.few
  have HRL := hideP2 (fun o => conclusions_s (w.alloc o) a c ls (h.below ((Below.refl _ _).alloc (Nat.le_refl _) o) (Nat.le_refl _)))
  clear h
  go_enter Tryz.func27, Tryz.ntmps27
  go_wp2_with fail
  refine (HRL.out _).mono ?_
  rintro e w1 ⟨v, rfl, hown, hlen, hb1⟩
  have hz : w1.heap[w.heap.size]? = some (.cells (gC gZ) 59 (0, 0)) := by rw [hb1.block _ (lt_end _ _)]; exact hb_end _ _
  have hs : w.heap.size < w1.heap.size := Nat.lt_of_lt_of_le (lt_end _ _) hb1.size
  have HK := hideP2 (fun o cs => LnkM.mk' (o := o) (cs := cs) hz (size_alloc hb1) hs hown (by omega))
  obtain ⟨la, lc, rfl, _⟩ := HK.out (.cells #[] 0 (0, 0)) #[]
  generalize hlb : headsB (fs ls) = names at *
  have HLB := hideP2 hlb
  clear hlb
  have HK2 : Hid (∀ o cs, LnkM w ((w1.alloc o).setRow w1.heap.size cs) w1.heap.size la names) := fun o cs => by
    obtain ⟨a', c', e, p⟩ := HK.out o cs
    simp only [Value.slice.injEq] at e
    rw [e.1]; exact p
  clear hz hown hb1 HK HRL
  go_upto_region 2 with fail
  go_cut [4] from 16 to 16 (fun p4 wx => p4 = .pointer (some ⟨w1.heap.size, 0, none⟩) ∧ Hid (LnkM w wx w1.heap.size la names) ∧ Hid (GrM wx w1.heap.size gZ))
  case first =>
    go_wp2_with (refine wpList_store_row ?hgd 59 (.tmp 4) (.tmp 16) ?ho w1.heap.size (gC gZ) ?hx ?hy 59 (gC gZ) (hb_end w1 _) (gInfoC gZ_len) rfl (gC_one gZ) ?_
                 case ho => rfl
                 case hgd => rfl
                 case hx => rfl
                 case hy => rfl)
    go_meet
    exact ⟨rfl, hideP2 (HK2.out _ _), hideP2 ⟨setRow_heap _ _ (gC gZ) _ _ _ (hb_end w1 _), gZ_len⟩⟩
  case rest =>
    obtain ⟨rfl, HM, HG0⟩ := hcut
    generalize w1.heap.size = g at *
    clear HK2
    go_wp2_with fail
    go_loopw [19] (fun iv wr => ∃ (i : Nat) (G : List Bool), i ≤ ls.length ∧ iv = .int .i64 i ∧ Hid (OnlyG g wc wr) ∧ Hid (GrM wr g G) ∧ Hid (namG names ((fs ls).drop i) G = namG names (fs ls) gZ)) (fun iv _ => ls.length - (intOf iv).toNat)
    case atStart => exact ⟨0, gZ, Nat.zero_le _, rfl, hideP2 (OnlyG.refl _ _), HG0, hideP2 rfl⟩
    case round =>
      obtain ⟨i, G, hi, rfl, HO, HG, HE⟩ := hrel
      clear HG0
      have HBw : Hid (Below w.heap.size w wr) := HM.out.bel.trans (HO.out.below HM.out.bel.size (Nat.le_of_lt HM.out.g1))
      by_cases hlt : i < ls.length
      · obtain ⟨gl, sa, sn, sc, na, nn, nc, rfl, hgl, ⟨c0, c1, c2, c3, c4, c5, c6, c7, c8, c9, c10⟩, eq, hC⟩ := (HL.out.below HBw.out (Nat.le_refl _)).line hlt
        have hE := HE.out
        rw [namG_drop _ _ i _ (by simpa using hlt), fs_get] at hE
        have HE2 := hideP2 hE
        have HF := hideP2 (fun o nm => find_s (wr.alloc o) la lc names nm (HM.out.str _ (HO.out.alloc o)))
        have HRl := hideP2 (fun hk => (HL.out.rows _ (lAt_mem hlt)).rule hk eq)
        clear HE hE hC eq
        generalize (lAt ls i).1 = x at *
        obtain ⟨kd, n1, lo, hi', cc, S, N, ro, te, de, lw⟩ := x
        simp only at c0 c1 c2 c3 c4 c5 c6 c7 c8 c9 c10 HRl
        by_cases k1 : kd = 3
        · have b1 : (kd != 3) = false := by simpa using k1
          obtain ⟨rfl, hS, rfl, hN⟩ := HRl.out k1
          have HE3 : Hid (namG names ((fs ls).drop (i + 1)) (nodeG names (findN names cc) N (partG names (findN names cc) S G)) = namG names (fs ls) gZ) := by have := HE2.out; rw [if_pos k1] at this; exact this
          have HS := hideP2 hS
          have HN := hideP2 hN
          have hs1 := hS.few
          have hn1 := hN.few
          unfold maxLen at hs1 hn1
          have hgw : g < wr.heap.size := Nat.lt_of_lt_of_le HM.out.lt HO.out.size
          clear HE2 k1 HRl hS hN
          go_wp2_with fail
          refine (HF.out _ cc).mono ?_
          rintro e w2 ⟨rfl, hw⟩
          have q : ∀ j, w2.cell? ⟨wr.heap.size, j, none⟩ = (rowA ⟨kd, n1, lo, hi', cc, S, N, ro, te, de, lw⟩ (.slice sa S.length sc) (.slice na N.length nc))[j]? := by rw [hw]; exact cell_row (hb_end _ _)
          have HO2 : Hid (OnlyG g wc w2) := by rw [hw]; exact HO.out.alloc _
          have HG2 : Hid (GrM w2 g G) := by rw [hw]; exact HG.out.new _
          have HBv : Hid (Below wr.heap.size wr w2) := by rw [hw]; exact (Below.refl _ _).alloc (Nat.le_refl _) _
          have HZ : Hid (wr.heap.size < w2.heap.size) := by rw [hw]; exact lt_end _ _
          clear hw HF c0 c1 c2 c3 c4 c5 c6 c7 c8 c9 c10 HG
          generalize findN names cc = fr at *
          obtain ⟨wL, hwL⟩ : ∃ wL, wL = wr := ⟨_, rfl⟩
          subst hwL
          go_wp2_with fail
          go_loopw [33] (fun iv wr => ∃ (k : Nat) (H : List Bool), k ≤ S.length ∧ iv = .int .i64 k ∧ Hid (OnlyG g w2 wr) ∧ Hid (GrM wr g H) ∧ Hid (partG names fr (S.drop k) H = partG names fr S G)) (fun iv _ => S.length - (intOf iv).toNat)
          case atStart => exact ⟨0, G, Nat.zero_le _, rfl, hideP2 (OnlyG.refl _ _), HG2, hideP2 rfl⟩
          case round =>
            obtain ⟨k, H, hk, rfl, HOk, HGk, HEk⟩ := hrel
            clear HG2
            have HOc : Hid (OnlyG g wc wr) := HO2.out.trans HOk.out
            by_cases hltk : k < S.length
            · have HBk : Hid (Below w.heap.size w wr) := HM.out.bel.trans (HOc.out.below HM.out.bel.size (Nat.le_of_lt HM.out.g1))
              obtain ⟨gs, cur, rfl, hp⟩ := (HS.out.below HBk.out (Nat.le_refl _)).blk (by omega)
              obtain ⟨d0, d1, d2, d3⟩ := hp.cells hltk
              have hgs := hp.lt
              have hE := HEk.out
              rw [partG_drop _ _ _ k _ hltk] at hE
              have HE4 := hideP2 hE
              have HF2 := hideP2 (fun o nm => find_s (wr.alloc o) la lc names nm (HM.out.str _ (HOc.out.alloc o)))
              have HA := hideP2 (fun o x y => Add_s (wr.alloc o) g H x y (HGk.out.new o))
              clear HEk hE hp
              generalize xAt S k = y at *
              obtain ⟨mi, st, nu, nm⟩ := y
              simp only at d0 d1 d2 d3
              go_wp2_with fail
              refine (HF2.out _ nm).mono ?_
              rintro e w3 ⟨rfl, hw⟩; obtain rfl := hw.symm
              go_wp2_with fail
              refine (HA.out _ _ _).mono ?_
              rintro e w3 ⟨rfl, hg3, ho3⟩
              have HO3 : Hid (OnlyG g w2 w3) := (HOk.out.alloc _).trans ho3
              have HG3 := hideP2 hg3
              clear hg3 ho3
              go_wp2_with fail
              go_roundw
              case rel => exact ⟨k + 1, _, by omega, by go_num, HO3, HG3, HE4⟩
              case measure => simp [intOf]; omega
            · have HE4 : Hid (H = partG names fr S G) := by have := HEk.out; rw [List.drop_eq_nil_of_le (by omega)] at this; exact this
              have q2 : ∀ j, wr.cell? ⟨wL.heap.size, j, none⟩ = (rowA ⟨kd, n1, lo, hi', cc, S, N, ro, te, de, lw⟩ (.slice sa S.length sc) (.slice na N.length nc))[j]? := fun j => by
                have e9 : wr.heap[wL.heap.size]? = w2.heap[wL.heap.size]? := HOk.out.block _ HZ.out (by omega)
                have := q j
                simp only [World.cell?, e9] at this ⊢
                exact this
              clear HEk q
              obtain ⟨wq, hwq⟩ : ∃ wq, wq = wr := ⟨_, rfl⟩
              subst hwq
              go_wp2_with fail
              go_loopw [49] (fun iv wr => ∃ (k : Nat) (H' : List Bool), k ≤ N.length ∧ iv = .int .i64 k ∧ Hid (OnlyG g wq wr) ∧ Hid (GrM wr g H') ∧ Hid (nodeG names fr (N.drop k) H' = nodeG names fr N H)) (fun iv _ => N.length - (intOf iv).toNat)
              case atStart => exact ⟨0, H, Nat.zero_le _, rfl, hideP2 (OnlyG.refl _ _), HGk, hideP2 rfl⟩
              case round =>
                obtain ⟨m, H2, hm, rfl, HOm, HGm, HEm⟩ := hrel
                clear HGk
                have HOd : Hid (OnlyG g wc wr) := HOc.out.trans HOm.out
                by_cases hltm : m < N.length
                · have HBk : Hid (Below w.heap.size w wr) := HM.out.bel.trans (HOd.out.below HM.out.bel.size (Nat.le_of_lt HM.out.g1))
                  obtain ⟨gs, cur, rfl, hp⟩ := (HN.out.below HBk.out (Nat.le_refl _)).blk (by omega)
                  obtain ⟨d0, d1, d2, d3, d4, d5, d6⟩ := hp.cells hltm
                  have hgs := hp.lt
                  have hE := HEm.out
                  rw [nodeG_drop _ _ _ m _ hltm] at hE
                  have HE5 := hideP2 hE
                  have HF2 := hideP2 (fun o nm => find_s (wr.alloc o) la lc names nm (HM.out.str _ (HOd.out.alloc o)))
                  have HA := hideP2 (fun o x y => Add_s (wr.alloc o) g H2 x y (HGm.out.new o))
                  clear HEm hE hp q2
                  generalize nAt N m = y at *
                  obtain ⟨kd', le, ri, nm, mk, ot, nu⟩ := y
                  simp only at d0 d1 d2 d3 d4 d5 d6
                  by_cases k5 : kd' = 5
                  · have b5 : (kd' == 5) = true := by simpa using k5
                    have HE6 : Hid (nodeG names fr (N.drop (m + 1)) (addG H2 fr (findN names nm)) = nodeG names fr N H) := by have := HE5.out; rw [if_pos k5] at this; exact this
                    clear HE5 k5
                    go_wp2_with fail
                    refine (HF2.out _ nm).mono ?_
                    rintro e w3 ⟨rfl, hw⟩; obtain rfl := hw.symm
                    go_wp2_with fail
                    refine (HA.out _ _ _).mono ?_
                    rintro e w3 ⟨rfl, hg3, ho3⟩
                    have HO3 : Hid (OnlyG g wq w3) := (HOm.out.alloc _).trans ho3
                    have HG3 := hideP2 hg3
                    clear hg3 ho3
                    go_wp2_with fail
                    go_roundw
                    case rel => exact ⟨m + 1, _, by omega, by go_num, HO3, HG3, HE6⟩
                    case measure => simp [intOf]; omega
                  · have b5 : (kd' == 5) = false := by simpa using k5
                    have HE6 : Hid (nodeG names fr (N.drop (m + 1)) H2 = nodeG names fr N H) := by have := HE5.out; rw [if_neg k5] at this; exact this
                    clear HE5 k5
                    go_wp2_with fail
                    go_roundw
                    case rel => exact ⟨m + 1, H2, by omega, by go_num, hideP2 (HOm.out.alloc _), hideP2 (HGm.out.new _), HE6⟩
                    case measure => simp [intOf]; omega
                · have HE6 : Hid (namG names ((fs ls).drop (i + 1)) H2 = namG names (fs ls) gZ) := by
                    have := HEm.out; rw [List.drop_eq_nil_of_le (by omega)] at this
                    unfold Hid; rw [← HE3.out, ← HE4.out, ← this]; rfl
                  clear HEm
                  go_wp2_with fail
                  go_roundw
                  case rel => exact ⟨i + 1, H2, by omega, by go_num, HOd, HGm, HE6⟩
                  case measure => simp [intOf]; omega
        · have b1 : (kd != 3) = true := by simpa using k1
          have HE3 : Hid (namG names ((fs ls).drop (i + 1)) G = namG names (fs ls) gZ) := by have := HE2.out; rw [if_neg k1] at this; exact this
          clear HE2 k1 HRl
          go_wp2_with fail
          go_roundw
          case rel => exact ⟨i + 1, G, by omega, by go_num, hideP2 (HO.out.alloc _), hideP2 (HG.out.new _), HE3⟩
          case measure => simp [intOf]; omega
      · have HE3 : Hid (G = namG names (fs ls) gZ) := by have := HE.out; rw [List.drop_eq_nil_of_le (by simp; omega)] at this; exact this
        have HRs : Hid (wr.heap[w.heap.size]? = some (.cells (gC gZ) 59 (0, 0))) := by
          unfold Hid; rw [HO.out.block _ (Nat.lt_trans HM.out.g1 HM.out.lt) (Nat.ne_of_lt HM.out.g1)]; exact HM.out.res
        clear HE
        go_wp2_with (first
          | (refine wpList_load_row ?hgd 59 (.tmp 4) ?ho g ?hx 59 (gC G) (0, 0) _ HG.out.1 Tryz.underlying59 rfl (gInfoC HG.out.2) ?_
             case ho => rfl
             case hgd => rfl
             case hx => rfl)
          | (refine wpList_store_row ?hgd 59 (.tmp 2) (.tmp 65) ?ho w.heap.size (gC G) ?hx ?hy 59 (gC gZ) HRs.out (gInfoC HG.out.2) ?hold (gC_one G) ?_
             case ho => rfl
             case hgd => rfl
             case hx => rfl
             case hy => rfl
             case hold => rw [gC_size, gC_size, gZ_len, HG.out.2]))
        refine bodyPost_ret (v := .agg (gC G)) (results_cell_row Tryz.results27 _ _ w.heap.size 59 (gC G) (0, 0) _ rfl (setRow_heap _ _ (gC gZ) _ _ _ HRs.out) Tryz.underlying59 rfl (gInfoC HG.out.2)) rfl ⟨by rw [HLB.out, ← HE3.out], below_row HBw.out (Nat.le_refl _) _⟩
end Go.Proofs.YtnbpdffdnphbeaaGreat

/- What the program's check asks of a pair of rules, and of each line: its error. -/
namespace Go.Proofs.YtnbpdffdnphbeaaGreat
open Go.RowKit

theorem findR_le (ls : List PLine) (nm : Bs) : findR ls nm ≤ ls.length := by have := (findG_le (isL 3 nm) ls 0).2; unfold findR; omega

set_option maxHeartbeats 2000000 in
theorem overError_s (w : World) (a : Option Addr) (c : Nat) (ls : List LX) (x : PLine) (sa na : Option Addr) (sn sc nn nc : Nat) (h : LinV w a ls) :
    Calls Tryz.prog 53 #[.slice a ls.length c, lineV (.slice sa sn sc) (.slice na nn nc) x] w fun e w' => e = .returned (.int .i64 (overE (fs ls) x)) ∧ Below w.heap.size w w' := by
  have hfew := h.few
  have HL := hideP2 h
  have HU := hideP2 (findRule_a h c x.name)
  have HW := hideP2 (findRule_a h c x.lower)
  have hu := findR_le (fs ls) x.name
  have hl := findR_le (fs ls) x.lower
  rw [fs_len] at hu hl
  have HR : Hid (overE (fs ls) x = if findR (fs ls) x.name = ls.length ∨ findR (fs ls) x.lower = ls.length then 4 else if x.name = x.lower ∨ (lAt ls (findR (fs ls) x.name)).1.conc ≠ (lAt ls (findR (fs ls) x.lower)).1.conc then 6 else 0) := by
    unfold Hid overE; rw [fs_get, fs_get, fs_len]
  clear h
  obtain ⟨kd, n1, lo, hi', cc, S, N, ro, te, de, lw⟩ := x
  simp only at HU HW hu hl HR
  unfold lineV
  generalize findR (fs ls) n1 = fu at *
  generalize findR (fs ls) lw = fl at *
  by_cases ku : fu = ls.length
  · have HR2 : Hid (overE (fs ls) ⟨kd, n1, lo, hi', cc, S, N, ro, te, de, lw⟩ = 4) := by unfold Hid; rw [HR.out, if_pos (.inl ku)]
    clear HR
    go_enter Tryz.func53, Tryz.ntmps53
    go_wp2_with fail
    refine (HU.out _ ((Below.refl _ _).alloc (Nat.le_refl _) _)).mono ?_
    rintro e w1 ⟨rfl, hb1⟩
    have HB1 : Hid (Below w.heap.size w w1) := size_alloc hb1
    have q1 := own_row hb1
    clear hb1
    go_wp2_with fail
    refine (HW.out _ HB1.out).mono ?_
    rintro e w2 ⟨rfl, hb2⟩
    have HB2 : Hid (Below w.heap.size w w2) := HB1.out.trans (hb2.mono HB1.out.size)
    clear hb2
    go_wp2_with fail
    go_ret
    exact ⟨ret_int HR2.out.symm, HB2.out⟩
  by_cases kl : fl = ls.length
  · have HR2 : Hid (overE (fs ls) ⟨kd, n1, lo, hi', cc, S, N, ro, te, de, lw⟩ = 4) := by unfold Hid; rw [HR.out, if_pos (.inr kl)]
    have bu : ((fu : Int) == (ls.length : Int)) = false := by simp; omega
    clear HR ku
    go_enter Tryz.func53, Tryz.ntmps53
    go_wp2_with fail
    refine (HU.out _ ((Below.refl _ _).alloc (Nat.le_refl _) _)).mono ?_
    rintro e w1 ⟨rfl, hb1⟩
    have HB1 : Hid (Below w.heap.size w w1) := size_alloc hb1
    have q1 := own_row hb1
    clear hb1
    go_wp2_with fail
    refine (HW.out _ HB1.out).mono ?_
    rintro e w2 ⟨rfl, hb2⟩
    have HB2 : Hid (Below w.heap.size w w2) := HB1.out.trans (hb2.mono HB1.out.size)
    clear hb2
    go_wp2_with fail
    go_ret
    exact ⟨ret_int HR2.out.symm, HB2.out⟩
  have hfu : fu < ls.length := by omega
  have hfl : fl < ls.length := by omega
  have HR2 : Hid (overE (fs ls) ⟨kd, n1, lo, hi', cc, S, N, ro, te, de, lw⟩ = if n1 = lw ∨ (lAt ls fu).1.conc ≠ (lAt ls fl).1.conc then 6 else 0) := by unfold Hid; rw [HR.out, if_neg (by rintro (e | e); exact ku e; exact kl e)]
  have bu : ((fu : Int) == (ls.length : Int)) = false := by simp; omega
  have bl : ((fl : Int) == (ls.length : Int)) = false := by simp; omega
  clear HR ku kl hu hl
  go_enter Tryz.func53, Tryz.ntmps53
  go_wp2_with fail
  refine (HU.out _ ((Below.refl _ _).alloc (Nat.le_refl _) _)).mono ?_
  rintro e w1 ⟨rfl, hb1⟩
  have HB1 : Hid (Below w.heap.size w w1) := size_alloc hb1
  have q1 := own_row hb1
  have HZ : Hid (w.heap.size < w1.heap.size) := Nat.lt_of_lt_of_le (lt_end _ _) hb1.size
  clear hb1
  go_wp2_with fail
  refine (HW.out _ HB1.out).mono ?_
  rintro e w2 ⟨rfl, hb2⟩
  have HB2 : Hid (Below w.heap.size w w2) := HB1.out.trans (hb2.mono HB1.out.size)
  have q2 : ∀ j, w2.cell? ⟨w.heap.size, j, none⟩ = (rowA ⟨kd, n1, lo, hi', cc, S, N, ro, te, de, lw⟩ (.slice sa sn sc) (.slice na nn nc))[j]? := fun j => (hb2.cell (p := ⟨w.heap.size, j, none⟩) HZ.out).trans (q1 j)
  clear hb2 q1
  obtain ⟨gl, _, _, _, _, _, _, rfl, hgl, ⟨_, _, _, _, c4, _, _, _, _, _, _⟩, _, _⟩ := (HL.out.below HB2.out (Nat.le_refl _)).line hfu
  obtain ⟨gl', _, _, _, _, _, _, hgg, _, ⟨_, _, _, _, d4, _, _, _, _, _, _⟩, _, _⟩ := (HL.out.below HB2.out (Nat.le_refl _)).line hfl
  obtain rfl : gl = gl' := by simpa using hgg
  clear hgg HL
  generalize (lAt ls fu).1.conc = cu at *
  generalize (lAt ls fl).1.conc = cl at *
  have e1 := q2 1
  have e10 := q2 10
  simp only [rowA, List.getElem?_toArray, List.getElem?_cons_succ, List.getElem?_cons_zero] at e1 e10
  have ifu : (fu : Int) < (ls.length : Int) := by omega
  have ifl : (fl : Int) < (ls.length : Int) := by omega
  go_wp2_with fail
  by_cases kn : n1 = lw
  · have HR3 : Hid (overE (fs ls) ⟨kd, n1, lo, hi', cc, S, N, ro, te, de, lw⟩ = 6) := by unfold Hid; rw [HR2.out, if_pos (.inl kn)]
    have bn : (n1 == lw) = true := by simpa using kn
    clear HR2 kn
    go_quiet (fail)
    go_wp2_with fail
    go_ret
    exact ⟨ret_int HR3.out.symm, below_drewN HB2.out _⟩
  · have bn : (n1 == lw) = false := by simpa using kn
    by_cases kc : cu = cl
    · have HR3 : Hid (overE (fs ls) ⟨kd, n1, lo, hi', cc, S, N, ro, te, de, lw⟩ = 0) := by unfold Hid; rw [HR2.out, if_neg (by rintro (e | e); exact kn e; exact e kc)]
      have bc : (cu == cl) = true := by simpa using kc
      clear HR2 kn kc
      go_quiet (fail)
      go_wp2_with fail
      go_ret
      exact ⟨ret_int HR3.out.symm, below_drewN HB2.out _⟩
    · have HR3 : Hid (overE (fs ls) ⟨kd, n1, lo, hi', cc, S, N, ro, te, de, lw⟩ = 6) := by unfold Hid; rw [HR2.out, if_pos (.inr kc)]
      have bc : (cu == cl) = false := by simpa using kc
      clear HR2 kn kc
      go_quiet (fail)
      go_wp2_with fail
      go_ret
      exact ⟨ret_int HR3.out.symm, below_drewN HB2.out _⟩

set_option maxHeartbeats 1000000 in
theorem lineError_s (w : World) (a : Option Addr) (c : Nat) (ls : List LX) (i : Nat) (hi : i < ls.length) (hc : ls.length ≤ c) (h : LinV w a ls) :
    Calls Tryz.prog 26 #[.slice a ls.length c, .int .i64 i] w fun e w' => e = .returned (.int .i64 (errP (fs ls) i)) ∧ Below w.heap.size w w' := by
  have hfew := h.few
  have HN := hideP2 (numError_s w a c ls i hi hc h)
  have HI := hideP2 (inputError_s w a c ls i hi hc h)
  have HR := hideP2 (fun hk => ruleError_s w a c ls i hi hc hk h)
  have HO := hideP2 (fun sa na sn sc nn nc => overError_s w a c ls (lAt ls i).1 sa na sn sc nn nc h)
  have hkinds := (h.rows _ (lAt_mem hi)).g.kinds
  have HE : Hid (errP (fs ls) i = if (lAt ls i).1.kind = 1 then numE (fs ls) i else if (lAt ls i).1.kind = 2 then inpE (fs ls) i else if (lAt ls i).1.kind = 3 then ruleE (fs ls) i else if (lAt ls i).1.kind = 4 then overE (fs ls) (lAt ls i).1 else 0) := by unfold Hid errP; rw [fs_get]
  obtain ⟨gl, sa, sn, sc, na, nn, nc, rfl, hgl, ⟨c0, c1, c2, c3, c4, c5, c6, c7, c8, c9, c10⟩, eq, hC⟩ := h.line hi
  have HO2 := hideP2 (HO.out sa na sn sc nn nc)
  unfold lineV at HO2
  clear h eq hC HO
  generalize (lAt ls i).1 = x at *
  obtain ⟨kd, n1, lo, hi', cc, S, N, ro, te, de, lw⟩ := x
  simp only at c0 c1 c2 c3 c4 c5 c6 c7 c8 c9 c10 HR HO2 HE hkinds
  rcases hkinds with rfl | rfl | rfl | rfl
  · have HE2 : Hid (errP (fs ls) i = numE (fs ls) i) := HE.out
    clear HE HI HR HO2 c1 c2 c3 c4 c5 c6 c7 c8 c9 c10
    go_enter Tryz.func26, Tryz.ntmps26
    go_wp2_with fail
    refine HN.out.mono ?_
    rintro e w1 ⟨rfl, hb1⟩
    have HB1 := hideP2 hb1
    clear hb1
    go_wp2_with fail
    go_ret
    exact ⟨ret_int HE2.out.symm, HB1.out⟩
  · have HE2 : Hid (errP (fs ls) i = inpE (fs ls) i) := HE.out
    clear HE HN HR HO2 c1 c2 c3 c4 c5 c6 c7 c8 c9 c10
    go_enter Tryz.func26, Tryz.ntmps26
    go_wp2_with fail
    refine HI.out.mono ?_
    rintro e w1 ⟨rfl, hb1⟩
    have HB1 := hideP2 hb1
    clear hb1
    go_wp2_with fail
    go_ret
    exact ⟨ret_int HE2.out.symm, HB1.out⟩
  · have HE2 : Hid (errP (fs ls) i = ruleE (fs ls) i) := HE.out
    clear HE HN HI HO2 c1 c2 c3 c4 c5 c6 c7 c8 c9 c10
    go_enter Tryz.func26, Tryz.ntmps26
    go_wp2_with fail
    refine (HR.out trivial).mono ?_
    rintro e w1 ⟨rfl, hb1⟩
    have HB1 := hideP2 hb1
    clear hb1
    go_wp2_with fail
    go_ret
    exact ⟨ret_int HE2.out.symm, HB1.out⟩
  · have HE2 : Hid (errP (fs ls) i = overE (fs ls) ⟨4, n1, lo, hi', cc, S, N, ro, te, de, lw⟩) := HE.out
    clear HE HN HI HR
    go_enter Tryz.func26, Tryz.ntmps26
    go_wp2_with fail
    refine HO2.out.mono ?_
    rintro e w1 ⟨rfl, hb1⟩
    have HB1 := hideP2 hb1
    clear hb1
    go_wp2_with fail
    go_ret
    exact ⟨ret_int HE2.out.symm, HB1.out⟩
end Go.Proofs.YtnbpdffdnphbeaaGreat
