/- What the program's check asks of a num's range, of a rule's names, of a pair: the error of a line. -/
import Derived.Test.YtnbpdffdnphbeaaGreatDoorCkErr
import Derived.Test.YtnbpdffdnphbeaaGreatDoorCkMany
import Derived.BigQuiet
namespace Go.Proofs.YtnbpdffdnphbeaaGreatDoor
open Go.RowKit

theorem below_drewN {B : Nat} {a w : World} (h : Below B a w) (n : Nat) : Below B a (w.drewN n) := ⟨h.os, h.tape, h.output, h.size, h.block⟩

set_option maxHeartbeats 1000000 in
theorem numError_s (w : World) (a : Option Addr) (c : Nat) (ls : List LX) (i : Nat) (hi : i < ls.length) (hc : ls.length ≤ c) (h : LinV w a ls) :
    Calls Tryz.prog 162 #[.slice a ls.length c, .int .i64 i] w fun e w' => e = .returned (.int .i64 (numE (fs ls) i)) ∧ Below w.heap.size w w' := by
  have hfew := h.few
  have HI := hideP2 (inputError_s w a c ls i hi hc h)
  have HL := hideP2 h
  have h4 : inpE (fs ls) i = 4 ∨ inpE (fs ls) i = 0 := by unfold inpE; split; exact .inl rfl; exact .inr rfl
  rcases h4 with h4 | h4
  · have HR : Hid (numE (fs ls) i = 4) := by unfold Hid numE; rw [h4]; rfl
    rw [h4] at HI
    clear h h4
    go_enter Tryz.func162, Tryz.ntmps162
    go_wp2_with fail
    refine HI.out.mono ?_
    rintro e w1 ⟨rfl, hb1⟩
    have HB1 := hideP2 hb1
    clear hb1
    go_wp2_with fail
    go_ret
    exact ⟨ret_int HR.out.symm, HB1.out⟩
  · have HR : Hid (numE (fs ls) i = if (lAt ls i).1.high < (lAt ls i).1.low then 5 else 0) := by unfold Hid numE; rw [h4, fs_get]; rfl
    rw [h4] at HI
    clear h h4
    go_enter Tryz.func162, Tryz.ntmps162
    go_wp2_with fail
    refine HI.out.mono ?_
    rintro e w1 ⟨rfl, hb1⟩
    have HB1 := hideP2 hb1
    obtain ⟨gl, sa, sn, sc, na, nn, nc, rfl, hgl, ⟨c0, c1, c2, c3, c4, c5, c6, c7, c8, c9, c10⟩, _, _⟩ := (HL.out.below hb1 (Nat.le_refl _)).line hi
    clear hb1 c0 c1 c4 c5 c6 c7 c8 c9 c10 HL HI
    generalize (lAt ls i).1.low = lo at *
    generalize (lAt ls i).1.high = hh at *
    go_wp2_with fail
    go_quiet (fail)
    by_cases hk : hh < lo
    · have HR2 : Hid (numE (fs ls) i = 5) := by unfold Hid; rw [HR.out, if_pos hk]
      go_wp2_with fail
      go_ret
      exact ⟨ret_int HR2.out.symm, below_drewN HB1.out _⟩
    · have HR2 : Hid (numE (fs ls) i = 0) := by unfold Hid; rw [HR.out, if_neg hk]
      go_wp2_with fail
      go_ret
      exact ⟨ret_int HR2.out.symm, below_drewN HB1.out _⟩

theorem below_call {B : Nat} {a w w1 : World} {o : Obj} (h : Below B a w) (hB : B ≤ w.heap.size) (h1 : Below (w.alloc o).heap.size (w.alloc o) w1) : Below B a w1 := (h.alloc hB o).trans (h1.mono (Nat.le_trans hB (Nat.le_of_lt (lt_end _ _))))
abbrev rowA (x : PLine) (sv nv : Value) : Array Value := #[.int .i64 x.kind, .string ⟨x.name.toArray⟩, .int .i64 x.low, .int .i64 x.high, .string ⟨x.conc.toArray⟩, sv, nv, .int .i64 x.root, .int .i64 x.tests, .int .i64 x.dep, .string ⟨x.lower.toArray⟩]

set_option maxHeartbeats 2000000 in
theorem ruleError_s (w : World) (a : Option Addr) (c : Nat) (ls : List LX) (i : Nat) (hi : i < ls.length) (hc : ls.length ≤ c) (hk : (lAt ls i).1.kind = 3) (h : LinV w a ls) :
    Calls Tryz.prog 164 #[.slice a ls.length c, .int .i64 i] w fun e w' => e = .returned (.int .i64 (ruleE (fs ls) i)) ∧ Below w.heap.size w w' := by
  have hfew := h.few
  have HR : Hid (ruleE (fs ls) i = if hasL ((fs ls).take i) 3 (lAt ls i).1.name || ((lAt ls i).1.sum.any (fun x => !partOk (fs ls) x) || (lAt ls i).1.nd.any (fun x => !nodeOk (fs ls) x)) then 4 else 0) := by unfold Hid ruleE; rw [fs_get]
  have H1 := hideP2 (hasLine_t h c 3 (lAt ls i).1.name i hi)
  have H2 := hideP2 (fun nm => isSummand_a h c nm)
  have H3 := hideP2 (fun x => isNodeKnown_a h c x)
  obtain ⟨gl, sa, sn, sc, na, nn, nc, rfl, hgl, ⟨c0, c1, c2, c3, c4, c5, c6, c7, c8, c9, c10⟩, eq, hC⟩ := h.line hi
  obtain ⟨rfl, hS, rfl, hN⟩ := hC.rule hk eq
  have HS := hideP2 hS
  have HN := hideP2 hN
  have hs1 := hS.few
  have hn1 := hN.few
  unfold maxLen at hs1 hn1
  clear h eq hC hS hN hk
  generalize (lAt ls i).1 = x at *
  obtain ⟨kd, n1, lo, hi', cc, S, N, ro, te, de, lw⟩ := x
  simp only at c0 c1 c2 c3 c4 c5 c6 c7 c8 c9 c10 HR H1 HS HN hs1 hn1
  generalize hasL ((fs ls).take i) 3 n1 = p at *
  go_enter Tryz.func164, Tryz.ntmps164
  go_wp2_with fail
  go_cut [19] from 14 to 19 (fun v wx => v = .bool p ∧ Hid (Below w.heap.size w wx) ∧ Hid (w.heap.size < wx.heap.size) ∧ ∀ j, wx.cell? ⟨w.heap.size, j, none⟩ = (rowA ⟨kd, n1, lo, hi', cc, S, N, ro, te, de, lw⟩ (.slice sa S.length sc) (.slice na N.length nc))[j]?)
  case first =>
    go_region_with (go_at_call 219
                    refine (H1.out _ (Below.drew (Below.alloc (Below.refl _ _) (Nat.le_refl _) _))).mono ?_
                    rintro e w1 ⟨rfl, hb1⟩
                    have b1 := hb_below (hb_drew (hb_end _ _)) hb1 (lt_drew (lt_end _ _))
                    have HB1 : Hid (Below w.heap.size w w1) := (Below.drew (Below.alloc (Below.refl _ _) (Nat.le_refl _) _)).trans (hb1.mono (Nat.le_of_lt (lt_drew (lt_end _ _))))
                    have q := cell_row b1
                    have HZ : Hid (w.heap.size < w1.heap.size) := Nat.lt_of_lt_of_le (lt_drew (lt_end _ _)) hb1.size
                    clear hb1 b1)
    all_goals
      go_wp2_with fail
      go_meet
      exact ⟨rfl, HB1, HZ, q⟩
  case rest =>
    obtain ⟨rfl, HB1, HZ, q⟩ := hcut
    clear c0 c1 c2 c3 c4 c5 c6 c7 c8 c9 c10 H1
    cases p
    · have HR2 : Hid (ruleE (fs ls) i = if S.any (fun x => !partOk (fs ls) x) || N.any (fun x => !nodeOk (fs ls) x) then 4 else 0) := HR.out
      clear HR
      go_wp2_with fail
      go_loopw [23] (fun iv wr => ∃ (k : Nat), k ≤ S.length ∧ iv = .int .i64 k ∧ Hid (Below wc.heap.size wc wr) ∧ Hid ((S.drop k).any (fun x => !partOk (fs ls) x) = S.any (fun x => !partOk (fs ls) x))) (fun iv _ => S.length - (intOf iv).toNat)
      case atStart => exact ⟨0, Nat.zero_le _, rfl, hideP2 (Below.refl _ _), hideP2 rfl⟩
      case round =>
        obtain ⟨k, hk, rfl, HBr, HE⟩ := hrel
        have HBw : Hid (Below w.heap.size w wr) := HB1.out.trans (HBr.out.mono HB1.out.size)
        have hsz := HBr.out.size
        have hsw := HBw.out.size
        by_cases hlt : k < S.length
        · obtain ⟨g, cur, rfl, hp⟩ := (HS.out.below HBw.out (Nat.le_refl _)).blk (by omega)
          obtain ⟨d0, d1, d2, d3⟩ := hp.cells hlt
          have hg := hp.lt
          have hE := HE.out
          rw [any_drop _ xz _ k hlt, show S.getD k xz = xAt S k from rfl] at hE
          have HE2 := hideP2 hE
          clear HE hE hp q
          generalize xAt S k = y at *
          obtain ⟨mi, st, nu, nm⟩ := y
          simp only at d0 d1 d2 d3
          by_cases ko : nm = []
          · have HE3 : Hid ((S.drop (k + 1)).any (fun x => !partOk (fs ls) x) = S.any (fun x => !partOk (fs ls) x)) := by have := HE2.out; unfold Hid; rw [← this]; simp [partOk, ko]
            have bo : (nm == []) = true := by simpa using ko
            clear HE2 ko
            go_wp2_with fail
            go_roundw
            case rel => exact ⟨k + 1, by omega, by go_num, hideP2 (HBr.out.alloc hsz _), HE3⟩
            case measure => simp [intOf]; omega
          · have HA := hideP2 (H2.out nm)
            have bo : (nm == []) = false := by simpa using ko
            have HE2' : Hid ((!sumOk (fs ls) nm || (S.drop (k + 1)).any (fun x => !partOk (fs ls) x)) = S.any (fun x => !partOk (fs ls) x)) := by have := HE2.out; unfold Hid; rw [← this]; simp [partOk, ko]
            clear HE2 ko
            generalize sumOk (fs ls) nm = z at *
            cases z
            · have HR3 : Hid (ruleE (fs ls) i = 4) := by unfold Hid; rw [HR2.out, ← HE2'.out]; rfl
              clear HE2'
              go_wp2_with fail
              refine (HA.out _ (HBw.out.alloc hsw _)).mono ?_
              rintro e w1 ⟨rfl, hb1⟩
              have HBn : Hid (Below w.heap.size w w1) := below_call HBw.out hsw hb1
              clear hb1
              go_wp2_with fail
              go_ret
              exact ⟨ret_int HR3.out.symm, HBn.out⟩
            · have HE3 : Hid ((S.drop (k + 1)).any (fun x => !partOk (fs ls) x) = S.any (fun x => !partOk (fs ls) x)) := by have := HE2'.out; unfold Hid; rw [← this]; rfl
              clear HE2'
              go_wp2_with fail
              refine (HA.out _ (HBw.out.alloc hsw _)).mono ?_
              rintro e w1 ⟨rfl, hb1⟩
              have HBn : Hid (Below wc.heap.size wc w1) := below_call HBr.out hsz hb1
              clear hb1
              go_wp2_with fail
              go_roundw
              case rel => exact ⟨k + 1, by omega, by go_num, HBn, HE3⟩
              case measure => simp [intOf]; omega
        · have HR3 : Hid (ruleE (fs ls) i = if N.any (fun x => !nodeOk (fs ls) x) then 4 else 0) := by
            have := HE.out; rw [List.drop_eq_nil_of_le (by omega)] at this
            unfold Hid; rw [HR2.out, ← this]; rfl
          have qr : ∀ j, wr.cell? ⟨w.heap.size, j, none⟩ = (rowA ⟨kd, n1, lo, hi', cc, S, N, ro, te, de, lw⟩ (.slice sa S.length sc) (.slice na N.length nc))[j]? := fun j => (HBr.out.cell (p := ⟨w.heap.size, j, none⟩) HZ.out).trans (q j)
          clear HE HR2 q HS H2
          obtain ⟨wq, rfl⟩ : ∃ wq, wq = wr := ⟨_, rfl⟩
          go_wp2_with fail
          go_loopw [42] (fun iv wr => ∃ (k : Nat), k ≤ N.length ∧ iv = .int .i64 k ∧ Hid (Below wq.heap.size wq wr) ∧ Hid ((N.drop k).any (fun x => !nodeOk (fs ls) x) = N.any (fun x => !nodeOk (fs ls) x))) (fun iv _ => N.length - (intOf iv).toNat)
          case atStart => exact ⟨0, Nat.zero_le _, rfl, hideP2 (Below.refl _ _), hideP2 rfl⟩
          case round =>
            obtain ⟨m, hm, rfl, HBs, HF⟩ := hrel
            have HBv : Hid (Below w.heap.size w wr) := HBw.out.trans (HBs.out.mono hsw)
            have hsz2 := HBs.out.size
            have hsw2 := HBv.out.size
            by_cases hlt2 : m < N.length
            · obtain ⟨g, cur, rfl, hp⟩ := (HN.out.below HBv.out (Nat.le_refl _)).blk (by omega)
              obtain ⟨d0, d1, d2, d3, d4, d5, d6⟩ := hp.cells hlt2
              have hg := hp.lt
              have hE := HF.out
              rw [any_drop _ nz _ m hlt2, show N.getD m nz = nAt N m from rfl] at hE
              have HE2 := hideP2 hE
              have HA := hideP2 (H3.out (nAt N m))
              clear HF hE hp qr
              generalize nodeOk (fs ls) (nAt N m) = z at *
              unfold nodeV at HA
              generalize nAt N m = y at *
              obtain ⟨kd', le, ri, nm, mk, ot, nu⟩ := y
              simp only at d0 d1 d2 d3 d4 d5 d6 HA
              cases z
              · have HR4 : Hid (ruleE (fs ls) i = 4) := by unfold Hid; rw [HR3.out, ← HE2.out]; rfl
                clear HE2
                go_wp2_with fail
                refine (HA.out _ (HBv.out.alloc hsw2 _)).mono ?_
                rintro e w1 ⟨rfl, hb1⟩
                have HBn : Hid (Below w.heap.size w w1) := below_call HBv.out hsw2 hb1
                clear hb1
                go_wp2_with fail
                go_ret
                exact ⟨ret_int HR4.out.symm, HBn.out⟩
              · have HE3 : Hid ((N.drop (m + 1)).any (fun x => !nodeOk (fs ls) x) = N.any (fun x => !nodeOk (fs ls) x)) := by have := HE2.out; unfold Hid; rw [← this]; rfl
                clear HE2
                go_wp2_with fail
                refine (HA.out _ (HBv.out.alloc hsw2 _)).mono ?_
                rintro e w1 ⟨rfl, hb1⟩
                have HBn : Hid (Below wq.heap.size wq w1) := below_call HBs.out hsz2 hb1
                clear hb1
                go_wp2_with fail
                go_roundw
                case rel => exact ⟨m + 1, by omega, by go_num, HBn, HE3⟩
                case measure => simp [intOf]; omega
            · have HR4 : Hid (ruleE (fs ls) i = 0) := by
                have := HF.out; rw [List.drop_eq_nil_of_le (by omega)] at this
                unfold Hid; rw [HR3.out, ← this]; rfl
              clear HF
              go_wp2_with fail
              go_ret
              exact ⟨ret_int HR4.out.symm, HBv.out⟩
    · have HR2 : Hid (ruleE (fs ls) i = 4) := HR.out
      clear HR
      go_wp2_with fail
      go_ret
      exact ⟨ret_int HR2.out.symm, HB1.out⟩
end Go.Proofs.YtnbpdffdnphbeaaGreatDoor

/- What the program's links draw of conclusions: an arrow to each that is named. -/
namespace Go.Proofs.YtnbpdffdnphbeaaGreatDoor
open Go.RowKit

set_option maxRecDepth 100000 in
set_option maxHeartbeats 8000000 in
theorem Naming_s (w : World) (a : Option Addr) (c : Nat) (ls : List LX) (h : LinV w a ls) :
    Calls Tryz.prog 106 #[.slice a ls.length c] w fun e w' => e = .returned (.agg (gC (namG (headsB (fs ls)) (fs ls) gZ))) ∧ Below w.heap.size w w' := by
  have HL := hideP2 h
  have hfew := h.few
  have HRL := hideP2 (fun o => conclusions_s (w.alloc o) a c ls (h.below ((Below.refl _ _).alloc (Nat.le_refl _) o) (Nat.le_refl _)))
  clear h
  go_enter Tryz.func106, Tryz.ntmps106
  go_wp2_with fail
  refine (HRL.out _).mono ?_
  rintro e w1 ⟨v, rfl, hown, hlen, hb1⟩
  have hz : w1.heap[w.heap.size]? = some (.cells (gC gZ) 94 (0, 0)) := by rw [hb1.block _ (lt_end _ _)]; exact hb_end _ _
  have hs : w.heap.size < w1.heap.size := Nat.lt_of_lt_of_le (lt_end _ _) hb1.size
  have HK := hideP2 (fun o cs => LnkM.mk' (o := o) (cs := cs) hz (size_alloc hb1) hs hown (by omega))
  obtain ⟨la, lc, rfl, _⟩ := HK.out (.cells #[] 0 (0, 0)) #[]
  generalize hlb : headsB (fs ls) = names at *
  have HLB := hideP2 hlb
  clear hlb
  have HK2 : Hid (∀ o cs, LnkM w ((w1.alloc o).setRow w1.heap.size cs) w1.heap.size la names) := fun o cs => by
    obtain ⟨a', c', e, p⟩ := HK.out o cs
    simp only [Value.slice.injEq] at e
    rw [e.1]; exact p
  clear hz hown hb1 HK HRL
  go_upto_region 2 with fail
  go_cut [4] from 16 to 16 (fun p4 wx => p4 = .pointer (some ⟨w1.heap.size, 0, none⟩) ∧ Hid (LnkM w wx w1.heap.size la names) ∧ Hid (GrM wx w1.heap.size gZ))
  case first =>
    go_wp2_with (refine wpList_store_row ?hgd 94 (.tmp 4) (.tmp 16) ?ho w1.heap.size (gC gZ) ?hx ?hy 94 (gC gZ) (hb_end w1 _) (gInfoC gZ_len) rfl (gC_one gZ) ?_
                 case ho => rfl
                 case hgd => rfl
                 case hx => rfl
                 case hy => rfl)
    go_meet
    exact ⟨rfl, hideP2 (HK2.out _ _), hideP2 ⟨setRow_heap _ _ (gC gZ) _ _ _ (hb_end w1 _), gZ_len⟩⟩
  case rest =>
    obtain ⟨rfl, HM, HG0⟩ := hcut
    generalize w1.heap.size = g at *
    clear HK2
    go_wp2_with fail
    go_loopw [19] (fun iv wr => ∃ (i : Nat) (G : List Bool), i ≤ ls.length ∧ iv = .int .i64 i ∧ Hid (OnlyG g wc wr) ∧ Hid (GrM wr g G) ∧ Hid (namG names ((fs ls).drop i) G = namG names (fs ls) gZ)) (fun iv _ => ls.length - (intOf iv).toNat)
    case atStart => exact ⟨0, gZ, Nat.zero_le _, rfl, hideP2 (OnlyG.refl _ _), HG0, hideP2 rfl⟩
    case round =>
      obtain ⟨i, G, hi, rfl, HO, HG, HE⟩ := hrel
      clear HG0
      have HBw : Hid (Below w.heap.size w wr) := HM.out.bel.trans (HO.out.below HM.out.bel.size (Nat.le_of_lt HM.out.g1))
      by_cases hlt : i < ls.length
      · obtain ⟨gl, sa, sn, sc, na, nn, nc, rfl, hgl, ⟨c0, c1, c2, c3, c4, c5, c6, c7, c8, c9, c10⟩, eq, hC⟩ := (HL.out.below HBw.out (Nat.le_refl _)).line hlt
        have hE := HE.out
        rw [namG_drop _ _ i _ (by simpa using hlt), fs_get] at hE
        have HE2 := hideP2 hE
        have HF := hideP2 (fun o nm => find_s (wr.alloc o) la lc names nm (HM.out.str _ (HO.out.alloc o)))
        have HRl := hideP2 (fun hk => (HL.out.rows _ (lAt_mem hlt)).rule hk eq)
        clear HE hE hC eq
        generalize (lAt ls i).1 = x at *
        obtain ⟨kd, n1, lo, hi', cc, S, N, ro, te, de, lw⟩ := x
        simp only at c0 c1 c2 c3 c4 c5 c6 c7 c8 c9 c10 HRl
        by_cases k1 : kd = 3
        · have b1 : (kd != 3) = false := by simpa using k1
          obtain ⟨rfl, hS, rfl, hN⟩ := HRl.out k1
          have HE3 : Hid (namG names ((fs ls).drop (i + 1)) (nodeG names (findN names cc) N (partG names (findN names cc) S G)) = namG names (fs ls) gZ) := by have := HE2.out; rw [if_pos k1] at this; exact this
          have HS := hideP2 hS
          have HN := hideP2 hN
          have hs1 := hS.few
          have hn1 := hN.few
          unfold maxLen at hs1 hn1
          have hgw : g < wr.heap.size := Nat.lt_of_lt_of_le HM.out.lt HO.out.size
          clear HE2 k1 HRl hS hN
          go_wp2_with fail
          refine (HF.out _ cc).mono ?_
          rintro e w2 ⟨rfl, hw⟩
          have q : ∀ j, w2.cell? ⟨wr.heap.size, j, none⟩ = (rowA ⟨kd, n1, lo, hi', cc, S, N, ro, te, de, lw⟩ (.slice sa S.length sc) (.slice na N.length nc))[j]? := by rw [hw]; exact cell_row (hb_end _ _)
          have HO2 : Hid (OnlyG g wc w2) := by rw [hw]; exact HO.out.alloc _
          have HG2 : Hid (GrM w2 g G) := by rw [hw]; exact HG.out.new _
          have HBv : Hid (Below wr.heap.size wr w2) := by rw [hw]; exact (Below.refl _ _).alloc (Nat.le_refl _) _
          have HZ : Hid (wr.heap.size < w2.heap.size) := by rw [hw]; exact lt_end _ _
          clear hw HF c0 c1 c2 c3 c4 c5 c6 c7 c8 c9 c10 HG
          generalize findN names cc = fr at *
          obtain ⟨wL, hwL⟩ : ∃ wL, wL = wr := ⟨_, rfl⟩
          subst hwL
          go_wp2_with fail
          go_loopw [33] (fun iv wr => ∃ (k : Nat) (H : List Bool), k ≤ S.length ∧ iv = .int .i64 k ∧ Hid (OnlyG g w2 wr) ∧ Hid (GrM wr g H) ∧ Hid (partG names fr (S.drop k) H = partG names fr S G)) (fun iv _ => S.length - (intOf iv).toNat)
          case atStart => exact ⟨0, G, Nat.zero_le _, rfl, hideP2 (OnlyG.refl _ _), HG2, hideP2 rfl⟩
          case round =>
            obtain ⟨k, H, hk, rfl, HOk, HGk, HEk⟩ := hrel
            clear HG2
            have HOc : Hid (OnlyG g wc wr) := HO2.out.trans HOk.out
            by_cases hltk : k < S.length
            · have HBk : Hid (Below w.heap.size w wr) := HM.out.bel.trans (HOc.out.below HM.out.bel.size (Nat.le_of_lt HM.out.g1))
              obtain ⟨gs, cur, rfl, hp⟩ := (HS.out.below HBk.out (Nat.le_refl _)).blk (by omega)
              obtain ⟨d0, d1, d2, d3⟩ := hp.cells hltk
              have hgs := hp.lt
              have hE := HEk.out
              rw [partG_drop _ _ _ k _ hltk] at hE
              have HE4 := hideP2 hE
              have HF2 := hideP2 (fun o nm => find_s (wr.alloc o) la lc names nm (HM.out.str _ (HOc.out.alloc o)))
              have HA := hideP2 (fun o x y => Add_s (wr.alloc o) g H x y (HGk.out.new o))
              clear HEk hE hp
              generalize xAt S k = y at *
              obtain ⟨mi, st, nu, nm⟩ := y
              simp only at d0 d1 d2 d3
              go_wp2_with fail
              refine (HF2.out _ nm).mono ?_
              rintro e w3 ⟨rfl, hw⟩; obtain rfl := hw.symm
              go_wp2_with fail
              refine (HA.out _ _ _).mono ?_
              rintro e w3 ⟨rfl, hg3, ho3⟩
              have HO3 : Hid (OnlyG g w2 w3) := (HOk.out.alloc _).trans ho3
              have HG3 := hideP2 hg3
              clear hg3 ho3
              go_wp2_with fail
              go_roundw
              case rel => exact ⟨k + 1, _, by omega, by go_num, HO3, HG3, HE4⟩
              case measure => simp [intOf]; omega
            · have HE4 : Hid (H = partG names fr S G) := by have := HEk.out; rw [List.drop_eq_nil_of_le (by omega)] at this; exact this
              have q2 : ∀ j, wr.cell? ⟨wL.heap.size, j, none⟩ = (rowA ⟨kd, n1, lo, hi', cc, S, N, ro, te, de, lw⟩ (.slice sa S.length sc) (.slice na N.length nc))[j]? := fun j => by
                have e9 : wr.heap[wL.heap.size]? = w2.heap[wL.heap.size]? := HOk.out.block _ HZ.out (by omega)
                have := q j
                simp only [World.cell?, e9] at this ⊢
                exact this
              clear HEk q
              obtain ⟨wq, hwq⟩ : ∃ wq, wq = wr := ⟨_, rfl⟩
              subst hwq
              go_wp2_with fail
              go_loopw [49] (fun iv wr => ∃ (k : Nat) (H' : List Bool), k ≤ N.length ∧ iv = .int .i64 k ∧ Hid (OnlyG g wq wr) ∧ Hid (GrM wr g H') ∧ Hid (nodeG names fr (N.drop k) H' = nodeG names fr N H)) (fun iv _ => N.length - (intOf iv).toNat)
              case atStart => exact ⟨0, H, Nat.zero_le _, rfl, hideP2 (OnlyG.refl _ _), HGk, hideP2 rfl⟩
              case round =>
                obtain ⟨m, H2, hm, rfl, HOm, HGm, HEm⟩ := hrel
                clear HGk
                have HOd : Hid (OnlyG g wc wr) := HOc.out.trans HOm.out
                by_cases hltm : m < N.length
                · have HBk : Hid (Below w.heap.size w wr) := HM.out.bel.trans (HOd.out.below HM.out.bel.size (Nat.le_of_lt HM.out.g1))
                  obtain ⟨gs, cur, rfl, hp⟩ := (HN.out.below HBk.out (Nat.le_refl _)).blk (by omega)
                  obtain ⟨d0, d1, d2, d3, d4, d5, d6⟩ := hp.cells hltm
                  have hgs := hp.lt
                  have hE := HEm.out
                  rw [nodeG_drop _ _ _ m _ hltm] at hE
                  have HE5 := hideP2 hE
                  have HF2 := hideP2 (fun o nm => find_s (wr.alloc o) la lc names nm (HM.out.str _ (HOd.out.alloc o)))
                  have HA := hideP2 (fun o x y => Add_s (wr.alloc o) g H2 x y (HGm.out.new o))
                  clear HEm hE hp q2
                  generalize nAt N m = y at *
                  obtain ⟨kd', le, ri, nm, mk, ot, nu⟩ := y
                  simp only at d0 d1 d2 d3 d4 d5 d6
                  by_cases k5 : kd' = 5
                  · have b5 : (kd' == 5) = true := by simpa using k5
                    have HE6 : Hid (nodeG names fr (N.drop (m + 1)) (addG H2 fr (findN names nm)) = nodeG names fr N H) := by have := HE5.out; rw [if_pos k5] at this; exact this
                    clear HE5 k5
                    go_wp2_with fail
                    refine (HF2.out _ nm).mono ?_
                    rintro e w3 ⟨rfl, hw⟩; obtain rfl := hw.symm
                    go_wp2_with fail
                    refine (HA.out _ _ _).mono ?_
                    rintro e w3 ⟨rfl, hg3, ho3⟩
                    have HO3 : Hid (OnlyG g wq w3) := (HOm.out.alloc _).trans ho3
                    have HG3 := hideP2 hg3
                    clear hg3 ho3
                    go_wp2_with fail
                    go_roundw
                    case rel => exact ⟨m + 1, _, by omega, by go_num, HO3, HG3, HE6⟩
                    case measure => simp [intOf]; omega
                  · have b5 : (kd' == 5) = false := by simpa using k5
                    have HE6 : Hid (nodeG names fr (N.drop (m + 1)) H2 = nodeG names fr N H) := by have := HE5.out; rw [if_neg k5] at this; exact this
                    clear HE5 k5
                    go_wp2_with fail
                    go_roundw
                    case rel => exact ⟨m + 1, H2, by omega, by go_num, hideP2 (HOm.out.alloc _), hideP2 (HGm.out.new _), HE6⟩
                    case measure => simp [intOf]; omega
                · have HE6 : Hid (namG names ((fs ls).drop (i + 1)) H2 = namG names (fs ls) gZ) := by
                    have := HEm.out; rw [List.drop_eq_nil_of_le (by omega)] at this
                    unfold Hid; rw [← HE3.out, ← HE4.out, ← this]; rfl
                  clear HEm
                  go_wp2_with fail
                  go_roundw
                  case rel => exact ⟨i + 1, H2, by omega, by go_num, HOd, HGm, HE6⟩
                  case measure => simp [intOf]; omega
        · have b1 : (kd != 3) = true := by simpa using k1
          have HE3 : Hid (namG names ((fs ls).drop (i + 1)) G = namG names (fs ls) gZ) := by have := HE2.out; rw [if_neg k1] at this; exact this
          clear HE2 k1 HRl
          go_wp2_with fail
          go_roundw
          case rel => exact ⟨i + 1, G, by omega, by go_num, hideP2 (HO.out.alloc _), hideP2 (HG.out.new _), HE3⟩
          case measure => simp [intOf]; omega
      · have HE3 : Hid (G = namG names (fs ls) gZ) := by have := HE.out; rw [List.drop_eq_nil_of_le (by simp; omega)] at this; exact this
        have HRs : Hid (wr.heap[w.heap.size]? = some (.cells (gC gZ) 94 (0, 0))) := by
          unfold Hid; rw [HO.out.block _ (Nat.lt_trans HM.out.g1 HM.out.lt) (Nat.ne_of_lt HM.out.g1)]; exact HM.out.res
        clear HE
        go_wp2_with (first
          | (refine wpList_load_row ?hgd 94 (.tmp 4) ?ho g ?hx 94 (gC G) (0, 0) _ HG.out.1 Tryz.underlying94 rfl (gInfoC HG.out.2) ?_
             case ho => rfl
             case hgd => rfl
             case hx => rfl)
          | (refine wpList_store_row ?hgd 94 (.tmp 2) (.tmp 65) ?ho w.heap.size (gC G) ?hx ?hy 94 (gC gZ) HRs.out (gInfoC HG.out.2) ?hold (gC_one G) ?_
             case ho => rfl
             case hgd => rfl
             case hx => rfl
             case hy => rfl
             case hold => rw [gC_size, gC_size, gZ_len, HG.out.2]))
        refine bodyPost_ret (v := .agg (gC G)) (results_cell_row Tryz.results106 _ _ w.heap.size 94 (gC G) (0, 0) _ rfl (setRow_heap _ _ (gC gZ) _ _ _ HRs.out) Tryz.underlying94 rfl (gInfoC HG.out.2)) rfl ⟨by rw [HLB.out, ← HE3.out], below_row HBw.out (Nat.le_refl _) _⟩
end Go.Proofs.YtnbpdffdnphbeaaGreatDoor

/- What the program's check asks of a pair of rules, and of each line: its error. -/
namespace Go.Proofs.YtnbpdffdnphbeaaGreatDoor
open Go.RowKit

theorem findR_le (ls : List PLine) (nm : Bs) : findR ls nm ≤ ls.length := by have := (findG_le (isL 3 nm) ls 0).2; unfold findR; omega

set_option maxHeartbeats 2000000 in
theorem overError_s (w : World) (a : Option Addr) (c : Nat) (ls : List LX) (x : PLine) (sa na : Option Addr) (sn sc nn nc : Nat) (h : LinV w a ls) :
    Calls Tryz.prog 165 #[.slice a ls.length c, lineV (.slice sa sn sc) (.slice na nn nc) x] w fun e w' => e = .returned (.int .i64 (overE (fs ls) x)) ∧ Below w.heap.size w w' := by
  have hfew := h.few
  have HL := hideP2 h
  have HU := hideP2 (findRule_a h c x.name)
  have HW := hideP2 (findRule_a h c x.lower)
  have hu := findR_le (fs ls) x.name
  have hl := findR_le (fs ls) x.lower
  rw [fs_len] at hu hl
  have HR : Hid (overE (fs ls) x = if findR (fs ls) x.name = ls.length ∨ findR (fs ls) x.lower = ls.length then 4 else if x.name = x.lower ∨ (lAt ls (findR (fs ls) x.name)).1.conc ≠ (lAt ls (findR (fs ls) x.lower)).1.conc then 6 else 0) := by
    unfold Hid overE; rw [fs_get, fs_get, fs_len]
  clear h
  obtain ⟨kd, n1, lo, hi', cc, S, N, ro, te, de, lw⟩ := x
  simp only at HU HW hu hl HR
  unfold lineV
  generalize findR (fs ls) n1 = fu at *
  generalize findR (fs ls) lw = fl at *
  by_cases ku : fu = ls.length
  · have HR2 : Hid (overE (fs ls) ⟨kd, n1, lo, hi', cc, S, N, ro, te, de, lw⟩ = 4) := by unfold Hid; rw [HR.out, if_pos (.inl ku)]
    clear HR
    go_enter Tryz.func165, Tryz.ntmps165
    go_wp2_with fail
    refine (HU.out _ ((Below.refl _ _).alloc (Nat.le_refl _) _)).mono ?_
    rintro e w1 ⟨rfl, hb1⟩
    have HB1 : Hid (Below w.heap.size w w1) := size_alloc hb1
    have q1 := own_row hb1
    clear hb1
    go_wp2_with fail
    refine (HW.out _ HB1.out).mono ?_
    rintro e w2 ⟨rfl, hb2⟩
    have HB2 : Hid (Below w.heap.size w w2) := HB1.out.trans (hb2.mono HB1.out.size)
    clear hb2
    go_wp2_with fail
    go_ret
    exact ⟨ret_int HR2.out.symm, HB2.out⟩
  by_cases kl : fl = ls.length
  · have HR2 : Hid (overE (fs ls) ⟨kd, n1, lo, hi', cc, S, N, ro, te, de, lw⟩ = 4) := by unfold Hid; rw [HR.out, if_pos (.inr kl)]
    have bu : ((fu : Int) == (ls.length : Int)) = false := by simp; omega
    clear HR ku
    go_enter Tryz.func165, Tryz.ntmps165
    go_wp2_with fail
    refine (HU.out _ ((Below.refl _ _).alloc (Nat.le_refl _) _)).mono ?_
    rintro e w1 ⟨rfl, hb1⟩
    have HB1 : Hid (Below w.heap.size w w1) := size_alloc hb1
    have q1 := own_row hb1
    clear hb1
    go_wp2_with fail
    refine (HW.out _ HB1.out).mono ?_
    rintro e w2 ⟨rfl, hb2⟩
    have HB2 : Hid (Below w.heap.size w w2) := HB1.out.trans (hb2.mono HB1.out.size)
    clear hb2
    go_wp2_with fail
    go_ret
    exact ⟨ret_int HR2.out.symm, HB2.out⟩
  have hfu : fu < ls.length := by omega
  have hfl : fl < ls.length := by omega
  have HR2 : Hid (overE (fs ls) ⟨kd, n1, lo, hi', cc, S, N, ro, te, de, lw⟩ = if n1 = lw ∨ (lAt ls fu).1.conc ≠ (lAt ls fl).1.conc then 6 else 0) := by unfold Hid; rw [HR.out, if_neg (by rintro (e | e); exact ku e; exact kl e)]
  have bu : ((fu : Int) == (ls.length : Int)) = false := by simp; omega
  have bl : ((fl : Int) == (ls.length : Int)) = false := by simp; omega
  clear HR ku kl hu hl
  go_enter Tryz.func165, Tryz.ntmps165
  go_wp2_with fail
  refine (HU.out _ ((Below.refl _ _).alloc (Nat.le_refl _) _)).mono ?_
  rintro e w1 ⟨rfl, hb1⟩
  have HB1 : Hid (Below w.heap.size w w1) := size_alloc hb1
  have q1 := own_row hb1
  have HZ : Hid (w.heap.size < w1.heap.size) := Nat.lt_of_lt_of_le (lt_end _ _) hb1.size
  clear hb1
  go_wp2_with fail
  refine (HW.out _ HB1.out).mono ?_
  rintro e w2 ⟨rfl, hb2⟩
  have HB2 : Hid (Below w.heap.size w w2) := HB1.out.trans (hb2.mono HB1.out.size)
  have q2 : ∀ j, w2.cell? ⟨w.heap.size, j, none⟩ = (rowA ⟨kd, n1, lo, hi', cc, S, N, ro, te, de, lw⟩ (.slice sa sn sc) (.slice na nn nc))[j]? := fun j => (hb2.cell (p := ⟨w.heap.size, j, none⟩) HZ.out).trans (q1 j)
  clear hb2 q1
  obtain ⟨gl, _, _, _, _, _, _, rfl, hgl, ⟨_, _, _, _, c4, _, _, _, _, _, _⟩, _, _⟩ := (HL.out.below HB2.out (Nat.le_refl _)).line hfu
  obtain ⟨gl', _, _, _, _, _, _, hgg, _, ⟨_, _, _, _, d4, _, _, _, _, _, _⟩, _, _⟩ := (HL.out.below HB2.out (Nat.le_refl _)).line hfl
  obtain rfl : gl = gl' := by simpa using hgg
  clear hgg HL
  generalize (lAt ls fu).1.conc = cu at *
  generalize (lAt ls fl).1.conc = cl at *
  have e1 := q2 1
  have e10 := q2 10
  simp only [rowA, List.getElem?_toArray, List.getElem?_cons_succ, List.getElem?_cons_zero] at e1 e10
  have ifu : (fu : Int) < (ls.length : Int) := by omega
  have ifl : (fl : Int) < (ls.length : Int) := by omega
  go_wp2_with fail
  by_cases kn : n1 = lw
  · have HR3 : Hid (overE (fs ls) ⟨kd, n1, lo, hi', cc, S, N, ro, te, de, lw⟩ = 6) := by unfold Hid; rw [HR2.out, if_pos (.inl kn)]
    have bn : (n1 == lw) = true := by simpa using kn
    clear HR2 kn
    go_quiet (fail)
    go_wp2_with fail
    go_ret
    exact ⟨ret_int HR3.out.symm, below_drewN HB2.out _⟩
  · have bn : (n1 == lw) = false := by simpa using kn
    by_cases kc : cu = cl
    · have HR3 : Hid (overE (fs ls) ⟨kd, n1, lo, hi', cc, S, N, ro, te, de, lw⟩ = 0) := by unfold Hid; rw [HR2.out, if_neg (by rintro (e | e); exact kn e; exact e kc)]
      have bc : (cu == cl) = true := by simpa using kc
      clear HR2 kn kc
      go_quiet (fail)
      go_wp2_with fail
      go_ret
      exact ⟨ret_int HR3.out.symm, below_drewN HB2.out _⟩
    · have HR3 : Hid (overE (fs ls) ⟨kd, n1, lo, hi', cc, S, N, ro, te, de, lw⟩ = 6) := by unfold Hid; rw [HR2.out, if_pos (.inr kc)]
      have bc : (cu == cl) = false := by simpa using kc
      clear HR2 kn kc
      go_quiet (fail)
      go_wp2_with fail
      go_ret
      exact ⟨ret_int HR3.out.symm, below_drewN HB2.out _⟩

set_option maxHeartbeats 1000000 in
theorem lineError_s (w : World) (a : Option Addr) (c : Nat) (ls : List LX) (i : Nat) (hi : i < ls.length) (hc : ls.length ≤ c) (h : LinV w a ls) :
    Calls Tryz.prog 105 #[.slice a ls.length c, .int .i64 i] w fun e w' => e = .returned (.int .i64 (errP (fs ls) i)) ∧ Below w.heap.size w w' := by
  have hfew := h.few
  have HN := hideP2 (numError_s w a c ls i hi hc h)
  have HI := hideP2 (inputError_s w a c ls i hi hc h)
  have HR := hideP2 (fun hk => ruleError_s w a c ls i hi hc hk h)
  have HO := hideP2 (fun sa na sn sc nn nc => overError_s w a c ls (lAt ls i).1 sa na sn sc nn nc h)
  have hkinds := (h.rows _ (lAt_mem hi)).g.kinds
  have HE : Hid (errP (fs ls) i = if (lAt ls i).1.kind = 1 then numE (fs ls) i else if (lAt ls i).1.kind = 2 then inpE (fs ls) i else if (lAt ls i).1.kind = 3 then ruleE (fs ls) i else if (lAt ls i).1.kind = 4 then overE (fs ls) (lAt ls i).1 else 0) := by unfold Hid errP; rw [fs_get]
  obtain ⟨gl, sa, sn, sc, na, nn, nc, rfl, hgl, ⟨c0, c1, c2, c3, c4, c5, c6, c7, c8, c9, c10⟩, eq, hC⟩ := h.line hi
  have HO2 := hideP2 (HO.out sa na sn sc nn nc)
  unfold lineV at HO2
  clear h eq hC HO
  generalize (lAt ls i).1 = x at *
  obtain ⟨kd, n1, lo, hi', cc, S, N, ro, te, de, lw⟩ := x
  simp only at c0 c1 c2 c3 c4 c5 c6 c7 c8 c9 c10 HR HO2 HE hkinds
  rcases hkinds with rfl | rfl | rfl | rfl
  · have HE2 : Hid (errP (fs ls) i = numE (fs ls) i) := HE.out
    clear HE HI HR HO2 c1 c2 c3 c4 c5 c6 c7 c8 c9 c10
    go_enter Tryz.func105, Tryz.ntmps105
    go_wp2_with fail
    refine HN.out.mono ?_
    rintro e w1 ⟨rfl, hb1⟩
    have HB1 := hideP2 hb1
    clear hb1
    go_wp2_with fail
    go_ret
    exact ⟨ret_int HE2.out.symm, HB1.out⟩
  · have HE2 : Hid (errP (fs ls) i = inpE (fs ls) i) := HE.out
    clear HE HN HR HO2 c1 c2 c3 c4 c5 c6 c7 c8 c9 c10
    go_enter Tryz.func105, Tryz.ntmps105
    go_wp2_with fail
    refine HI.out.mono ?_
    rintro e w1 ⟨rfl, hb1⟩
    have HB1 := hideP2 hb1
    clear hb1
    go_wp2_with fail
    go_ret
    exact ⟨ret_int HE2.out.symm, HB1.out⟩
  · have HE2 : Hid (errP (fs ls) i = ruleE (fs ls) i) := HE.out
    clear HE HN HI HO2 c1 c2 c3 c4 c5 c6 c7 c8 c9 c10
    go_enter Tryz.func105, Tryz.ntmps105
    go_wp2_with fail
    refine (HR.out trivial).mono ?_
    rintro e w1 ⟨rfl, hb1⟩
    have HB1 := hideP2 hb1
    clear hb1
    go_wp2_with fail
    go_ret
    exact ⟨ret_int HE2.out.symm, HB1.out⟩
  · have HE2 : Hid (errP (fs ls) i = overE (fs ls) ⟨4, n1, lo, hi', cc, S, N, ro, te, de, lw⟩) := HE.out
    clear HE HN HI HR
    go_enter Tryz.func105, Tryz.ntmps105
    go_wp2_with fail
    refine HO2.out.mono ?_
    rintro e w1 ⟨rfl, hb1⟩
    have HB1 := hideP2 hb1
    clear hb1
    go_wp2_with fail
    go_ret
    exact ⟨ret_int HE2.out.symm, HB1.out⟩
end Go.Proofs.YtnbpdffdnphbeaaGreatDoor

/- What the program's check tells of a rulebook's lines: the first fault. -/
namespace Go.Proofs.YtnbpdffdnphbeaaGreatDoor
open Go.RowKit

def manyG (ls : List PLine) : Nat → Nat → Option Nat
  | 0, _ => none
  | n + 1, i => if manyP ls i = true then some i else manyG ls n (i + 1)
def errG (ls : List PLine) : Nat → Nat → Option Nat
  | 0, _ => none
  | n + 1, i => if errP ls i = 0 then errG ls n (i + 1) else some i
def ringsP (ls : List PLine) : Int × Int := if ringB (namG (headsB ls) ls gZ) = true then (7, 0) else if ringB (ordG (labsB ls) ls gZ) = true then (7, 1) else (0, 0)
def errsP (ls : List PLine) : Int × Int := match errG ls ls.length 0 with | some i => (errP ls i, (i : Int)) | none => ringsP ls
/-- The program's answer of lines. -/
def checkL (ls : List PLine) : Int × Int := match manyG ls ls.length 0 with | some i => (3, (i : Int)) | none => errsP ls

theorem namG_len (names : List Bs) (ls : List PLine) : ∀ G, (namG names ls G).length = G.length := by
  have hp : ∀ f (S : List PPart) G, (partG names f S G).length = G.length := by
    intro f S; induction S with
    | nil => intro G; rfl
    | cons x r ih => intro G; rw [partG, ih, addG_len]
  have hn : ∀ f (N : List PNode) G, (nodeG names f N G).length = G.length := by
    intro f N; induction N with
    | nil => intro G; rfl
    | cons x r ih => intro G; rw [nodeG, ih]; split
                     · rw [addG_len]
                     · rfl
  induction ls with
  | nil => intro G; rfl
  | cons x r ih => intro G; rw [namG, ih]; split
                   · rw [hn, hp]
                   · rfl
theorem ordG_len (labs : List Bs) (ls : List PLine) : ∀ G, (ordG labs ls G).length = G.length := by
  induction ls with
  | nil => intro G; rfl
  | cons x r ih => intro G; rw [ordG, ih]; split
                   · rw [addG_len]
                   · rfl

abbrev fltO : Obj := .cells #[.int .i64 0, .int .i64 0] 155 (0, 0)
def faultV (x : Int × Int) : Value := .agg #[.int .i64 x.1, .int .i64 x.2]

theorem flt_free {w w1 : World} (hb : Below (w.alloc fltO).heap.size (w.alloc fltO) w1) (k : Nat) : w1.frozen? ⟨w.heap.size, k, none⟩ = false := by
  have h1 : w1.heap[w.heap.size]? = some fltO := by rw [hb.block _ (lt_end _ _)]; exact hb_end _ _
  simp [World.frozen?, h1]
theorem flt_end {w w1 : World} (hb : Below (w.alloc fltO).heap.size (w.alloc fltO) w1) (x y : Value) :
    ((w1.setCell ⟨w.heap.size, 0, none⟩ x).setCell ⟨w.heap.size, 1, none⟩ y).heap[w.heap.size]? = some (.cells #[x, y] 155 (0, 0)) ∧ Below w.heap.size w ((w1.setCell ⟨w.heap.size, 0, none⟩ x).setCell ⟨w.heap.size, 1, none⟩ y) := by
  have h1 : w1.heap[w.heap.size]? = some fltO := by rw [hb.block _ (lt_end _ _)]; exact hb_end _ _
  have h2 : (w1.setCell ⟨w.heap.size, 0, none⟩ x).heap[w.heap.size]? = some (.cells #[x, .int .i64 0] 155 (0, 0)) := by
    rw [setCell_eq_setRow _ _ _ _ _ _ _ h1, setRow_heap _ _ _ _ _ _ h1]; rfl
  refine ⟨?_, ((size_alloc hb).setCell (p := ⟨w.heap.size, 0, none⟩) (Nat.le_refl _) _).setCell (p := ⟨w.heap.size, 1, none⟩) (Nat.le_refl _) _⟩
  rw [setCell_eq_setRow _ _ _ _ _ _ _ h2, setRow_heap _ _ _ _ _ _ h2]; rfl
theorem fltInfo : (Tryz.prog.info? 155).map (·.size) = some 2 := by kernel_rfl

set_option maxRecDepth 100000 in
set_option maxHeartbeats 4000000 in
theorem Lines_s (w : World) (a : Option Addr) (c : Nat) (ls : List LX) (hc : ls.length ≤ c) (h : LinV w a ls) :
    Calls Tryz.prog 62 #[.slice a ls.length c] w fun e w' => e = .returned (faultV (checkL (fs ls))) ∧ Below w.heap.size w w' := by
  have HL := hideP2 h
  have hfew := h.few
  clear h
  go_enter Tryz.func62, Tryz.ntmps62
  go_wp2_with fail
  go_loopw [10] (fun iv wr => ∃ (i : Nat), i ≤ ls.length ∧ iv = .int .i64 i ∧ Hid (Below (w.alloc fltO).heap.size (w.alloc fltO) wr) ∧ Hid (manyG (fs ls) (ls.length - i) i = manyG (fs ls) ls.length 0)) (fun iv _ => ls.length - (intOf iv).toNat)
  case atStart => exact ⟨0, Nat.zero_le _, rfl, hideP2 (Below.refl _ _), hideP2 rfl⟩
  case round =>
    obtain ⟨i, hi, rfl, HB, HE⟩ := hrel
    have HBw : Hid (Below w.heap.size w wr) := size_alloc HB.out
    have q := own_row HB.out
    have hfz := flt_free HB.out
    by_cases hlt : i < ls.length
    · have HC := hideP2 (isTooMany_s wr a c ls i hlt hc (HL.out.below HBw.out (Nat.le_refl _)))
      have hE := HE.out
      rw [show ls.length - i = (ls.length - (i + 1)) + 1 by omega, manyG] at hE
      have HE2 := hideP2 hE
      clear HE hE
      generalize manyP (fs ls) i = z at *
      cases z
      · have HE3 : Hid (manyG (fs ls) (ls.length - (i + 1)) (i + 1) = manyG (fs ls) ls.length 0) := HE2.out
        clear HE2
        go_wp2_with fail
        refine HC.out.mono ?_
        rintro e w1 ⟨rfl, hb1⟩
        have HB1 : Hid (Below (w.alloc fltO).heap.size (w.alloc fltO) w1) := HB.out.trans (hb1.mono HB.out.size)
        clear hb1
        go_wp2_with fail
        go_roundw
        case rel => exact ⟨i + 1, by omega, by go_num, HB1, HE3⟩
        case measure => simp [intOf]; omega
      · have HR : Hid (checkL (fs ls) = (3, (i : Int))) := by
          have : some i = manyG (fs ls) ls.length 0 := HE2.out
          unfold Hid checkL; rw [fs_len, ← this]
        clear HE2
        go_wp2_with fail
        refine HC.out.mono ?_
        rintro e w1 ⟨rfl, hb1⟩
        have HB1 : Hid (Below (w.alloc fltO).heap.size (w.alloc fltO) w1) := HB.out.trans (hb1.mono HB.out.size)
        have q1 := own_row HB1.out
        have hfz1 := flt_free HB1.out
        clear hb1 q hfz
        go_wp2_with fail
        refine bodyPost_ret (v := faultV (3, (i : Int))) (results_cell_row Tryz.results62 _ _ w.heap.size 155 #[.int .i64 3, .int .i64 (i : Int)] (0, 0) _ rfl (flt_end HB1.out _ _).1 Tryz.underlying155 rfl fltInfo) rfl ⟨by rw [HR.out], (flt_end HB1.out _ _).2⟩
    · have HMn : Hid (checkL (fs ls) = errsP (fs ls)) := by
        have := HE.out; rw [show ls.length - i = 0 by omega] at this
        unfold Hid checkL; rw [fs_len, ← this]; rfl
      clear HE q hfz
      obtain ⟨wq, hwq⟩ : ∃ wq, wq = wr := ⟨_, rfl⟩
      subst hwq
      go_wp2_with fail
      go_loopw [21] (fun iv wr => ∃ (i : Nat), i ≤ ls.length ∧ iv = .int .i64 i ∧ Hid (Below (w.alloc fltO).heap.size (w.alloc fltO) wr) ∧ Hid (errG (fs ls) (ls.length - i) i = errG (fs ls) ls.length 0)) (fun iv _ => ls.length - (intOf iv).toNat)
      case atStart => exact ⟨0, Nat.zero_le _, rfl, HB, hideP2 rfl⟩
      case round =>
        obtain ⟨j, hj, rfl, HBj, HEj⟩ := hrel
        have HBv : Hid (Below w.heap.size w wr) := size_alloc HBj.out
        by_cases hltj : j < ls.length
        · have HC := hideP2 (lineError_s wr a c ls j hltj hc (HL.out.below HBv.out (Nat.le_refl _)))
          have hE := HEj.out
          rw [show ls.length - j = (ls.length - (j + 1)) + 1 by omega, errG] at hE
          have HE2 := hideP2 hE
          have HP : Hid (errP (fs ls) j = errP (fs ls) j) := rfl
          clear HEj hE
          by_cases hz : errP (fs ls) j = 0
          · have HE3 : Hid (errG (fs ls) (ls.length - (j + 1)) (j + 1) = errG (fs ls) ls.length 0) := by have := HE2.out; rw [if_pos hz] at this; exact this
            rw [hz] at HC
            clear HE2 hz HP
            go_wp2_with fail
            refine HC.out.mono ?_
            rintro e w1 ⟨rfl, hb1⟩
            have HB1 : Hid (Below (w.alloc fltO).heap.size (w.alloc fltO) w1) := HBj.out.trans (hb1.mono HBj.out.size)
            clear hb1
            go_wp2_with fail
            go_roundw
            case rel => exact ⟨j + 1, by omega, by go_num, HB1, HE3⟩
            case measure => simp [intOf]; omega
          · have HR : Hid (checkL (fs ls) = (errP (fs ls) j, (j : Int))) := by
              have : some j = errG (fs ls) ls.length 0 := by have := HE2.out; rw [if_neg hz] at this; exact this
              unfold Hid; rw [HMn.out, errsP, fs_len, ← this]
            clear HE2 HP
            generalize errP (fs ls) j = er at *
            have be : (er != 0) = true := by simpa using hz
            clear hz
            go_wp2_with fail
            refine HC.out.mono ?_
            rintro e w1 ⟨rfl, hb1⟩
            have HB1 : Hid (Below (w.alloc fltO).heap.size (w.alloc fltO) w1) := HBj.out.trans (hb1.mono HBj.out.size)
            have q1 := own_row HB1.out
            have hfz1 := flt_free HB1.out
            clear hb1
            go_wp2_with fail
            refine bodyPost_ret (v := faultV (er, (j : Int))) (results_cell_row Tryz.results62 _ _ w.heap.size 155 #[.int .i64 er, .int .i64 (j : Int)] (0, 0) _ rfl (flt_end HB1.out _ _).1 Tryz.underlying155 rfl fltInfo) rfl ⟨by rw [HR.out], (flt_end HB1.out _ _).2⟩
        · have HRg : Hid (checkL (fs ls) = ringsP (fs ls)) := by
            have := HEj.out; rw [show ls.length - j = 0 by omega] at this
            unfold Hid; rw [HMn.out, errsP, fs_len, ← this]; rfl
          clear HEj HMn
          have HNm := hideP2 (Naming_s wr a c ls (HL.out.below HBv.out (Nat.le_refl _)))
          have hgl : (namG (headsB (fs ls)) (fs ls) gZ).length = 64 := by rw [namG_len]; exact gZ_len
          have hgl2 : (ordG (labsB (fs ls)) (fs ls) gZ).length = 64 := by rw [ordG_len]; exact gZ_len
          have HOr := hideP2 (fun w' (hb : Below w.heap.size w w') => Order_s w' a c ls (HL.out.below hb (Nat.le_refl _)))
          have HR0 : Hid (checkL (fs ls) = if ringB (namG (headsB (fs ls)) (fs ls) gZ) = true then (7, 0) else if ringB (ordG (labsB (fs ls)) (fs ls) gZ) = true then (7, 1) else (0, 0)) := HRg.out
          have HGL := hideP2 hgl
          have HGL2 := hideP2 hgl2
          clear HRg hgl hgl2
          generalize namG (headsB (fs ls)) (fs ls) gZ = Gn at *
          generalize ordG (labsB (fs ls)) (fs ls) gZ = Go at *
          go_wp2_with fail
          refine HNm.out.mono ?_
          rintro e w2 ⟨rfl, hb2⟩
          have HB2 : Hid (Below (w.alloc fltO).heap.size (w.alloc fltO) w2) := HBj.out.trans (hb2.mono HBj.out.size)
          clear hb2
          go_wp2_with (refine wpList_store_row ?hgd 94 (.tmp 6) (.tmp 34) ?ho w2.heap.size (gC Gn) ?hx ?hy 94 (gC gZ) (hb_end w2 _) (gInfoC HGL.out) ?hold (gC_one Gn) ?_
                       case ho => rfl
                       case hgd => rfl
                       case hx => rfl
                       case hy => rfl
                       case hold => rw [gC_size, gC_size, gZ_len, HGL.out])
          refine (HasRing_s _ w2.heap.size Gn ⟨setRow_heap _ _ (gC gZ) _ _ _ (hb_end w2 _), HGL.out⟩).mono ?_
          rintro e w3 ⟨rfl, hb3⟩
          have HB3 : Hid (Below (w.alloc fltO).heap.size (w.alloc fltO) w3) := by
            have h1 : Below (w.alloc fltO).heap.size (w.alloc fltO) ((w2.alloc (.cells (gC gZ) 94 (0, 0))).setRow w2.heap.size (gC Gn)) := below_row (HB2.out.alloc HB2.out.size _) HB2.out.size _
            exact h1.trans (hb3.mono h1.size)
          have q3 := own_row HB3.out
          have hfz3 := flt_free HB3.out
          clear hb3
          generalize ringB Gn = z1 at *
          cases z1
          · have HR1 : Hid (checkL (fs ls) = if ringB Go = true then (7, 1) else (0, 0)) := by have := HR0.out; rw [if_neg Bool.false_ne_true] at this; exact this
            clear HR0
            go_wp2_with fail
            refine (HOr.out _ (size_alloc HB3.out)).mono ?_
            rintro e w4 ⟨rfl, hb4⟩
            have HB4 : Hid (Below (w.alloc fltO).heap.size (w.alloc fltO) w4) := HB3.out.trans (hb4.mono HB3.out.size)
            clear hb4 q3 hfz3
            go_wp2_with (refine wpList_store_row ?hgd 94 (.tmp 7) (.tmp 38) ?ho w4.heap.size (gC Go) ?hx ?hy 94 (gC gZ) (hb_end w4 _) (gInfoC HGL2.out) ?hold (gC_one Go) ?_
                         case ho => rfl
                         case hgd => rfl
                         case hx => rfl
                         case hy => rfl
                         case hold => rw [gC_size, gC_size, gZ_len, HGL2.out])
            refine (HasRing_s _ w4.heap.size Go ⟨setRow_heap _ _ (gC gZ) _ _ _ (hb_end w4 _), HGL2.out⟩).mono ?_
            rintro e w5 ⟨rfl, hb5⟩
            have HB5 : Hid (Below (w.alloc fltO).heap.size (w.alloc fltO) w5) := by
              have h1 : Below (w.alloc fltO).heap.size (w.alloc fltO) ((w4.alloc (.cells (gC gZ) 94 (0, 0))).setRow w4.heap.size (gC Go)) := below_row (HB4.out.alloc HB4.out.size _) HB4.out.size _
              exact h1.trans (hb5.mono h1.size)
            have q5 := own_row HB5.out
            have hfz5 := flt_free HB5.out
            clear hb5
            generalize ringB Go = z2 at *
            cases z2
            · have HR : Hid (checkL (fs ls) = (0, 0)) := by have := HR1.out; rw [if_neg Bool.false_ne_true] at this; exact this
              clear HR1
              go_wp2_with fail
              refine bodyPost_ret (v := faultV (0, 0)) (results_cell_row Tryz.results62 _ _ w.heap.size 155 #[.int .i64 0, .int .i64 0] (0, 0) _ rfl (flt_end HB5.out _ _).1 Tryz.underlying155 rfl fltInfo) rfl ⟨by rw [HR.out], (flt_end HB5.out _ _).2⟩
            · have HR : Hid (checkL (fs ls) = (7, 1)) := by have := HR1.out; rw [if_pos rfl] at this; exact this
              clear HR1
              go_wp2_with fail
              refine bodyPost_ret (v := faultV (7, 1)) (results_cell_row Tryz.results62 _ _ w.heap.size 155 #[.int .i64 7, .int .i64 1] (0, 0) _ rfl (flt_end HB5.out _ _).1 Tryz.underlying155 rfl fltInfo) rfl ⟨by rw [HR.out], (flt_end HB5.out _ _).2⟩
          · have HR : Hid (checkL (fs ls) = (7, 0)) := by have := HR0.out; rw [if_pos rfl] at this; exact this
            clear HR0
            go_wp2_with fail
            refine bodyPost_ret (v := faultV (7, 0)) (results_cell_row Tryz.results62 _ _ w.heap.size 155 #[.int .i64 7, .int .i64 0] (0, 0) _ rfl (flt_end HB3.out _ _).1 Tryz.underlying155 rfl fltInfo) rfl ⟨by rw [HR.out], (flt_end HB3.out _ _).2⟩
end Go.Proofs.YtnbpdffdnphbeaaGreatDoor
