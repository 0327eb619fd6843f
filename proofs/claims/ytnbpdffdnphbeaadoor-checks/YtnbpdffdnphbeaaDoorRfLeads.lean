/- What Leads and ringed of the document's answer give: is there a chain, is there a ring? -/
import Derived.Test.YtnbpdffdnphbeaaDoorRfSteps
namespace Go.Proofs.YtnbpdffdnphbeaaDoor
open Go.RowKit

theorem lY_step (m : Nat → Nat → Bool) (fr : Bool) (x N y : Nat) (s : List Bool) (h : y < N) : lY m fr x (N - y) y s = lY m fr x (N - (y + 1)) (y + 1) (if fr && m x y then s.set y true else s) := by
  rw [show N - y = (N - (y + 1)) + 1 by omega, lY]
theorem lX_step (m : Nat → Nat → Bool) (i N x : Nat) (s : List Bool) (h : x < N) : lX m i N (N - x) x s = lX m i N (N - (x + 1)) (x + 1) (lY m (lFr i x s) x N 0 s) := by
  rw [show N - x = (N - (x + 1)) + 1 by omega, lX]
theorem lN_step (m : Nat → Nat → Bool) (i N n : Nat) (s : List Bool) (h : n < N + 1) : lN m i N (N + 1 - n) s = lN m i N (N + 1 - (n + 1)) (lX m i N N 0 s) := by
  rw [show N + 1 - n = (N + 1 - (n + 1)) + 1 by omega, lN]

/-- A row's value and its cells, at any world that leaves it. -/
theorem MatM.row {B N : Nat} {w : World} {v : Value} {gs : List Nat} {m : Nat → Nat → Bool} (h : MatM B w v gs m N N) {x : Nat} (hx : x < N) : ∃ gm cm, v = .slice (some ⟨gm, 0, none⟩) N cm ∧ w.cell? ⟨gm, x, none⟩ = some (.slice (some ⟨gs.getD x 0, 0, none⟩) N N) ∧ gm < w.heap.size ∧ BoolM w (gs.getD x 0) (rowTo m x N N) := by
  rcases h.own.2 with ⟨_, h2⟩ | ⟨g, cap, cur, h1, _, h3, _, _, _, h7⟩
  · have := h.len; omega
  · refine ⟨g, cap, by rw [h1, h.len], ?_, ?_, h.rows x hx⟩
    · refine cell_take2 h3 h7 ?_
      rw [List.getElem?_map]
      simp [List.getD, rowV, show x < gs.length by rw [h.len]; exact hx]
    · rcases Nat.lt_or_ge g w.heap.size with h9 | h9
      · exact h9
      · rw [Array.getElem?_eq_none h9] at h3; cases h3

theorem MatM.below {B N k : Nat} {w w' : World} {v : Value} {gs : List Nat} {m : Nat → Nat → Bool} (h : MatM B w v gs m N k) (hb : Below w.heap.size w w') : MatM B w' v gs m N k :=
  ⟨h.len, owns_same h.own hb, fun j hj => (h.rows j hj).below hb⟩

set_option maxHeartbeats 4000000 in
theorem Leads_s (w : World) (a : Option Addr) (cp : Nat) (ls : List PLine) (us : List Toks) (r : Bool) (na : Option Addr) (nc : Nat) (names : List Bs) (i k : Nat) (hk : k < names.length) (h : RowL w a us) (hA : AllLT ls us) (hn : StrV w na names) :
    Calls Tryd.prog 43 #[.slice a us.length cp, .bool r, .slice na names.length nc, .int .i64 i, .int .i64 k] w fun e w' => e = .returned (.bool (leadsB (stepM us r names) names.length i k)) ∧ Below w.heap.size w w' := by
  obtain ⟨i1, hj0, hj1, hj2, hj3⟩ := info_parts infoBool
  have hfew := hn.few
  have HS := hideP2 (steps_s w a cp ls us r na nc names h hA hn)
  have HB1 := hideP2 (show i1.bytes * names.length ≤ 281474976710656 by rw [hj3]; omega)
  have HB2 := hideP2 (show names.length ≤ 9223372036854775807 by omega)
  have HZ := hideP2 (show (Value.bool false).cells = #[Value.bool false] from rfl)
  have HL : Hid (leadsB (stepM us r names) names.length i k = (lN (stepM us r names) i names.length (names.length + 1) (List.replicate names.length false)).getD k false) := rfl
  clear h hA hn
  generalize leadsB (stepM us r names) names.length i k = ans at *
  generalize stepM us r names = m at *
  generalize hN : names.length = N at *
  clear hN
  go_enter Tryd.func43, Tryd.ntmps43
  go_wp2_with fail
  refine HS.out.mono ?_
  rintro e w1 ⟨v, gs, rfl, hM, hb1⟩
  have HM := hideP2 hM
  have HBl := hideP2 hb1
  obtain ⟨gm, cm, hv⟩ : ∃ gm cm, v = .slice (some ⟨gm, 0, none⟩) N cm := by obtain ⟨gm, cm, h1, _⟩ := hM.row (show k < N from hk); exact ⟨gm, cm, h1⟩
  subst hv
  clear hM hb1 HS
  go_wp2_with (with_reducible refine wpList_make_row _ ?hg (.tmp 22) (.tmp 22) 121 ?hop 4 i1 (.bool false) Tryd.underlying121 hj0 hj1 hj2 HZ.out .i64 .i64 N ?hl ?hc HB1.out HB2.out ?_
               case hop => rfl
               case hg => rfl
               case hl => rfl
               case hc => rfl)
  have hM0 : BoolM (w1.alloc (.cells (madeCells #[Value.bool false] N) 4)) w1.heap.size (List.replicate N false) := by
    unfold BoolM; rw [← made_false]; exact hb_end _ _
  have hO0 : OnlyG w1.heap.size w1 (w1.alloc (.cells (madeCells #[Value.bool false] N) 4)) := (OnlyG.refl _ _).alloc _
  generalize w1.alloc (.cells (madeCells #[Value.bool false] N) 4) = wq at *
  have HM0 := hideP2 hM0
  have HO0 := hideP2 hO0
  clear hM0 hO0 HB1 HB2 HZ
  generalize hgb : w1.heap.size = gb at *
  have HGB := hideP2 hgb
  clear hgb
  go_loopw [13] (fun nv wr => ∃ (n : Nat) (s : List Bool), n ≤ N + 1 ∧ s.length = N ∧ nv = .int .i64 n ∧ Hid (BoolM wr gb s) ∧ Hid (OnlyG gb w1 wr) ∧ Hid (lN m i N (N + 1 - n) s = lN m i N (N + 1) (List.replicate N false))) (fun nv _ => N + 1 - (intOf nv).toNat)
  case atStart => exact ⟨0, _, Nat.zero_le _, by simp, rfl, HM0, HO0, hideP2 rfl⟩
  case round =>
    obtain ⟨n, s, hn, hs, rfl, HMn, HOn, HEn⟩ := hrel
    clear HM0 HO0
    by_cases hltn : n < N + 1
    · have hE := HEn.out
      rw [lN_step m i N n s hltn] at hE
      have HE1 := hideP2 hE
      clear HEn hE
      obtain ⟨wn, hwn⟩ : ∃ wn, wn = wr := ⟨_, rfl⟩
      subst hwn
      have inN : (n : Int) ≤ (N : Int) := by omega
      go_wp2_with fail
      go_loopw [14] (fun xv wr => ∃ (x : Nat) (s' : List Bool), x ≤ N ∧ s'.length = N ∧ xv = .int .i64 x ∧ Hid (BoolM wr gb s') ∧ Hid (OnlyG gb w1 wr) ∧ Hid (lX m i N (N - x) x s' = lX m i N N 0 s)) (fun xv _ => N - (intOf xv).toNat)
      case atStart => exact ⟨0, s, Nat.zero_le _, hs, rfl, HMn, HOn, hideP2 rfl⟩
      case round =>
        obtain ⟨x, s2, hx, hs2, rfl, HMx, HOx, HEx⟩ := hrel
        clear HMn HOn
        by_cases hltx : x < N
        · have hE := HEx.out
          rw [lX_step m i N x s2 hltx] at hE
          have HE2 := hideP2 hE
          clear HEx hE
          have hcx := HMx.out.cell (k := x) (by omega)
          have HFr : Hid (lFr i x s2 = (decide (x = i) || s2.getD x false)) := rfl
          obtain ⟨wx, hwx⟩ : ∃ wx, wx = wr := ⟨_, rfl⟩
          subst hwx
          have ix : (x : Int) < (N : Int) := by omega
          generalize hzz : s2.getD x false = zz at *
          clear hzz
          generalize hfr : lFr i x s2 = fr at *
          have HFQ := hideP2 hfr
          clear hfr
          have HFv : Hid (fr = (decide (x = i) || zz)) := HFr.out
          clear HFr HFQ
          by_cases hxi : x = i
          · have b1 : ((x : Int) == (i : Int)) = true := by simp; omega
            obtain rfl : fr = true := by rw [HFv.out, decide_eq_true hxi]; rfl
            clear HFv hxi
            go_wp2_with fail
            go_loopw [16] (fun yv wr => ∃ (y : Nat) (s3 : List Bool), y ≤ N ∧ s3.length = N ∧ yv = .int .i64 y ∧ Hid (BoolM wr gb s3) ∧ Hid (OnlyG gb w1 wr) ∧ Hid (lY m true x (N - y) y s3 = lY m true x N 0 s2)) (fun yv _ => N - (intOf yv).toNat)
            case atStart => exact ⟨0, s2, Nat.zero_le _, hs2, rfl, HMx, HOx, hideP2 rfl⟩
            case round =>
              obtain ⟨y, s3, hy, hs3, rfl, HMy, HOy, HEy⟩ := hrel
              clear HMx HOx hcx
              by_cases hlty : y < N
              · have hE := HEy.out
                rw [lY_step m true x N y s3 hlty] at hE
                have HE3 := hideP2 hE
                clear HEy hE
                have iy : (y : Int) < (N : Int) := by omega
                have hbw : Below w1.heap.size w1 wr := HOy.out.below (Nat.le_refl _) (by rw [HGB.out]; exact Nat.le_refl _)
                obtain ⟨gm', cm', hv', hrow, hgm, hBr⟩ := (HM.out.below hbw).row hltx
                obtain ⟨rfl, rfl⟩ : gm = gm' ∧ cm = cm' := by simpa using hv'
                have hmy := hBr.cell (k := y) (by rw [rowTo_len]; exact hlty)
                rw [rowTo_get m x N y hlty] at hmy
                have hcy := HMy.out.cell (k := y) (by omega)
                have hfz := HMy.out.free y
                clear hbw hv' hBr
                generalize gs.getD x 0 = gx at *
                generalize m x y = z at *
                cases z
                · have HE4 : Hid (lY m true x (N - (y + 1)) (y + 1) s3 = lY m true x N 0 s2) := HE3.out
                  clear HE3
                  go_wp2_with fail
                  go_roundw
                  case rel => exact ⟨y + 1, s3, by omega, hs3, by go_num, HMy, HOy, HE4⟩
                  case measure => simp [intOf]; omega
                · have HE4 : Hid (lY m true x (N - (y + 1)) (y + 1) (s3.set y true) = lY m true x N 0 s2) := HE3.out
                  clear HE3
                  go_wp2_with fail
                  go_roundw
                  case rel => exact ⟨y + 1, s3.set y true, by omega, by rw [List.length_set]; exact hs3, by go_num, hideP2 (HMy.out.set y true), hideP2 (HOy.out.trans (OnlyG.set _ _ _ _)), HE4⟩
                  case measure => simp [intOf]; omega
              · have HE4 : Hid (lX m i N (N - (x + 1)) (x + 1) s3 = lX m i N N 0 s) := by
                  have h1 := HEy.out; rw [show N - y = 0 by omega] at h1
                  have h2 := HE2.out; rw [← h1] at h2; exact h2
                clear HEy HE2
                go_wp2_with fail
                go_roundw
                case rel => exact ⟨x + 1, s3, by omega, hs3, by go_num, HMy, HOy, HE4⟩
                case measure => simp [intOf]; omega
          · have b1 : ((x : Int) == (i : Int)) = false := by simp; omega
            cases zz
            · obtain rfl : fr = false := by rw [HFv.out, decide_eq_false hxi]; rfl
              clear HFv hxi
              go_wp2_with fail
              go_loopw [16] (fun yv wr => ∃ (y : Nat) (s3 : List Bool), y ≤ N ∧ s3.length = N ∧ yv = .int .i64 y ∧ Hid (BoolM wr gb s3) ∧ Hid (OnlyG gb w1 wr) ∧ Hid (lY m false x (N - y) y s3 = lY m false x N 0 s2)) (fun yv _ => N - (intOf yv).toNat)
              case atStart => exact ⟨0, s2, Nat.zero_le _, hs2, rfl, HMx, HOx, hideP2 rfl⟩
              case round =>
                obtain ⟨y, s3, hy, hs3, rfl, HMy, HOy, HEy⟩ := hrel
                clear HMx HOx hcx
                by_cases hlty : y < N
                · have hE := HEy.out
                  rw [lY_step m false x N y s3 hlty] at hE
                  have HE3 := hideP2 hE
                  clear HEy hE
                  have iy : (y : Int) < (N : Int) := by omega
                  have HE4 : Hid (lY m false x (N - (y + 1)) (y + 1) s3 = lY m false x N 0 s2) := HE3.out
                  clear HE3
                  go_wp2_with fail
                  go_roundw
                  case rel => exact ⟨y + 1, s3, by omega, hs3, by go_num, HMy, HOy, HE4⟩
                  case measure => simp [intOf]; omega
                · have HE4 : Hid (lX m i N (N - (x + 1)) (x + 1) s3 = lX m i N N 0 s) := by
                    have h1 := HEy.out; rw [show N - y = 0 by omega] at h1
                    have h2 := HE2.out; rw [← h1] at h2; exact h2
                  clear HEy HE2
                  go_wp2_with fail
                  go_roundw
                  case rel => exact ⟨x + 1, s3, by omega, hs3, by go_num, HMy, HOy, HE4⟩
                  case measure => simp [intOf]; omega
            · obtain rfl : fr = true := by rw [HFv.out, Bool.or_true]
              clear HFv hxi
              go_wp2_with fail
              go_loopw [16] (fun yv wr => ∃ (y : Nat) (s3 : List Bool), y ≤ N ∧ s3.length = N ∧ yv = .int .i64 y ∧ Hid (BoolM wr gb s3) ∧ Hid (OnlyG gb w1 wr) ∧ Hid (lY m true x (N - y) y s3 = lY m true x N 0 s2)) (fun yv _ => N - (intOf yv).toNat)
              case atStart => exact ⟨0, s2, Nat.zero_le _, hs2, rfl, HMx, HOx, hideP2 rfl⟩
              case round =>
                obtain ⟨y, s3, hy, hs3, rfl, HMy, HOy, HEy⟩ := hrel
                clear HMx HOx hcx
                by_cases hlty : y < N
                · have hE := HEy.out
                  rw [lY_step m true x N y s3 hlty] at hE
                  have HE3 := hideP2 hE
                  clear HEy hE
                  have iy : (y : Int) < (N : Int) := by omega
                  have hbw : Below w1.heap.size w1 wr := HOy.out.below (Nat.le_refl _) (by rw [HGB.out]; exact Nat.le_refl _)
                  obtain ⟨gm', cm', hv', hrow, hgm, hBr⟩ := (HM.out.below hbw).row hltx
                  obtain ⟨rfl, rfl⟩ : gm = gm' ∧ cm = cm' := by simpa using hv'
                  have hmy := hBr.cell (k := y) (by rw [rowTo_len]; exact hlty)
                  rw [rowTo_get m x N y hlty] at hmy
                  have hcy := HMy.out.cell (k := y) (by omega)
                  have hfz := HMy.out.free y
                  clear hbw hv' hBr
                  generalize gs.getD x 0 = gx at *
                  generalize m x y = z at *
                  cases z
                  · have HE4 : Hid (lY m true x (N - (y + 1)) (y + 1) s3 = lY m true x N 0 s2) := HE3.out
                    clear HE3
                    go_wp2_with fail
                    go_roundw
                    case rel => exact ⟨y + 1, s3, by omega, hs3, by go_num, HMy, HOy, HE4⟩
                    case measure => simp [intOf]; omega
                  · have HE4 : Hid (lY m true x (N - (y + 1)) (y + 1) (s3.set y true) = lY m true x N 0 s2) := HE3.out
                    clear HE3
                    go_wp2_with fail
                    go_roundw
                    case rel => exact ⟨y + 1, s3.set y true, by omega, by rw [List.length_set]; exact hs3, by go_num, hideP2 (HMy.out.set y true), hideP2 (HOy.out.trans (OnlyG.set _ _ _ _)), HE4⟩
                    case measure => simp [intOf]; omega
                · have HE4 : Hid (lX m i N (N - (x + 1)) (x + 1) s3 = lX m i N N 0 s) := by
                    have h1 := HEy.out; rw [show N - y = 0 by omega] at h1
                    have h2 := HE2.out; rw [← h1] at h2; exact h2
                  clear HEy HE2
                  go_wp2_with fail
                  go_roundw
                  case rel => exact ⟨x + 1, s3, by omega, hs3, by go_num, HMy, HOy, HE4⟩
                  case measure => simp [intOf]; omega
        · have HE2 : Hid (lN m i N (N + 1 - (n + 1)) s2 = lN m i N (N + 1) (List.replicate N false)) := by
            have h1 := HEx.out; rw [show N - x = 0 by omega] at h1
            have h2 := HE1.out; rw [← h1] at h2; exact h2
          clear HEx HE1
          go_wp2_with fail
          go_roundw
          case rel => exact ⟨n + 1, s2, by omega, hs2, by go_num, HMx, HOx, HE2⟩
          case measure => simp [intOf]; omega
    · have HE1 : Hid (ans = s.getD k false) := by
        have h1 := HEn.out; rw [show N + 1 - n = 0 by omega] at h1
        unfold Hid; rw [HL.out, ← h1]; rfl
      have hck := HMn.out.cell (k := k) (by omega)
      have ik : (k : Int) < (N : Int) := by omega
      have inN : ¬ (n : Int) ≤ (N : Int) := by omega
      have HBf : Hid (Below w.heap.size w wr) := HBl.out.trans (HOn.out.below HBl.out.size (by rw [← HGB.out]; exact HBl.out.size))
      clear HEn HL
      generalize s.getD k false = zk at *
      go_wp2_with fail
      go_ret
      exact ⟨ret_bool HE1.out.symm, HBf.out⟩

theorem any_range_drop (p : Nat → Bool) (N i : Nat) (h : i < N) : ((List.range N).drop i).any p = (p i || ((List.range N).drop (i + 1)).any p) := by
  rw [List.drop_eq_getElem_cons (by simpa using h), List.any_cons, List.getElem_range]

set_option maxHeartbeats 2000000 in
theorem ringed_s (w : World) (a : Option Addr) (cp : Nat) (ls : List PLine) (us : List Toks) (r : Bool) (h : RowL w a us) (hA : AllLT ls us) :
    Calls Tryd.prog 19 #[.slice a us.length cp, .bool r] w fun e w' => e = .returned (.bool (ringU us r)) ∧ Below w.heap.size w w' := by
  have hfew := h.few
  have HR := hideP2 h
  have HA := hideP2 hA
  have HH := hideP2 (Heads_s w a cp ls us h hA)
  have HLb := hideP2 (fun w' (hb : Below w.heap.size w w') => Labels_s w' a cp ls us (h.below hb) hA)
  clear h hA
  cases r
  · have HRg : Hid (ringU us false = ringedB (stepM us false (headsU us)) (headsU us).length) := rfl
    generalize ringU us false = ans at *
    go_enter Tryd.func19, Tryd.ntmps19
    go_wp2_with fail
    refine HH.out.mono ?_
    rintro e w1 ⟨v, rfl, hown, hlen, hb1⟩
    obtain ⟨na, nc, rfl, hstr⟩ := own_str hown (by omega)
    have HB1 := hideP2 hb1
    have HSt := hideP2 hstr
    clear hown hb1 hstr HH HLb
    generalize headsU us = names at *
    go_wp2_with fail
    go_loopw [6] (fun iv wr => ∃ (i : Nat), i ≤ names.length ∧ iv = .int .i64 i ∧ Hid (Below w1.heap.size w1 wr) ∧ Hid (((List.range names.length).drop i).any (fun i => leadsB (stepM us false names) names.length i i) = ans)) (fun iv _ => names.length - (intOf iv).toNat)
    case atStart => exact ⟨0, Nat.zero_le _, rfl, hideP2 (Below.refl _ _), hideP2 HRg.out.symm⟩
    case round =>
      obtain ⟨i, hi, rfl, HB, HE⟩ := hrel
      clear HRg
      have hbw : Below w.heap.size w wr := HB1.out.trans (HB.out.mono HB1.out.size)
      have HBw := hideP2 hbw
      by_cases hlt : i < names.length
      · have HLd := hideP2 (Leads_s wr a cp ls us false na nc names i i hlt (HR.out.below hbw) HA.out (HSt.out.below HB.out))
        have hE := HE.out
        rw [any_range_drop _ _ i hlt] at hE
        have HE2 := hideP2 hE
        clear HE hE hbw
        generalize leadsB (stepM us false names) names.length i i = z at *
        cases z
        · have HE3 : Hid (((List.range names.length).drop (i + 1)).any (fun i => leadsB (stepM us false names) names.length i i) = ans) := by have := HE2.out; rw [Bool.false_or] at this; exact this
          clear HE2
          go_wp2_with fail
          refine HLd.out.mono ?_
          rintro e w2 ⟨rfl, hb2⟩
          have HB2 : Hid (Below w1.heap.size w1 w2) := HB.out.trans (hb2.mono HB.out.size)
          clear hb2
          go_wp2_with fail
          go_roundw
          case rel => exact ⟨i + 1, by omega, by go_num, HB2, HE3⟩
          case measure => simp [intOf]; omega
        · have HE3 : Hid (ans = true) := by have := HE2.out; rw [Bool.true_or] at this; exact this.symm
          clear HE2
          go_wp2_with fail
          refine HLd.out.mono ?_
          rintro e w2 ⟨rfl, hb2⟩
          have HB2 : Hid (Below w.heap.size w w2) := HBw.out.trans (hb2.mono HBw.out.size)
          clear hb2
          go_wp2_with fail
          go_ret
          exact ⟨ret_bool HE3.out.symm, HB2.out⟩
      · have HE3 : Hid (ans = false) := by have := HE.out; rw [List.drop_eq_nil_of_le (by simp; omega)] at this; exact this.symm
        clear HE hbw
        go_wp2_with fail
        go_ret
        exact ⟨ret_bool HE3.out.symm, HBw.out⟩
  · have HRg : Hid (ringU us true = ringedB (stepM us true (labsU us)) (labsU us).length) := rfl
    generalize ringU us true = ans at *
    go_enter Tryd.func19, Tryd.ntmps19
    go_wp2_with fail
    refine HH.out.mono ?_
    rintro e w0 ⟨v0, rfl, hown0, hlen0, hb0⟩
    obtain ⟨na0, nc0, rfl, _⟩ := own_str hown0 (by omega)
    have HB0 := hideP2 hb0
    clear hown0 hb0
    go_wp2_with fail
    refine (HLb.out _ HB0.out).mono ?_
    rintro e w1 ⟨v, rfl, hown, hlen, hb1⟩
    obtain ⟨na, nc, rfl, hstr⟩ := own_str hown (by omega)
    have HB1 : Hid (Below w.heap.size w w1) := HB0.out.trans (hb1.mono HB0.out.size)
    have HSt := hideP2 hstr
    clear hown hb1 hstr HH HLb HB0
    generalize labsU us = names at *
    go_wp2_with fail
    go_loopw [6] (fun iv wr => ∃ (i : Nat), i ≤ names.length ∧ iv = .int .i64 i ∧ Hid (Below w1.heap.size w1 wr) ∧ Hid (((List.range names.length).drop i).any (fun i => leadsB (stepM us true names) names.length i i) = ans)) (fun iv _ => names.length - (intOf iv).toNat)
    case atStart => exact ⟨0, Nat.zero_le _, rfl, hideP2 (Below.refl _ _), hideP2 HRg.out.symm⟩
    case round =>
      obtain ⟨i, hi, rfl, HB, HE⟩ := hrel
      clear HRg
      have hbw : Below w.heap.size w wr := HB1.out.trans (HB.out.mono HB1.out.size)
      have HBw := hideP2 hbw
      by_cases hlt : i < names.length
      · have HLd := hideP2 (Leads_s wr a cp ls us true na nc names i i hlt (HR.out.below hbw) HA.out (HSt.out.below HB.out))
        have hE := HE.out
        rw [any_range_drop _ _ i hlt] at hE
        have HE2 := hideP2 hE
        clear HE hE hbw
        generalize leadsB (stepM us true names) names.length i i = z at *
        cases z
        · have HE3 : Hid (((List.range names.length).drop (i + 1)).any (fun i => leadsB (stepM us true names) names.length i i) = ans) := by have := HE2.out; rw [Bool.false_or] at this; exact this
          clear HE2
          go_wp2_with fail
          refine HLd.out.mono ?_
          rintro e w2 ⟨rfl, hb2⟩
          have HB2 : Hid (Below w1.heap.size w1 w2) := HB.out.trans (hb2.mono HB.out.size)
          clear hb2
          go_wp2_with fail
          go_roundw
          case rel => exact ⟨i + 1, by omega, by go_num, HB2, HE3⟩
          case measure => simp [intOf]; omega
        · have HE3 : Hid (ans = true) := by have := HE2.out; rw [Bool.true_or] at this; exact this.symm
          clear HE2
          go_wp2_with fail
          refine HLd.out.mono ?_
          rintro e w2 ⟨rfl, hb2⟩
          have HB2 : Hid (Below w.heap.size w w2) := HBw.out.trans (hb2.mono HBw.out.size)
          clear hb2
          go_wp2_with fail
          go_ret
          exact ⟨ret_bool HE3.out.symm, HB2.out⟩
      · have HE3 : Hid (ans = false) := by have := HE.out; rw [List.drop_eq_nil_of_le (by simp; omega)] at this; exact this.symm
        clear HE hbw
        go_wp2_with fail
        go_ret
        exact ⟨ret_bool HE3.out.symm, HBw.out⟩
end Go.Proofs.YtnbpdffdnphbeaaDoor
