/- What the program's check asks of a line: is there one too many, or too much in it? -/
import Derived.Test.YtnbpdffdnphbeaaGreatCkLines2
import Derived.Deep.RegionWith
import Derived.Deep.CutRange
namespace Go.Proofs.YtnbpdffdnphbeaaGreat
open Go.RowKit

set_option maxHeartbeats 1000000 in
theorem isSumTooGreat_s (w : World) (a : Option Addr) (c : Nat) (S : List PPart) (h : ParV w a S) :
    Calls Tryz.prog 49 #[.slice a S.length c] w fun e w' => e = .returned (.bool (sumBig S)) ∧ Below w.heap.size w w' := by
  have HL := hideP2 h
  have hfew := h.few
  unfold maxLen at hfew
  clear h
  by_cases hb4 : 4 < S.length
  · have HR : Hid (sumBig S = true) := by unfold Hid sumBig; rw [decide_eq_true hb4]; rfl
    go_enter Tryz.func49, Tryz.ntmps49
    go_wp2_with fail
    go_ret
    exact ⟨ret_bool HR.out.symm, Below.refl _ _⟩
  · have HR : Hid (S.any partBig = sumBig S) := by unfold Hid sumBig; rw [decide_eq_false hb4]; rfl
    go_enter Tryz.func49, Tryz.ntmps49
    go_wp2_with fail
    go_loopw [10] (fun iv wr => ∃ (i : Nat), i ≤ S.length ∧ iv = .int .i64 i ∧ Hid (Below w.heap.size w wr) ∧ Hid ((S.drop i).any partBig = sumBig S)) (fun iv _ => S.length - (intOf iv).toNat)
    case atStart => exact ⟨0, Nat.zero_le _, rfl, hideP2 (Below.refl _ _), HR⟩
    case round =>
      obtain ⟨i, hi, rfl, HB, HE⟩ := hrel
      by_cases hlt : i < S.length
      · obtain ⟨g, cur, rfl, hp⟩ := (HL.out.below HB.out (Nat.le_refl _)).blk (by omega)
        obtain ⟨c0, c1, c2, c3⟩ := hp.cells hlt
        have hg := hp.lt
        have hE := HE.out
        rw [any_drop _ xz _ i hlt, show S.getD i xz = xAt S i from rfl] at hE
        have HE2 := hideP2 hE
        have hsz := HB.out.size
        clear HE hE hp HR
        generalize xAt S i = x at *
        obtain ⟨mi, st, nu, na⟩ := x
        simp only at c0 c1 c2 c3
        cases st
        · have HE3 : Hid ((S.drop (i + 1)).any partBig = sumBig S) := by have := HE2.out; unfold Hid; rw [← this]; simp [partBig]
          clear HE2
          go_wp2_with fail
          go_roundw
          case rel => exact ⟨i + 1, by omega, by go_num, hideP2 (HB.out.alloc hsz _), HE3⟩
          case measure => simp [intOf]; omega
        · by_cases k1 : 9 < nu
          · have HE3 : Hid (sumBig S = true) := by have := HE2.out; unfold Hid; rw [← this]; simp [partBig, k1]
            clear HE2
            go_wp2_with fail
            go_ret
            exact ⟨ret_bool HE3.out.symm, HB.out.alloc hsz _⟩
          · have HE3 : Hid ((S.drop (i + 1)).any partBig = sumBig S) := by have := HE2.out; unfold Hid; rw [← this]; simp [partBig, k1]
            clear HE2
            go_wp2_with fail
            go_roundw
            case rel => exact ⟨i + 1, by omega, by go_num, hideP2 (HB.out.alloc hsz _), HE3⟩
            case measure => simp [intOf]; omega
      · have HE3 : Hid (sumBig S = false) := by have := HE.out; rw [List.drop_eq_nil_of_le (by omega)] at this; exact this.symm
        clear HE
        go_wp2_with fail
        go_ret
        exact ⟨ret_bool HE3.out.symm, HB.out⟩

/-- A rule's rows. -/
theorem LineC.rule {w : World} {x : LX} {sa na : Option Addr} {sn sc nn nc : Nat} (h : LineC w x) (hk : x.1.kind = 3) (e : x.2 = (.slice sa sn sc, .slice na nn nc)) : sn = x.1.sum.length ∧ ParV w sa x.1.sum ∧ nn = x.1.nd.length ∧ NodV w na x.1.nd := by
  obtain ⟨h1, h2, h3⟩ := h.g.rule hk
  obtain ⟨g, c, cur, e2, p⟩ := h.b.sum h1
  obtain ⟨g', c', cur', e3, p'⟩ := h.b.nod (by omega)
  rw [e] at e2 e3
  simp only [Value.slice.injEq] at e2 e3
  have h4 := h.g.sumN
  exact ⟨e2.2.1, ⟨fun _ => ⟨g, cur, e2.1, p⟩, by unfold maxLen; omega⟩, e3.2.1, ⟨fun _ => ⟨g', cur', e3.1, p'⟩, h.nds⟩⟩

/-- A block of the call's own, behind calls that leave it. -/
theorem hb_below {w w' : World} {x : Obj} {k B : Nat} (h : w.heap[k]? = some x) (hb : Below B w w') (hk : k < B) : w'.heap[k]? = some x := by
  rw [hb.block k hk]; exact h
theorem cell_row {w : World} {b : Nat} {cs : Array Value} {T : TypeId} {fz : Nat × Nat} (h : w.heap[b]? = some (.cells cs T fz)) (j : Nat) : w.cell? ⟨b, j, none⟩ = cs[j]? := by
  simp only [World.cell?, h]; rfl

set_option maxHeartbeats 2000000 in
theorem isTooMany_s (w : World) (a : Option Addr) (c : Nat) (ls : List LX) (i : Nat) (hi : i < ls.length) (hc : ls.length ≤ c) (h : LinV w a ls) :
    Calls Tryz.prog 25 #[.slice a ls.length c, .int .i64 i] w fun e w' => e = .returned (.bool (manyP (fs ls) i)) ∧ Below w.heap.size w w' := by
  have hfew := h.few
  obtain ⟨gl, sa, sn, sc, na, nn, nc, rfl, hgl, ⟨c0, c1, c2, c3, c4, c5, c6, c7, c8, c9, c10⟩, eq, hC⟩ := h.line hi
  have HC : Hid (∀ w', Below w.heap.size w w' → Calls Tryz.prog 47 #[.slice (some ⟨gl, 0, none⟩) i c, .int .i64 (lAt ls i).1.kind] w' fun e w'' => e = .returned (.int .i64 (cntK (lAt ls i).1.kind ((fs ls).take i))) ∧ Below w'.heap.size w' w'') := by
    intro w' hb
    have := countKind_s w' (some ⟨gl, 0, none⟩) c (ls.take i) (lAt ls i).1.kind ((h.take i).below hb (Nat.le_refl _))
    rw [List.length_take, Nat.min_eq_left (by omega), show fs (ls.take i) = (fs ls).take i from List.map_take ..] at this
    exact this
  have HS : Hid ((lAt ls i).1.kind = 3 → ∀ w', Below w.heap.size w w' → Calls Tryz.prog 49 #[.slice sa sn sc] w' fun e w'' => e = .returned (.bool (sumBig (lAt ls i).1.sum)) ∧ Below w'.heap.size w' w'') := by
    intro hk w' hb
    obtain ⟨h1, h2, _⟩ := hC.rule hk eq
    rw [h1]
    exact isSumTooGreat_s w' sa sc _ (h2.below hb (Nat.le_refl _))
  have HM : Hid (manyP (fs ls) i = (decide (limP (lAt ls i).1.kind ≤ (cntK (lAt ls i).1.kind ((fs ls).take i) : Int)) || (decide ((lAt ls i).1.kind = 3) && manyX (lAt ls i).1))) := by unfold Hid manyP; rw [fs_get]
  have hcl := cntK_le (lAt ls i).1.kind ((fs ls).take i)
  rw [List.length_take] at hcl
  clear h hC eq
  generalize (lAt ls i).1 = x at *
  obtain ⟨kd, n1, lo, hi', cc, S, N, ro, te, de, lw⟩ := x
  simp only at c0 c1 c2 c3 c4 c5 c6 c7 c8 c9 c10 HC HS HM hcl
  generalize cntK kd ((fs ls).take i) = cn at *
  have hlim : 0 ≤ limP kd ∧ limP kd ≤ 28 := by unfold limP; repeat' split <;> omega
  generalize hlm : limP kd = lm at *
  have HLm := hideP2 hlm
  clear hlm
  have hsn : w.heap.size < w.heap.size + 1 := Nat.lt_succ_self _
  go_enter Tryz.func25, Tryz.ntmps25
  go_wp2_with fail
  go_cut [19] from 10 to 19 (fun v wx => v = .bool (decide (lm ≤ (cn : Int))) ∧ Hid (Below w.heap.size w wx) ∧ ∀ j, wx.cell? ⟨w.heap.size, j, none⟩ = #[Value.int .i64 kd, .string ⟨n1.toArray⟩, .int .i64 lo, .int .i64 hi', .string ⟨cc.toArray⟩, .slice sa sn sc, .slice na nn nc, .int .i64 ro, .int .i64 te, .int .i64 de, .string ⟨lw.toArray⟩][j]?)
  case first =>
    go_region_with (first
      | (go_at_call 47
         refine (HC.out _ (Below.drew (Below.alloc (Below.refl _ _) (Nat.le_refl _) _))).mono ?_
         rintro e w1 ⟨rfl, hb1⟩
         have b1 := hb_below (hb_drew (hb_end _ _)) hb1 (lt_drew (lt_end _ _))
         have HB1 : Hid (Below w.heap.size w w1) := (Below.drew (Below.alloc (Below.refl _ _) (Nat.le_refl _) _)).trans (hb1.mono (Nat.le_of_lt (lt_drew (lt_end _ _))))
         have q := cell_row b1
         clear hb1 b1)
      | (go_at_call 48
         refine (limit_s _ _).mono ?_
         rintro e w2 ⟨rfl, hw⟩
         obtain rfl := hw.symm
         rw [HLm.out]))
    all_goals
      go_wp2_with fail
      go_meet
      exact ⟨rfl, HB1, q⟩
  case rest =>
    obtain ⟨rfl, HB1, q⟩ := hcut
    clear c0 c1 c2 c3 c4 c5 c6 c7 c8 c9 c10 HC
    by_cases hm : lm ≤ (cn : Int)
    · have HR : Hid (manyP (fs ls) i = true) := by unfold Hid; rw [HM.out, decide_eq_true hm]; rfl
      clear HM
      go_wp2_with fail
      go_ret
      exact ⟨ret_bool HR.out.symm, HB1.out⟩
    · have hm' : decide (lm ≤ (cn : Int)) = false := decide_eq_false hm
      have HM1 : Hid (manyP (fs ls) i = (decide (kd = 3) && manyX ⟨kd, n1, lo, hi', cc, S, N, ro, te, de, lw⟩)) := by unfold Hid; rw [HM.out, hm']; rfl
      clear HM
      by_cases k3 : kd = 3
      · have HM2 : Hid (manyP (fs ls) i = (decide (6 < te) || (decide (4 < de) || sumBig S))) := by unfold Hid; rw [HM1.out, decide_eq_true k3]; rfl
        have HS2 := hideP2 (HS.out k3)
        have b3 : (kd != 3) = false := by simpa using k3
        clear HM1 HS k3
        by_cases k6 : 6 < te
        · have HR : Hid (manyP (fs ls) i = true) := by unfold Hid; rw [HM2.out, decide_eq_true k6]; rfl
          clear HM2
          go_wp2_with fail
          go_ret
          exact ⟨ret_bool HR.out.symm, HB1.out⟩
        · by_cases k7 : 4 < de
          · have HR : Hid (manyP (fs ls) i = true) := by unfold Hid; rw [HM2.out, decide_eq_true k7, Bool.true_or, Bool.or_true]
            clear HM2
            go_wp2_with fail
            go_ret
            exact ⟨ret_bool HR.out.symm, HB1.out⟩
          · have HR : Hid (manyP (fs ls) i = sumBig S) := by unfold Hid; rw [HM2.out, decide_eq_false k6, decide_eq_false k7]; rfl
            clear HM2
            go_wp2_with fail
            refine (HS2.out _ HB1.out).mono ?_
            rintro e w3 ⟨rfl, hb3⟩
            have HB3 : Hid (Below w.heap.size w w3) := HB1.out.trans (hb3.mono HB1.out.size)
            clear hb3
            go_wp2_with fail
            go_ret
            exact ⟨ret_bool HR.out.symm, HB3.out⟩
      · have HR : Hid (manyP (fs ls) i = false) := by unfold Hid; rw [HM1.out, decide_eq_false k3]; rfl
        have b3 : (kd != 3) = true := by simpa using k3
        clear HM1 k3
        go_wp2_with fail
        go_ret
        exact ⟨ret_bool HR.out.symm, HB1.out⟩
end Go.Proofs.YtnbpdffdnphbeaaGreat
