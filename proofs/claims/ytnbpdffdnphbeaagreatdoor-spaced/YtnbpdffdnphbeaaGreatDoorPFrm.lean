/- A frame whose numbers are read: its parts, tests and rules, and how they lie in memory. -/
import Derived.Test.YtnbpdffdnphbeaaGreatDoorLKit
import Derived.Deep.CutBlock
namespace Go.Proofs.YtnbpdffdnphbeaaGreatDoor
open Go.RowKit

structure FPart where
  minus : Bool
  times : Bool
  n : Int
  num : Int
  head : Int
structure FTest where
  or : Bool
  not : Bool
  pair : Bool
  kind : Int
  x : Int
  y : Int
  mark : Int
  n : Int
def fpC (p : FPart) : List Value := [.bool p.minus, .bool p.times, .int .i64 p.n, .int .i64 p.num, .int .i64 p.head]
def ftC (t : FTest) : List Value := [.bool t.or, .bool t.not, .bool t.pair, .int .i64 t.kind, .int .i64 t.x, .int .i64 t.y, .int .i64 t.mark, .int .i64 t.n]
def lowC (low : List Nat) : List Value := low.map fun d : Nat => .int .i64 (d : Int)
/-- What a part may be: a number, a num, a number times a num, a conclusion (times a number). -/
def PartOk (low : List Nat) (p : FPart) : Prop :=
  (p.times = false ∧ (0 ≤ p.n ∧ p.n ≤ 9999) ∧ p.num = -1 ∧ p.head = -1) ∨ (p.times = false ∧ (0 ≤ p.num ∧ p.num < 3) ∧ p.head = -1) ∨
  (p.times = true ∧ (0 ≤ p.n ∧ p.n ≤ 9) ∧ (0 ≤ p.num ∧ p.num < 3) ∧ p.head = -1) ∨ ((0 ≤ p.n ∧ p.n ≤ 9) ∧ p.num = -1 ∧ ∃ d, d ∈ low ∧ p.head = (d : Nat))
/-- What a test may be. -/
def TestOk (low : List Nat) (t : FTest) : Prop :=
  t.kind = 0 ∨ (t.kind = 1 ∧ 3 ≤ t.x ∧ t.x < 5) ∨ (t.kind = 2 ∧ ∃ d, d ∈ low ∧ t.x = (d : Nat)) ∨
  ((t.kind = 3 ∨ t.kind = 4) ∧ (0 ≤ t.x ∧ t.x < 3) ∧ (0 ≤ t.y ∧ t.y < 3) ∧ (0 ≤ t.mark ∧ t.mark < 6) ∧ (0 ≤ t.n ∧ t.n ≤ 9999))
def PartsOk (low : List Nat) (ps : List FPart) : Prop := 0 < ps.length ∧ ps.length ≤ 4 ∧ ∀ p ∈ ps, PartOk low p
def TestsOk (low : List Nat) (ts : List FTest) : Prop := 0 < ts.length ∧ ts.length ≤ 6 ∧ ∀ t ∈ ts, TestOk low t
theorem snoc_all {α : Type} {P : α → Prop} {l : List α} {x : α} (h : ∀ y ∈ l, P y) (hx : P x) : ∀ y ∈ l ++ [x], P y := fun y hy => by
  rcases List.mem_append.1 hy with h1 | h1
  · exact h y h1
  · rw [List.mem_singleton.1 h1]; exact hx
theorem infoFP : (Tryz.prog.info? 217).map (fun i => (i.zero, i.size, i.bytes)) = some (some (.agg #[.bool false, .bool false, .int .i64 0, .int .i64 0, .int .i64 0]), 5, 32) := by kernel_rfl
theorem infoFT : (Tryz.prog.info? 221).map (fun i => (i.zero, i.size, i.bytes)) = some (some (.agg #[.bool false, .bool false, .bool false, .int .i64 0, .int .i64 0, .int .i64 0, .int .i64 0, .int .i64 0]), 8, 48) := by kernel_rfl
end Go.Proofs.YtnbpdffdnphbeaaGreatDoor

/- What sum of statutekeep gives: some parts. -/
namespace Go.Proofs.YtnbpdffdnphbeaaGreatDoor
open Go.RowKit

set_option maxRecDepth 100000 in
set_option maxHeartbeats 1000000 in
theorem fSum_s (w : World) (sa la : Option Addr) (sn sc lc : Nat) (low : List Nat) (hS : RawE w sa sn) (hL : CelV w la (lowC low)) (hl4 : low.length ≤ 4) :
    Calls Tryz.prog 52 #[.slice sa sn sc, .slice la low.length lc] w fun e w' => ∃ ps v, e = .returned v ∧ PartsOk low ps ∧ w'.ownsRow w.heap.size 217 5 v ps.length (ps.flatMap fpC) ∧ Below w.heap.size w w' := by
  obtain ⟨i0, hi0, hz0, hz1, hz2⟩ := info_parts infoFP
  have hfew := hS.few
  unfold maxLen at hfew
  have HS := hideP2 (fun w' (hb : Below w.heap.size w w') => hS.below hb)
  have HL := hideP2 (fun w' (hb : Below w.heap.size w w') => hL.below hb)
  have HPk := hideP2 fPick_s
  clear hS hL
  go_enter Tryz.func52, Tryz.ntmps52
  go_wp2_with fail
  go_loopw [5, 6] (fun ov iv wr => ∃ (i : Nat) (ps : List FPart), i ≤ sn ∧ i ≤ 4 ∧ iv = .int .i64 i ∧ ps.length = i ∧ Hid (Below w.heap.size w wr) ∧ Hid (wr.ownsRow w.heap.size 217 5 ov i (ps.flatMap fpC)) ∧ Hid (∀ p ∈ ps, PartOk low p)) (fun _ iv _ => 4 - (intOf iv).toNat)
  case atStart => exact ⟨0, [], Nat.zero_le _, Nat.zero_le _, rfl, rfl, hideP2 (Below.refl _ _), hideP2 (World.ownsRow_nil _ _ _ _), hideP2 (fun p hp => by cases hp)⟩
  case round =>
    obtain ⟨i, ps, hi, hi4, rfl, hps, HB, HO, HP⟩ := hrel
    obtain ⟨oa, oc, rfl⟩ := own_sliceN HO.out
    by_cases hlt : i < sn ∧ i < 4
    · have c1 : (i : Int) < (sn : Int) := by omega
      have c2 : (i : Int) < 4 := by omega
      obtain ⟨g, o, z, rfl, cz, hz⟩ := (HS.out wr HB.out).at hlt.1
      have HPw := hideP2 (HPk.out wr z 1099511627776 hz (by decide) (by decide))
      go_wp2_with fail
      refine HPw.out.mono ?_
      rintro e w2 ⟨u, rfl, hu, hw⟩; obtain rfl := hw.symm
      clear HPw HPk
      have HU := hideP2 hu
      have hu2 : (u : Int) ≤ 9223372036854775807 := by omega
      clear hu
      have hx0 : 0 ≤ (u : Int) / 8 := by omega
      have hx1 : (u : Int) / 8 ≤ 9223372036854775807 := by omega
      go_upto_region 7 with fail
      obtain ⟨x, hx⟩ : ∃ x : Nat, (u : Int) / 8 = (x : Int) := ⟨u / 8, by omega⟩
      have HXu : Hid ((x : Int) ≤ 137438953471) := by unfold Hid; have := HU.out; omega
      rw [hx]
      have HC1 := hideP2 c1
      have HC2 := hideP2 c2
      have HPs := hideP2 hps
      clear hx hx0 hx1 c1 c2 hlt hps cz
      go_cut [9] from 10 to 88 (fun v9 wx => ∃ mi : Bool, v9 = .pointer (some ⟨wr.heap.size, 0, none⟩) ∧ Hid (wx = wr.alloc (.cells #[.bool mi, .bool false, .int .i64 1, .int .i64 (-1), .int .i64 (-1)] 217)))
      case first =>
        by_cases k0 : i = 0
        · subst k0
          go_wp2_with fail
          go_meet
          exact ⟨false, rfl, hideP2 rfl⟩
        · have k1 : 0 < i := by omega
          have k2 : (0 : Int) < (i : Int) := by omega
          clear k0
          have y0 : 0 ≤ (u : Int) / 4 := by omega
          have y1 : (u : Int) / 4 ≤ 9223372036854775807 := by omega
          have y2 : 0 ≤ (u : Int) / 4 % 2 := by omega
          have y3 : (u : Int) / 4 % 2 ≤ 9223372036854775807 := by omega
          go_wp2_with fail
          go_meet
          exact ⟨_, rfl, hideP2 rfl⟩
      case rest =>
        obtain ⟨mi, rfl, HW⟩ := hcut
        have HX : Hid (wc.heap[wr.heap.size]? = some (.cells #[.bool mi, .bool false, .int .i64 1, .int .i64 (-1), .int .i64 (-1)] 217 (0, 0))) := by unfold Hid; rw [HW.out]; exact hb_end _ _
        have HBc : Hid (Below wr.heap.size wr wc) := by unfold Hid; rw [HW.out]; exact (Below.refl _ _).alloc (Nat.le_refl _) _
        have HFz : Hid (∀ k, wc.frozen? ⟨wr.heap.size, k, none⟩ = false) := fun k => by simp [World.frozen?, HX.out]
        clear HW
        go_upto_block 2 with fail
        go_cut [9] from 10 to 88 (fun v9 wx => ∃ p : FPart, v9 = .pointer (some ⟨wr.heap.size, 0, none⟩) ∧ Hid (wx.heap[wr.heap.size]? = some (.cells (fpC p).toArray 217 (0, 0))) ∧ Hid (PartOk low p) ∧ Hid (Below wr.heap.size wr wx))
        case first =>
          have f1 := HFz.out 1
          have f2 := HFz.out 2
          have f3 := HFz.out 3
          have f4 := HFz.out 4
          have c1 : wc.cell? ⟨wr.heap.size, 1, none⟩ = some (.bool false) := cell_row HX.out 1
          have c2 : wc.cell? ⟨wr.heap.size, 2, none⟩ = some (.int .i64 1) := cell_row HX.out 2
          have c3 : wc.cell? ⟨wr.heap.size, 3, none⟩ = some (.int .i64 (-1)) := cell_row HX.out 3
          have c4 : wc.cell? ⟨wr.heap.size, 4, none⟩ = some (.int .i64 (-1)) := cell_row HX.out 4
          have y0 : 0 ≤ (u : Int) % 4 := by omega
          have y1 : (u : Int) % 4 ≤ 9223372036854775807 := by omega
          have z0 : 0 ≤ (x : Int) % 3 := by omega
          have z1 : (x : Int) % 3 ≤ 9223372036854775807 := by omega
          have z2 : 0 ≤ (x : Int) % 10 := by omega
          have z3 : (x : Int) % 10 ≤ 9223372036854775807 := by omega
          have z4 : 0 ≤ (x : Int) / 10 := by omega
          have z5 : (x : Int) / 10 ≤ 9223372036854775807 := by have := HXu.out; omega
          have z6 : 0 ≤ (x : Int) / 10 % 3 := by omega
          have z7 : (x : Int) / 10 % 3 ≤ 9223372036854775807 := by omega
          have z8 : 0 ≤ (x : Int) % 10000 := by omega
          have z9 : (x : Int) % 10000 ≤ 9223372036854775807 := by omega
          have hu4 : (u : Int) % 4 = 0 ∨ (u : Int) % 4 = 1 ∨ (u : Int) % 4 = 2 ∨ (u : Int) % 4 = 3 := by omega
          have q1 : 0 ≤ (x : Int) % 10000 ∧ (x : Int) % 10000 ≤ 9999 := by omega
          have q2 : 0 ≤ (x : Int) % 3 ∧ (x : Int) % 3 < 3 := by omega
          have q3 : 0 ≤ (x : Int) % 10 ∧ (x : Int) % 10 ≤ 9 := by omega
          have q4 : 0 ≤ (x : Int) / 10 % 3 ∧ (x : Int) / 10 % 3 < 3 := by omega
          have Q1 := hideP2 q1
          have Q2 := hideP2 q2
          have Q3 := hideP2 q3
          have Q4 := hideP2 q4
          clear q1 q2 q3 q4
          rcases hu4 with hm | hm | hm | hm
          · go_wp2_with fail
            go_meet
            exact ⟨⟨mi, false, (x : Int) % 10000, -1, -1⟩, rfl, hideP2 ((heap_setCell_same _ _ _ _ _ _ HX.out).trans rfl), hideP2 (.inl ⟨rfl, Q1.out, rfl, rfl⟩), hideP2 (HBc.out.setCell (Nat.le_refl _) _)⟩
          · go_wp2_with fail
            go_meet
            exact ⟨⟨mi, false, 1, (x : Int) % 3, -1⟩, rfl, hideP2 ((heap_setCell_same _ _ _ _ _ _ HX.out).trans rfl), hideP2 (.inr (.inl ⟨rfl, Q2.out, rfl⟩)), hideP2 (HBc.out.setCell (Nat.le_refl _) _)⟩
          · go_wp2_with fail
            go_meet
            exact ⟨⟨mi, true, (x : Int) % 10, (x : Int) / 10 % 3, -1⟩, rfl, hideP2 ((heap_setCell_same _ _ _ _ _ _ (heap_setCell_same _ _ _ _ _ _ (heap_setCell_same _ _ _ _ _ _ HX.out))).trans rfl), hideP2 (.inr (.inr (.inl ⟨rfl, Q3.out, Q4.out, rfl⟩))), hideP2 (((HBc.out.setCell (Nat.le_refl _) _).setCell (Nat.le_refl _) _).setCell (Nat.le_refl _) _)⟩
          · by_cases hl0 : low = []
            · subst hl0
              go_wp2_with fail
              go_meet
              exact ⟨⟨mi, false, (x : Int) % 10000, -1, -1⟩, rfl, hideP2 ((heap_setCell_same _ _ _ _ _ _ HX.out).trans rfl), hideP2 (.inl ⟨rfl, Q1.out, rfl, rfl⟩), hideP2 (HBc.out.setCell (Nat.le_refl _) _)⟩
            · have hlp : 0 < low.length := by cases low with | nil => exact absurd rfl hl0 | cons _ _ => simp
              have hlp2 : (0 : Int) < (low.length : Int) := by omega
              have n0 : ((low.length : Int) == 0) = false := by rw [beq_eq_false_iff_ne]; omega
              obtain ⟨d, hd⟩ : ∃ d : Nat, (x : Int) / 10 % (low.length : Int) = (d : Int) := ⟨((x : Int) / 10 % (low.length : Int)).toNat, by have := Int.emod_nonneg ((x : Int) / 10) (show (low.length : Int) ≠ 0 by omega); omega⟩
              have hdl : d < low.length := by have := Int.emod_lt_of_pos ((x : Int) / 10) hlp2; omega
              have hdl2 : (d : Int) < (low.length : Int) := by omega
              obtain ⟨gl, rfl, cl⟩ := (HL.out wc (HB.out.trans (HBc.out.mono HB.out.size))).at (show (lowC low)[d]? = some (.int .i64 ((low.getD d 0 : Nat) : Int)) by simp [lowC, List.getD, hdl])
              have hmem : low.getD d 0 ∈ low := by simp [List.getD, hdl]
              have ngl : wr.heap.size ≠ gl := by
                obtain ⟨g', e', cl'⟩ := (HL.out w (Below.refl _ _)).at (show (lowC low)[d]? = some (.int .i64 ((low.getD d 0 : Nat) : Int)) by simp [lowC, List.getD, hdl])
                obtain rfl : gl = g' := by simpa using e'
                have := cell_lt cl'
                have := HB.out.size
                omega
              clear hl0
              generalize low.getD d 0 = dd at *
              have Q0 : Hid (0 ≤ (1 : Int) ∧ (1 : Int) ≤ 9) := ⟨by decide, by decide⟩
              by_cases k0 : (x : Int) % 10 = 0
              · go_wp2_with fail
                go_meet
                exact ⟨⟨mi, false, 1, -1, dd⟩, rfl, hideP2 ((heap_setCell_same _ _ _ _ _ _ (heap_setCell_same _ _ _ _ _ _ HX.out)).trans rfl), hideP2 (.inr (.inr (.inr ⟨Q0.out, rfl, dd, hmem, rfl⟩))), hideP2 ((HBc.out.setCell (Nat.le_refl _) _).setCell (Nat.le_refl _) _)⟩
              · have k1 : 0 < (x : Int) % 10 := by omega
                clear k0
                go_wp2_with fail
                go_meet
                exact ⟨⟨mi, true, (x : Int) % 10, -1, dd⟩, rfl, hideP2 ((heap_setCell_same _ _ _ _ _ _ (heap_setCell_same _ _ _ _ _ _ (heap_setCell_same _ _ _ _ _ _ HX.out))).trans rfl), hideP2 (.inr (.inr (.inr ⟨Q3.out, rfl, dd, hmem, rfl⟩))), hideP2 (((HBc.out.setCell (Nat.le_refl _) _).setCell (Nat.le_refl _) _).setCell (Nat.le_refl _) _)⟩
        case rest =>
          obtain ⟨p, rfl, HX1, HP1, HB1⟩ := hcut
          obtain ⟨mi', ti, nn, nu, hd⟩ := p
          have c0 : wc.cell? ⟨wr.heap.size, 0, none⟩ = some (.bool mi') := cell_row HX1.out 0
          have c1 : wc.cell? ⟨wr.heap.size, 1, none⟩ = some (.bool ti) := cell_row HX1.out 1
          have c2 : wc.cell? ⟨wr.heap.size, 2, none⟩ = some (.int .i64 nn) := cell_row HX1.out 2
          have c3 : wc.cell? ⟨wr.heap.size, 3, none⟩ = some (.int .i64 nu) := cell_row HX1.out 3
          have c4 : wc.cell? ⟨wr.heap.size, 4, none⟩ = some (.int .i64 hd) := cell_row HX1.out 4
          have HO1 := hideP2 (owns_below HO.out HB1.out)
          have HBw : Hid (Below w.heap.size w wc) := HB.out.trans (HB1.out.mono HB.out.size)
          have hsz : w.heap.size ≤ wc.heap.size := HBw.out.size
          clear HX1 HX HBc HFz HB1 HO
          go_wp2_with (at_builtin; refine wpList_append_own _ rfl _ _ 140 rfl w.heap.size 217 i0 _ 5 32 Tryz.underlying140 hi0 hz0 hz1 hz2 rfl (by decide) _ _ _ rfl (HO1.out.alloc _) ⟨wc.heap.size, 0, none⟩ 1 1 [.bool mi', .bool ti, .int .i64 nn, .int .i64 nu, .int .i64 hd] rfl rfl ?c1k1 ?c1k2 ?c1k3 ?c1k4 ?c1k5 ?_)
          try (case c1k1 => exact news_cells _ _ _ _ rfl)
          try (case c1k2 => intro u hu; simp at hu; rcases hu with rfl | rfl | rfl | rfl | rfl <;> rfl)
          try (case c1k3 => unfold maxLen; omega)
          try (case c1k4 => omega)
          try (case c1k5 => simp; omega)
          intro v6 w6 hown6 hgrow6 _
          have HB6 : Hid (Below w.heap.size w w6) := (HBw.out.alloc hsz _).grown hgrow6 (by simp; omega) (own_block_le HO1.out)
          have HO6 : Hid (w6.ownsRow w.heap.size 217 5 v6 (i + 1) ((ps ++ [(⟨mi', ti, nn, nu, hd⟩ : FPart)]).flatMap fpC)) := by unfold Hid; rw [List.flatMap_append]; exact hown6
          have HP6 : Hid (∀ p ∈ ps ++ [(⟨mi', ti, nn, nu, hd⟩ : FPart)], PartOk low p) := snoc_all HP.out HP1.out
          have hl6 : (ps ++ [(⟨mi', ti, nn, nu, hd⟩ : FPart)]).length = i + 1 := by simp [HPs.out]
          clear hown6 hgrow6
          have hi4' : i + 1 ≤ 4 := by have := HC2.out; omega
          have his : i + 1 ≤ sn := by have := HC1.out; omega
          go_wp2_with fail
          go_roundw
          case rel => exact ⟨i + 1, ps ++ [⟨mi', ti, nn, nu, hd⟩], his, hi4', by go_num, hl6, HB6, HO6, HP6⟩
          case measure => simp [intOf]; omega
    · have HPs := hideP2 hps
      have hcs : ¬ i < sn ∨ (i < sn ∧ i = 4) := by omega
      clear hlt hps
      by_cases h0 : i = 0
      · subst h0
        have hsn : sn = 0 := by omega
        subst hsn
        clear hcs
        go_wp2_with (at_builtin; refine wpList_append_own _ rfl _ _ 140 rfl w.heap.size 217 i0 _ 5 32 Tryz.underlying140 hi0 hz0 hz1 hz2 rfl (by decide) _ _ _ rfl (HO.out.alloc _) ⟨wr.heap.size, 0, none⟩ 1 1 [.bool false, .bool false, .int .i64 0, .int .i64 (-1), .int .i64 (-1)] rfl rfl ?c1k1 ?c1k2 ?c1k3 ?c1k4 ?c1k5 ?_)
        try (case c1k1 => exact news_cells _ _ _ _ rfl)
        try (case c1k2 => intro u hu; simp at hu; rcases hu with rfl | rfl | rfl <;> rfl)
        try (case c1k3 => unfold maxLen; omega)
        try (case c1k4 => omega)
        try (case c1k5 => have := HB.out.size; simp; omega)
        intro v6 w6 hown6 hgrow6 _
        have HB6 : Hid (Below w.heap.size w w6) := (HB.out.alloc HB.out.size _).grown hgrow6 (by have := HB.out.size; simp; omega) (own_block_le HO.out)
        have hnil : ps = [] := List.eq_nil_of_length_eq_zero HPs.out
        subst hnil
        have HO6 := hideP2 hown6
        have HPo : Hid (PartsOk low [⟨false, false, 0, -1, -1⟩]) := ⟨by simp, by simp, fun p hp => by rw [List.mem_singleton.1 hp]; exact .inl ⟨rfl, ⟨by decide, by decide⟩, rfl, rfl⟩⟩
        clear hown6 hgrow6
        go_wp2_with fail
        go_ret
        exact ⟨[⟨false, false, 0, -1, -1⟩], _, rfl, HPo.out, HO6.out, HB6.out⟩
      · have HQ : Hid (∃ ps' v, Ending.returned (.slice oa i oc) = .returned v ∧ PartsOk low ps' ∧ wr.ownsRow w.heap.size 217 5 v ps'.length (ps'.flatMap fpC) ∧ Below w.heap.size w wr) := ⟨ps, _, rfl, ⟨by rw [HPs.out]; omega, by rw [HPs.out]; exact hi4, HP.out⟩, by rw [HPs.out]; exact HO.out, HB.out⟩
        have k0 : ((i : Int) == 0) = false := by rw [beq_eq_false_iff_ne]; omega
        clear h0
        rcases hcs with hc | ⟨hc, h4⟩
        · have c1 : ¬ (i : Int) < (sn : Int) := by omega
          go_wp2_with fail
          go_ret
          exact HQ.out
        · subst h4
          have c1 : ((4 : Nat) : Int) < (sn : Int) := by omega
          have c2 : (4 : Int) < (sn : Int) := by omega
          go_wp2_with fail
          go_ret
          exact HQ.out
end Go.Proofs.YtnbpdffdnphbeaaGreatDoor
