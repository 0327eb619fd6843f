/- What guard of statutekeep gives: some tests. -/
import Derived.Test.YtnbpdffdnphbeaaGreatDoorPFrm
import Derived.Deep.RegionHeld3
namespace Go.Proofs.YtnbpdffdnphbeaaGreatDoor
open Go.RowKit

theorem RawT.at {w : World} {a : Option Addr} {m : Nat} (h : RawT w a m) {i : Nat} (hi : i < m) : ∃ g o, a = some ⟨g, o, none⟩ ∧ ∃ (b1 b2 b3 : Bool) (k x y mk n : Int), (w.cell? ⟨g, o + i * 8, none⟩ = some (.bool b1) ∧ w.cell? ⟨g, o + i * 8 + 1, none⟩ = some (.bool b2) ∧ w.cell? ⟨g, o + i * 8 + 2, none⟩ = some (.bool b3) ∧ w.cell? ⟨g, o + i * 8 + 3, none⟩ = some (.int .i64 k) ∧ w.cell? ⟨g, o + i * 8 + 4, none⟩ = some (.int .i64 x) ∧ w.cell? ⟨g, o + i * 8 + 5, none⟩ = some (.int .i64 y) ∧ w.cell? ⟨g, o + i * 8 + 6, none⟩ = some (.int .i64 mk) ∧ w.cell? ⟨g, o + i * 8 + 7, none⟩ = some (.int .i64 n)) ∧ (In64 k ∧ In64 x ∧ In64 y ∧ In64 mk ∧ In64 n) := by
  obtain ⟨g, o, e, hc⟩ := h.blk (by omega)
  exact ⟨g, o, e, hc i hi⟩

set_option maxRecDepth 100000 in
set_option maxHeartbeats 1000000 in
theorem fGuard_s (w : World) (sa la : Option Addr) (sn sc lc : Nat) (low : List Nat) (hS : RawT w sa sn) (hL : CelV w la (lowC low)) (hl4 : low.length ≤ 4) :
    Calls Tryz.prog 53 #[.slice sa sn sc, .slice la low.length lc] w fun e w' => ∃ ts v, e = .returned v ∧ TestsOk low ts ∧ w'.ownsRow w.heap.size 221 8 v ts.length (ts.flatMap ftC) ∧ Below w.heap.size w w' := by
  obtain ⟨i0, hi0, hz0, hz1, hz2⟩ := info_parts infoFT
  have hfew := hS.few
  unfold maxLen at hfew
  have HS := hideP2 (fun w' (hb : Below w.heap.size w w') => hS.below hb)
  have HL := hideP2 (fun w' (hb : Below w.heap.size w w') => hL.below hb)
  have HPk := hideP2 fPick_s
  clear hS hL
  go_enter Tryz.func53, Tryz.ntmps53
  go_wp2_with fail
  go_loopw [5, 6] (fun ov iv wr => ∃ (i : Nat) (ts : List FTest), i ≤ sn ∧ i ≤ 6 ∧ iv = .int .i64 i ∧ ts.length = i ∧ Hid (Below w.heap.size w wr) ∧ Hid (wr.ownsRow w.heap.size 221 8 ov i (ts.flatMap ftC)) ∧ Hid (∀ p ∈ ts, TestOk low p)) (fun _ iv _ => 6 - (intOf iv).toNat)
  case atStart => exact ⟨0, [], Nat.zero_le _, Nat.zero_le _, rfl, rfl, hideP2 (Below.refl _ _), hideP2 (World.ownsRow_nil _ _ _ _), hideP2 (fun p hp => by cases hp)⟩
  case round =>
    obtain ⟨i, ts, hi, hi6, rfl, hts, HB, HO, HP⟩ := hrel
    obtain ⟨oa, oc, rfl⟩ := own_sliceN HO.out
    by_cases hlt : i < sn ∧ i < 6
    · have c1 : (i : Int) < (sn : Int) := by omega
      have c2 : (i : Int) < 6 := by omega
      obtain ⟨g, o, rfl, b1, b2, b3, k, x, y, mk, n, ⟨t0, t1, t2, t3, -⟩, hk, -⟩ := (HS.out wr HB.out).at hlt.1
      have HPw := hideP2 (fun w' => HPk.out w' k 5 hk (by decide) (by decide))
      have HBr := hideP2 (fun w' (hb : Below wr.heap.size wr w') => HB.out.trans (hb.mono HB.out.size))
      go_upto_region 5 with fail
      have HC1 := hideP2 c1
      have HPs := hideP2 hts
      have HLt := hideP2 hlt
      clear hlt hts
      go_cut [7] from 8 to 109 (fun v7 wx => ∃ (k : Nat), v7 = .pointer (some ⟨wr.heap.size, 0, none⟩) ∧ Hid (k < 5) ∧ Hid (wx.heap[wr.heap.size]? = some (.cells #[.bool b1, .bool b2, .bool b3, .int .i64 (k : Int), .int .i64 0, .int .i64 0, .int .i64 0, .int .i64 0] 221 (0, 0))) ∧ Hid (Below wr.heap.size wr wx))
      case first =>
        go_region_held3 (fun w' => w'.cell? ⟨g, o + i * 8, none⟩ = some (.bool b1) ∧ w'.cell? ⟨g, o + i * 8 + 1, none⟩ = some (.bool b2) ∧ w'.cell? ⟨g, o + i * 8 + 2, none⟩ = some (.bool b3) ∧ w'.cell? ⟨g, o + i * 8 + 3, none⟩ = some (.int .i64 k)) (go_keep) (
          (go_at_call 51; refine (HPw.out _).mono ?_; rintro e w4 ⟨r, rfl, hr, hw⟩; obtain rfl := hw.symm))
        all_goals
          go_wp2_with fail
          go_meet
          exact ⟨r, rfl, hideP2 (by omega), hideP2 (hb_drew (hb_end _ _)), hideP2 (Below.drew ((Below.refl _ _).alloc (Nat.le_refl _) _))⟩
      case rest =>
        obtain ⟨k', rfl, HK, HX, HBc⟩ := hcut
        have HL2 := hideP2 (fun (d : Nat) (hd : d < low.length) => (show ∃ gl, la = some ⟨gl, 0, none⟩ ∧ gl < w.heap.size ∧ ∀ w', Below wr.heap.size wr w' → w'.cell? ⟨gl, d, none⟩ = some (.int .i64 ((low.getD d 0 : Nat) : Int)) by
          have e : (lowC low)[d]? = some (.int .i64 ((low.getD d 0 : Nat) : Int)) := by simp [lowC, List.getD, hd]
          obtain ⟨gl, e0, c0⟩ := (HL.out w (Below.refl _ _)).at e
          refine ⟨gl, e0, cell_lt c0, fun w' hb => ?_⟩
          obtain ⟨g', e', c'⟩ := (HL.out w' (HBr.out w' hb)).at e
          obtain rfl : gl = g' := by rw [e0] at e'; simpa using e'
          exact c'))
        have HT2 := hideP2 (fun w' (hb : Below wr.heap.size wr w') => (show ∃ (x y mk n : Int), (w'.cell? ⟨g, o + i * 8 + 4, none⟩ = some (.int .i64 x) ∧ w'.cell? ⟨g, o + i * 8 + 5, none⟩ = some (.int .i64 y) ∧ w'.cell? ⟨g, o + i * 8 + 6, none⟩ = some (.int .i64 mk) ∧ w'.cell? ⟨g, o + i * 8 + 7, none⟩ = some (.int .i64 n)) ∧ (In64 x ∧ In64 y ∧ In64 mk ∧ In64 n) by
          obtain ⟨g', o', e, _, _, _, _, x, y, mk, n, ⟨-, -, -, -, c4, c5, c6, c7⟩, -, f1, f2, f3, f4⟩ := (HS.out w' (HBr.out w' hb)).at HLt.out.1
          simp only [Option.some.injEq, Addr.mk.injEq, and_true] at e
          obtain ⟨rfl, rfl⟩ := e
          exact ⟨x, y, mk, n, ⟨c4, c5, c6, c7⟩, f1, f2, f3, f4⟩))
        have hg : g < wr.heap.size := cell_lt t0
        have ng : wr.heap.size ≠ g := by omega
        clear t0 t1 t2 t3 c1 c2 HPw
        have d0 : wc.cell? ⟨wr.heap.size, 3, none⟩ = some (.int .i64 (k' : Int)) := cell_row HX.out 3
        have e0 : wc.frozen? ⟨wr.heap.size, 3, none⟩ = false := by simp [World.frozen?, HX.out]
        go_upto_region 6 with fail
        go_cut [7, 47] from 8 to 109 (fun v7 c wx => v7 = .pointer (some ⟨wr.heap.size, 0, none⟩) ∧ c = .bool (decide (k' = 2 ∧ low.length = 0)) ∧ wx = wc)
        case first =>
          by_cases h2 : k' = 2
          · subst h2
            by_cases hl : low.length = 0
            · have HD : Hid (decide ((2 : Nat) = 2 ∧ low.length = 0) = true) := by unfold Hid; simp [hl]
              have l0 : ((low.length : Int) == 0) = true := by rw [beq_iff_eq]; omega
              clear hl
              go_wp2_with fail
              go_meet
              exact ⟨rfl, by rw [HD.out], rfl⟩
            · have HD : Hid (decide ((2 : Nat) = 2 ∧ low.length = 0) = false) := by unfold Hid; simp [hl]
              have l0 : ((low.length : Int) == 0) = false := by rw [beq_eq_false_iff_ne]; omega
              clear hl
              go_wp2_with fail
              go_meet
              exact ⟨rfl, by rw [HD.out], rfl⟩
          · have HD : Hid (decide (k' = 2 ∧ low.length = 0) = false) := by unfold Hid; simp [h2]
            have l0 : ((k' : Int) == 2) = false := by rw [beq_eq_false_iff_ne]; omega
            clear h2
            go_wp2_with fail
            go_meet
            exact ⟨rfl, by rw [HD.out], rfl⟩
        case rest =>
          obtain ⟨rfl, rfl, rfl⟩ := hcut
          go_upto_if 47 with fail
          go_cut [7] from 8 to 109 (fun v7 wx => ∃ (k2 : Nat), v7 = .pointer (some ⟨wr.heap.size, 0, none⟩) ∧ Hid (k2 < 5 ∧ (k2 = 2 → 0 < low.length)) ∧ Hid (wx.heap[wr.heap.size]? = some (.cells #[.bool b1, .bool b2, .bool b3, .int .i64 (k2 : Int), .int .i64 0, .int .i64 0, .int .i64 0, .int .i64 0] 221 (0, 0))) ∧ Hid (Below wr.heap.size wr wx))
          case first =>
            by_cases hc : k' = 2 ∧ low.length = 0
            · rw [decide_eq_true hc]
              clear hc
              go_wp2_with fail
              go_meet
              exact ⟨1, rfl, hideP2 ⟨by decide, fun h => by cases h⟩, hideP2 ((heap_setCell_same _ _ _ _ _ _ HX.out).trans rfl), hideP2 (HBc.out.setCell (Nat.le_refl _) _)⟩
            · rw [decide_eq_false hc]
              have HK2 : Hid (k' < 5 ∧ (k' = 2 → 0 < low.length)) := ⟨HK.out, fun h => by omega⟩
              clear hc
              go_wp2_with fail
              go_meet
              exact ⟨k', rfl, HK2, HX, HBc⟩
          case rest =>
            clear HX HBc HK d0 e0
            obtain ⟨k2, rfl, HK, HX, HBc⟩ := hcut
            have HFz : Hid (∀ k, wc.frozen? ⟨wr.heap.size, k, none⟩ = false) := fun k => by simp [World.frozen?, HX.out]
            have d3 : wc.cell? ⟨wr.heap.size, 3, none⟩ = some (.int .i64 (k2 : Int)) := cell_row HX.out 3
            go_upto_block 2 with fail
            go_cut [7] from 8 to 109 (fun v7 wx => ∃ t : FTest, v7 = .pointer (some ⟨wr.heap.size, 0, none⟩) ∧ Hid (wx.heap[wr.heap.size]? = some (.cells (ftC t).toArray 221 (0, 0))) ∧ Hid (TestOk low t) ∧ Hid (Below wr.heap.size wr wx))
            case first =>
              have f4 := HFz.out 4
              have f5 := HFz.out 5
              have f6 := HFz.out 6
              have f7 := HFz.out 7
              have d4 : wc.cell? ⟨wr.heap.size, 4, none⟩ = some (.int .i64 0) := cell_row HX.out 4
              have d5 : wc.cell? ⟨wr.heap.size, 5, none⟩ = some (.int .i64 0) := cell_row HX.out 5
              have d6 : wc.cell? ⟨wr.heap.size, 6, none⟩ = some (.int .i64 0) := cell_row HX.out 6
              have d7 : wc.cell? ⟨wr.heap.size, 7, none⟩ = some (.int .i64 0) := cell_row HX.out 7
              obtain ⟨x, y, mk, n, ⟨r4, r5, r6, r7⟩, g1, g2, g3, g4⟩ := HT2.out wc HBc.out
              have c1 := HC1.out
              have hk5 : k2 = 0 ∨ k2 = 1 ∨ k2 = 2 ∨ k2 = 3 ∨ k2 = 4 := by have := HK.out.1; omega
              have HPq := hideP2 (fun c m (hc : In64 c) (h1 : 0 < m) (h2 : m ≤ 1099511627776) => HPk.out wc c m hc h1 h2)
              rcases hk5 with rfl | rfl | rfl | rfl | rfl
              · go_wp2_with fail
                go_meet
                exact ⟨⟨b1, b2, b3, 0, 0, 0, 0, 0⟩, rfl, HX, hideP2 (.inl rfl), HBc⟩
              · have HP1 := hideP2 (HPq.out x 2 g1 (by decide) (by decide))
                go_wp2_with fail
                refine HP1.out.mono ?_
                rintro e w4 ⟨r, rfl, hr, hw⟩; obtain rfl := hw.symm
                have HR : Hid (3 ≤ 3 + (r : Int) ∧ 3 + (r : Int) < 5) := ⟨by omega, by omega⟩
                go_wp2_with fail
                go_meet
                exact ⟨⟨b1, b2, b3, 1, 3 + (r : Int), 0, 0, 0⟩, rfl, hideP2 ((heap_setCell_same _ _ _ _ _ _ HX.out).trans rfl), hideP2 (.inr (.inl ⟨rfl, HR.out.1, HR.out.2⟩)), hideP2 (HBc.out.setCell (Nat.le_refl _) _)⟩
              · have hlp := HK.out.2 rfl
                have HP1 := hideP2 (HPq.out x (low.length : Int) g1 (by omega) (by omega))
                go_wp2_with fail
                refine HP1.out.mono ?_
                rintro e w4 ⟨d, rfl, hr, hw⟩; obtain rfl := hw.symm
                have hdl : d < low.length := by omega
                obtain ⟨gl, rfl, hgl, hcl⟩ := HL2.out d hdl
                have cl := hcl wc HBc.out
                have hmem : low.getD d 0 ∈ low := by simp [List.getD, hdl]
                have ngl : wr.heap.size ≠ gl := by have := HB.out.size; omega
                generalize low.getD d 0 = dd at *
                clear hcl
                go_wp2_with fail
                go_meet
                exact ⟨⟨b1, b2, b3, 2, dd, 0, 0, 0⟩, rfl, hideP2 ((heap_setCell_same _ _ _ _ _ _ HX.out).trans rfl), hideP2 (.inr (.inr (.inl ⟨rfl, dd, hmem, rfl⟩))), hideP2 (HBc.out.setCell (Nat.le_refl _) _)⟩
              · go_wp2_with fail
                refine (HPk.out _ x 3 g1 (by decide) (by decide)).mono ?_
                rintro e w4 ⟨a1, rfl, ha1, hw⟩; obtain rfl := hw.symm
                go_wp2_with fail
                refine (HPk.out _ y 3 g2 (by decide) (by decide)).mono ?_
                rintro e w4 ⟨a2, rfl, ha2, hw⟩; obtain rfl := hw.symm
                go_wp2_with fail
                refine (HPk.out _ mk 6 g3 (by decide) (by decide)).mono ?_
                rintro e w4 ⟨a3, rfl, ha3, hw⟩; obtain rfl := hw.symm
                go_wp2_with fail
                refine (HPk.out _ n 10000 g4 (by decide) (by decide)).mono ?_
                rintro e w4 ⟨a4, rfl, ha4, hw⟩; obtain rfl := hw.symm
                have HTk : Hid (TestOk low ⟨b1, b2, b3, 3, (a1 : Int), (a2 : Int), (a3 : Int), (a4 : Int)⟩) := .inr (.inr (.inr ⟨.inl rfl, ⟨Int.natCast_nonneg _, ha1⟩, ⟨Int.natCast_nonneg _, ha2⟩, ⟨Int.natCast_nonneg _, ha3⟩, ⟨Int.natCast_nonneg _, Int.lt_add_one_iff.1 ha4⟩⟩))
                go_wp2_with fail
                go_meet
                exact ⟨⟨b1, b2, b3, 3, (a1 : Int), (a2 : Int), (a3 : Int), (a4 : Int)⟩, rfl, hideP2 ((heap_setCell_same _ _ _ _ _ _ (heap_setCell_same _ _ _ _ _ _ (heap_setCell_same _ _ _ _ _ _ (heap_setCell_same _ _ _ _ _ _ HX.out)))).trans rfl), HTk, hideP2 ((((HBc.out.setCell (Nat.le_refl _) _).setCell (Nat.le_refl _) _).setCell (Nat.le_refl _) _).setCell (Nat.le_refl _) _)⟩
              · go_wp2_with fail
                refine (HPk.out _ x 3 g1 (by decide) (by decide)).mono ?_
                rintro e w4 ⟨a1, rfl, ha1, hw⟩; obtain rfl := hw.symm
                go_wp2_with fail
                refine (HPk.out _ y 3 g2 (by decide) (by decide)).mono ?_
                rintro e w4 ⟨a2, rfl, ha2, hw⟩; obtain rfl := hw.symm
                go_wp2_with fail
                refine (HPk.out _ mk 6 g3 (by decide) (by decide)).mono ?_
                rintro e w4 ⟨a3, rfl, ha3, hw⟩; obtain rfl := hw.symm
                go_wp2_with fail
                refine (HPk.out _ n 10000 g4 (by decide) (by decide)).mono ?_
                rintro e w4 ⟨a4, rfl, ha4, hw⟩; obtain rfl := hw.symm
                have HTk : Hid (TestOk low ⟨b1, b2, b3, 4, (a1 : Int), (a2 : Int), (a3 : Int), (a4 : Int)⟩) := .inr (.inr (.inr ⟨.inr rfl, ⟨Int.natCast_nonneg _, ha1⟩, ⟨Int.natCast_nonneg _, ha2⟩, ⟨Int.natCast_nonneg _, ha3⟩, ⟨Int.natCast_nonneg _, Int.lt_add_one_iff.1 ha4⟩⟩))
                go_wp2_with fail
                go_meet
                exact ⟨⟨b1, b2, b3, 4, (a1 : Int), (a2 : Int), (a3 : Int), (a4 : Int)⟩, rfl, hideP2 ((heap_setCell_same _ _ _ _ _ _ (heap_setCell_same _ _ _ _ _ _ (heap_setCell_same _ _ _ _ _ _ (heap_setCell_same _ _ _ _ _ _ HX.out)))).trans rfl), HTk, hideP2 ((((HBc.out.setCell (Nat.le_refl _) _).setCell (Nat.le_refl _) _).setCell (Nat.le_refl _) _).setCell (Nat.le_refl _) _)⟩
            case rest =>
              clear HX HBc HFz d3 HT2 HL2
              obtain ⟨t, rfl, HX1, HT1, HB1⟩ := hcut
              obtain ⟨o1, o2, o3, o4, o5, o6, o7, o8⟩ := t
              have c0 : wc.cell? ⟨wr.heap.size, 0, none⟩ = some (.bool o1) := cell_row HX1.out 0
              have c1 : wc.cell? ⟨wr.heap.size, 1, none⟩ = some (.bool o2) := cell_row HX1.out 1
              have c2 : wc.cell? ⟨wr.heap.size, 2, none⟩ = some (.bool o3) := cell_row HX1.out 2
              have c3 : wc.cell? ⟨wr.heap.size, 3, none⟩ = some (.int .i64 o4) := cell_row HX1.out 3
              have c4 : wc.cell? ⟨wr.heap.size, 4, none⟩ = some (.int .i64 o5) := cell_row HX1.out 4
              have c5 : wc.cell? ⟨wr.heap.size, 5, none⟩ = some (.int .i64 o6) := cell_row HX1.out 5
              have c6 : wc.cell? ⟨wr.heap.size, 6, none⟩ = some (.int .i64 o7) := cell_row HX1.out 6
              have c7 : wc.cell? ⟨wr.heap.size, 7, none⟩ = some (.int .i64 o8) := cell_row HX1.out 7
              have HO1 := hideP2 (owns_below HO.out HB1.out)
              have HBw : Hid (Below w.heap.size w wc) := HB.out.trans (HB1.out.mono HB.out.size)
              have hsz : w.heap.size ≤ wc.heap.size := HBw.out.size
              clear HX1 HB1 HO
              go_wp2_with (at_builtin; refine wpList_append_own _ rfl _ _ 142 rfl w.heap.size 221 i0 _ 8 48 Tryz.underlying142 hi0 hz0 hz1 hz2 rfl (by decide) _ _ _ rfl (HO1.out.alloc _) ⟨wc.heap.size, 0, none⟩ 1 1 [.bool o1, .bool o2, .bool o3, .int .i64 o4, .int .i64 o5, .int .i64 o6, .int .i64 o7, .int .i64 o8] rfl rfl ?c1k1 ?c1k2 ?c1k3 ?c1k4 ?c1k5 ?_)
              try (case c1k1 => exact news_cells _ _ _ _ rfl)
              try (case c1k2 => intro u hu; simp at hu; rcases hu with rfl | rfl | rfl | rfl | rfl | rfl | rfl | rfl <;> rfl)
              try (case c1k3 => unfold maxLen; omega)
              try (case c1k4 => omega)
              try (case c1k5 => simp; omega)
              intro v6 w6 hown6 hgrow6 _
              have HB6 : Hid (Below w.heap.size w w6) := (HBw.out.alloc hsz _).grown hgrow6 (by simp; omega) (own_block_le HO1.out)
              have HO6 : Hid (w6.ownsRow w.heap.size 221 8 v6 (i + 1) ((ts ++ [(⟨o1, o2, o3, o4, o5, o6, o7, o8⟩ : FTest)]).flatMap ftC)) := by unfold Hid; rw [List.flatMap_append]; exact hown6
              have HP6 : Hid (∀ p ∈ ts ++ [(⟨o1, o2, o3, o4, o5, o6, o7, o8⟩ : FTest)], TestOk low p) := snoc_all HP.out HT1.out
              have hl6 : (ts ++ [(⟨o1, o2, o3, o4, o5, o6, o7, o8⟩ : FTest)]).length = i + 1 := by simp [HPs.out]
              clear hown6 hgrow6
              have hi6' : i + 1 ≤ 6 := by have := HLt.out; omega
              have his : i + 1 ≤ sn := by have := HLt.out; omega
              go_wp2_with fail
              go_roundw
              case rel => exact ⟨i + 1, _, his, hi6', by go_num, hl6, HB6, HO6, HP6⟩
              case measure => simp [intOf]; omega
    · have HPs := hideP2 hts
      have hcs : ¬ i < sn ∨ (i < sn ∧ i = 6) := by omega
      clear hlt hts
      by_cases h0 : i = 0
      · subst h0
        have hsn : sn = 0 := by omega
        subst hsn
        clear hcs
        go_wp2_with (at_builtin; refine wpList_append_own _ rfl _ _ 142 rfl w.heap.size 221 i0 _ 8 48 Tryz.underlying142 hi0 hz0 hz1 hz2 rfl (by decide) _ _ _ rfl (HO.out.alloc _) ⟨wr.heap.size, 0, none⟩ 1 1 [.bool false, .bool false, .bool false, .int .i64 0, .int .i64 0, .int .i64 0, .int .i64 0, .int .i64 0] rfl rfl ?c1k1 ?c1k2 ?c1k3 ?c1k4 ?c1k5 ?_)
        try (case c1k1 => exact news_cells _ _ _ _ rfl)
        try (case c1k2 => intro u hu; simp at hu; rcases hu with rfl | rfl <;> rfl)
        try (case c1k3 => unfold maxLen; omega)
        try (case c1k4 => omega)
        try (case c1k5 => have := HB.out.size; simp; omega)
        intro v6 w6 hown6 hgrow6 _
        have HB6 : Hid (Below w.heap.size w w6) := (HB.out.alloc HB.out.size _).grown hgrow6 (by have := HB.out.size; simp; omega) (own_block_le HO.out)
        have hnil : ts = [] := List.eq_nil_of_length_eq_zero HPs.out
        subst hnil
        have HO6 := hideP2 hown6
        have HPo : Hid (TestsOk low [⟨false, false, false, 0, 0, 0, 0, 0⟩]) := ⟨by simp, by simp, fun p hp => by rw [List.mem_singleton.1 hp]; exact .inl rfl⟩
        clear hown6 hgrow6
        go_wp2_with fail
        go_ret
        exact ⟨[⟨false, false, false, 0, 0, 0, 0, 0⟩], _, rfl, HPo.out, HO6.out, HB6.out⟩
      · have HQ : Hid (∃ ps' v, Ending.returned (.slice oa i oc) = .returned v ∧ TestsOk low ps' ∧ wr.ownsRow w.heap.size 221 8 v ps'.length (ps'.flatMap ftC) ∧ Below w.heap.size w wr) := ⟨ts, _, rfl, ⟨by rw [HPs.out]; omega, by rw [HPs.out]; exact hi6, HP.out⟩, by rw [HPs.out]; exact HO.out, HB.out⟩
        have k0 : ((i : Int) == 0) = false := by rw [beq_eq_false_iff_ne]; omega
        clear h0
        rcases hcs with hc | ⟨hc, h4⟩
        · have c1 : ¬ (i : Int) < (sn : Int) := by omega
          go_wp2_with fail
          go_ret
          exact HQ.out
        · subst h4
          have c1 : ((6 : Nat) : Int) < (sn : Int) := by omega
          have c2 : (6 : Int) < (sn : Int) := by omega
          go_wp2_with fail
          go_ret
          exact HQ.out
end Go.Proofs.YtnbpdffdnphbeaaGreatDoor
