/- What ruleWords of statutekeep gives: a rule's line. -/
import Derived.Test.YtnbpdffdnphbeaaGreatDoorFSumW
namespace Go.Proofs.YtnbpdffdnphbeaaGreatDoor
open Go.RowKit

def rulW (r : FRule) (i : Nat) (lo : Bool) : List Bs := [[114, 117, 108, 101], nmB 114 i, [58], nmB 99 r.head, [61]] ++ sumW r.parts ++ [[119, 104, 101, 110]] ++ grdW r.whole r.tests lo ++ [[59]]
structure RwS (w wx : World) (bo : Obj) (pa qa : Option Addr) (Lp Lt : List Value) (v : Value) (ws : List Bs) : Prop where
  box : wx.heap[w.heap.size]? = some bo
  lp : CelT wx 217 pa Lp
  lt : CelT wx 221 qa Lt
  own : wx.ownsRow (w.heap.size + 1) 9 1 v ws.length (strC ws)
  bel : Below w.heap.size w wx
theorem RwS.below {w wx w' : World} {bo : Obj} {pa qa : Option Addr} {Lp Lt : List Value} {v : Value} {ws : List Bs} (h : RwS w wx bo pa qa Lp Lt v ws) (hb : Below wx.heap.size wx w') : RwS w w' bo pa qa Lp Lt v ws := ⟨(hb.block _ (hlt_of h.box)).trans h.box, h.lp.below hb, h.lt.below hb, owns_below h.own hb, h.bel.trans (hb.mono h.bel.size)⟩
theorem RwS.app {w wx wz w9 : World} {bo : Obj} {pa qa : Option Addr} {Lp Lt : List Value} {v v9 : Value} {ws ns : List Bs} (h : RwS w wx bo pa qa Lp Lt v ws) (hz : Below wx.heap.size wx wz) (hg : wz.grownBy w9 v.ownBlock) (hown : w9.ownsRow (w.heap.size + 1) 9 1 v9 (ws.length + ns.length) (strC ws ++ strC ns)) : RwS w w9 bo pa qa Lp Lt v9 (ws ++ ns) := by
  have hZ := h.below hz
  have hb : Below (w.heap.size + 1) wz w9 := (Below.refl _ wz).grown hg (hlt_of hZ.box) (own_block_le hZ.own)
  refine ⟨(hb.block _ (Nat.lt_succ_self _)).trans hZ.box, hZ.lp.grown hZ.own (by decide) hg, hZ.lt.grown hZ.own (by decide) hg, ?_, hZ.bel.trans (hb.mono (Nat.le_succ _))⟩
  rw [List.length_append]
  have e : strC (ws ++ ns) = strC ws ++ strC ns := by unfold strC; rw [List.map_append]
  rw [e]; exact hown
theorem RwS.five {w wx : World} {bo : Obj} {pa qa : Option Addr} {Lp Lt : List Value} {v : Value} {ws : List Bs} (h : RwS w wx bo pa qa Lp Lt v ws) (a b c d e : Bs) : RwS w (wx.alloc (.cells #[.string ⟨a.toArray⟩, .string ⟨b.toArray⟩, .string ⟨c.toArray⟩, .string ⟨d.toArray⟩, .string ⟨e.toArray⟩] 9)) bo pa qa Lp Lt (.slice (some ⟨wx.heap.size, 0, none⟩) 5 5) [a, b, c, d, e] := by
  have hz := h.below ((Below.refl _ _).alloc (Nat.le_refl _) (.cells #[.string ⟨a.toArray⟩, .string ⟨b.toArray⟩, .string ⟨c.toArray⟩, .string ⟨d.toArray⟩, .string ⟨e.toArray⟩] 9))
  exact ⟨hz.box, hz.lp, hz.lt, ⟨rfl, .inr ⟨wx.heap.size, 5, _, rfl, hlt_of h.box, hb_end _ _, by simp, by decide, rfl, rfl⟩⟩, hz.bel⟩
theorem strC_facts (tw : List Bs) : (strC tw).length = tw.length * 1 ∧ ∀ u ∈ strC tw, u.oneCell' = true := by
  refine ⟨by unfold strC; simp, fun u hu => ?_⟩
  obtain ⟨x, -, rfl⟩ := List.mem_map.1 hu; rfl
theorem partW_len (j : Nat) (p : FPart) : (partW j p).length ≤ 4 := by
  have h1 : (signW j p).length ≤ 1 := by unfold signW; split; simp; split <;> simp
  have h2 : (timesW p).length ≤ 1 := by unfold timesW; split <;> simp
  have h3 : (starW p).length ≤ 1 := by unfold starW; split <;> simp
  have h4 : (nameW p).length ≤ 1 := by unfold nameW; split; simp; split <;> simp
  unfold partW
  simp only [List.length_append]
  omega
theorem sumWN_len (ps : List FPart) : ∀ i, (sumWN ps i).length ≤ 4 * i := by
  intro i
  induction i with
  | zero => simp [sumWN]
  | succ i ih => rw [sumWN_succ, List.length_append]; have := partW_len i (ps.getD i fp0); omega
theorem tstsN_len (ts : List FTest) (lo : Bool) : ∀ i, (tstsN ts lo i).length ≤ 7 * i := by
  intro i
  induction i with
  | zero => simp [tstsN]
  | succ i ih =>
    rw [tstsN_succ, List.length_append, List.length_append]
    have h1 := (tstW_len (ts.getD i ft0) lo).2
    have h2 : (joinW i (ts.getD i ft0)).length ≤ 1 := by unfold joinW; split; simp; split <;> simp
    omega
theorem tstsN_pos (ts : List FTest) (lo : Bool) {i : Nat} (h : 0 < i) : 0 < (tstsN ts lo i).length := by
  obtain ⟨j, rfl⟩ : ∃ j, i = j + 1 := ⟨i - 1, by omega⟩
  rw [tstsN_succ, List.length_append, List.length_append]
  have h1 := (tstW_len (ts.getD j ft0) lo).1
  omega
theorem grdW_len (wh : Bool) (ts : List FTest) (lo : Bool) (h0 : 0 < ts.length) (h6 : ts.length ≤ 6) : 0 < (grdW wh ts lo).length ∧ (grdW wh ts lo).length ≤ 45 := by
  have h1 := tstsN_len ts lo ts.length
  have h2 := tstsN_pos ts lo h0
  have a1 : ((if wh = true then [[110, 111, 116]] else []) : List Bs).length ≤ 1 := by split <;> simp
  have a2 : ∀ x : Bs, ((if innW wh lo ts.length = true then [x] else []) : List Bs).length ≤ 1 := fun x => by split <;> simp
  have a3 := a2 [40]
  have a4 := a2 [41]
  unfold grdW
  simp only [List.length_append]
  omega
theorem nameW_pos {low : List Nat} {p : FPart} (h : PartOk low p) : 0 < (timesW p ++ nameW p).length := by
  rw [List.length_append]
  rcases h with ⟨-, -, h1, h2⟩ | ⟨-, h1, -⟩ | ⟨-, -, h1, -⟩ | ⟨-, h1, d, -, h2⟩
  · have : (timesW p).length = 1 := by unfold timesW; rw [if_pos (.inr ⟨by omega, by omega⟩)]; rfl
    omega
  · have : (nameW p).length = 1 := by unfold nameW; rw [if_pos h1.1]; rfl
    omega
  · have : (nameW p).length = 1 := by unfold nameW; rw [if_pos h1.1]; rfl
    omega
  · have : (nameW p).length = 1 := by unfold nameW; rw [if_neg (by omega), if_pos (by omega)]; rfl
    omega
theorem sumW_pos {low : List Nat} {ps : List FPart} (h : PartsOk low ps) : 0 < (sumW ps).length := by
  obtain ⟨j, hj⟩ : ∃ j, ps.length = j + 1 := ⟨ps.length - 1, by have := h.1; omega⟩
  unfold sumW
  rw [hj, sumWN_succ, List.length_append]
  have h1 := nameW_pos (h.2.2 (ps.getD j fp0) (by simp [List.getD, hj]))
  unfold partW
  simp only [List.length_append] at h1 ⊢
  omega

set_option maxRecDepth 100000 in
set_option maxHeartbeats 3000000 in
theorem fRuleW_s (w : World) (h i : Nat) (wh lo : Bool) (pa qa : Option Addr) (pc qc : Nat) (ps : List FPart) (ts : List FTest) (low : List Nat) (hh : h < 4) (hi8 : i < 8) (hps : PartsOk low ps) (hts : TestsOk low ts) (hl4 : ∀ d ∈ low, d < 4) (hP : CelT w 217 pa (ps.flatMap fpC)) (hQ : CelT w 221 qa (ts.flatMap ftC)) (hT : TabK w) :
    Calls Tryz.prog 57 #[.agg #[.int .i64 (h : Int), .bool wh, .slice pa ps.length pc, .slice qa ts.length qc], .int .i64 (i : Int), .bool lo] w fun e w' => ∃ v, e = .returned v ∧ w'.ownsRow w.heap.size 9 1 v (rulW ⟨h, wh, ps, ts⟩ i lo).length (strC (rulW ⟨h, wh, ps, ts⟩ i lo)) ∧ Below w.heap.size w w' := by
  obtain ⟨i0, hi0, hz0, hz1, hz2⟩ := info_parts infoStr
  have HTb := hideP2 (fun w' (hb : Below w.heap.size w w') => hT.below hb)
  have HN1 := hideP2 (fun w' => kName_s w' 114 i (by omega))
  have HN2 := hideP2 (fun w' => kName_s w' 99 h (by omega))
  rw [show ((114 : UInt8).toNat : Int) = 114 from rfl] at HN1
  rw [show ((99 : UInt8).toNat : Int) = 99 from rfl] at HN2
  have HSu := hideP2 (fun w' pc (hc : CelT w' 217 pa (ps.flatMap fpC)) (ht : TabK w') => fSumW_s w' pa pc ps low hps hl4 hc ht)
  have HGu := hideP2 (fun w' (hc : CelT w' 221 qa (ts.flatMap ftC)) (ht : TabK w') => fGuardW_s w' (h : Int) wh lo pa qa ps.length pc qc ts low hts hl4 hc ht)
  have HRW : Hid (rulW ⟨h, wh, ps, ts⟩ i lo = [[114, 117, 108, 101], nmB 114 i, [58], nmB 99 h, [61]] ++ sumW ps ++ [[119, 104, 101, 110]] ++ grdW wh ts lo ++ [[59]]) := rfl
  have s1 := sumW_pos hps
  have s2 : (sumW ps).length ≤ 16 := by have := sumWN_len ps ps.length; have := hps.2.1; unfold sumW; omega
  obtain ⟨g1, g2⟩ := grdW_len wh ts lo hts.1 hts.2.1
  have HS0 : Hid (RwS w (w.alloc (.cells #[.int .i64 (h : Int), .bool wh, .slice pa ps.length pc, .slice qa ts.length qc] 145)) (.cells #[.int .i64 (h : Int), .bool wh, .slice pa ps.length pc, .slice qa ts.length qc] 145 (0, 0)) pa qa (ps.flatMap fpC) (ts.flatMap ftC) (.slice none 0 0) []) := ⟨hb_end _ _, hP.below ((Below.refl _ _).alloc (Nat.le_refl _) _), hQ.below ((Below.refl _ _).alloc (Nat.le_refl _) _), World.ownsRow_nil _ _ _ _, (Below.refl _ _).alloc (Nat.le_refl _) _⟩
  have hfp : ps.length ≤ 4 := hps.2.1
  have hft : ts.length ≤ 6 := hts.2.1
  generalize rulW ⟨h, wh, ps, ts⟩ i lo = TW at *
  generalize sumW ps = sw at *
  generalize grdW wh ts lo = gw at *
  generalize nmB 114 i = n1 at *
  generalize nmB 99 h = n2 at *
  clear hps hts hl4 hP hQ hT
  go_enter Tryz.func57, Tryz.ntmps57
  go_upto_region 1 with fail
  generalize w.alloc (.cells #[.int .i64 (h : Int), .bool wh, .slice pa ps.length pc, .slice qa ts.length qc] 145) = w0 at *
  have d0 : w0.cell? ⟨w.heap.size, 0, none⟩ = some (.int .i64 (h : Int)) := cell_row HS0.out.box 0
  go_cut [7] from 10 to 15 (fun v7 wx => Hid (RwS w wx (.cells #[.int .i64 (h : Int), .bool wh, .slice pa ps.length pc, .slice qa ts.length qc] 145 (0, 0)) pa qa (ps.flatMap fpC) (ts.flatMap ftC) v7 [[114, 117, 108, 101], n1, [58], n2, [61]]))
  case first =>
    go_region_held3 (fun w' => w'.cell? ⟨w.heap.size, 0, none⟩ = some (.int .i64 (h : Int))) (go_keep) (first
      | (go_at_call_of 58 (Value.int .u8 114); refine (HN1.out _).mono ?_; rintro e w5 ⟨rfl, hb5⟩; have hS5 := HS0.out.below ((Below.drew (Below.refl _ _)).trans hb5); have d0 : w5.cell? ⟨w.heap.size, 0, none⟩ = some (.int .i64 (h : Int)) := cell_row hS5.box 0)
      | (go_at_call_of 58 (Value.int .u8 99); refine (HN2.out _).mono ?_; rintro e w6 ⟨rfl, hb6⟩; have hS6 := hS5.below hb6; have d0 : w6.cell? ⟨w.heap.size, 0, none⟩ = some (.int .i64 (h : Int)) := cell_row hS6.box 0; have n6 : w6.heap.size ≠ w.heap.size := by have := hlt_of hS6.box; omega))
    all_goals
      have HS6 := hideP2 (hS6.five [114, 117, 108, 101] n1 [58] n2 [61])
      clear hS6 hS5
      go_wp2_with fail
      go_meet
      exact HS6
  case rest =>
    clear HS0 d0
    have HS1 := hcut
    clear hcut
    generalize hA : [[114, 117, 108, 101], n1, [58], n2, [61]] = wsA at *
    have hlA : wsA.length ≤ 5 := by rw [← hA]; simp
    have HA : Hid (wsA = [[114, 117, 108, 101], n1, [58], n2, [61]]) := hA.symm
    clear hA
    obtain ⟨oa, oc, rfl⟩ := own_sliceN HS1.out.own
    have d2 : wc.cell? ⟨w.heap.size, 2, none⟩ = some (.slice pa ps.length pc) := cell_row HS1.out.box 2
    have HSw := hideP2 (HSu.out wc pc HS1.out.lp (HTb.out wc HS1.out.bel))
    go_wp2_with fail
    refine HSw.out.mono ?_
    rintro e w7 ⟨v7, rfl, ho7, hb7⟩
    obtain ⟨g7, c7, rfl, hc7⟩ := row_at ho7 s1
    have HS7 := hideP2 (HS1.out.below hb7)
    have HC7 := hideP2 hc7
    have hsz7 := hlt_of HS7.out.box
    have HSlen := hideP2 (strC_facts sw).1
    have HSone := hideP2 (strC_facts sw).2
    clear hb7 ho7 hc7 d2 HSw HS1
    go_wp2_with (at_builtin; refine wpList_append_own _ rfl _ _ 37 rfl (w.heap.size + 1) 9 i0 _ 1 16 Tryz.underlying37 hi0 hz0 hz1 hz2 rfl (by decide) _ _ _ rfl HS7.out.own ⟨g7, 0, none⟩ sw.length c7 (strC sw) rfl HSlen.out HC7.out HSone.out ?c1k3 ?c1k4 ?c1k5 ?_)
    try (case c1k3 => unfold maxLen; omega)
    try (case c1k4 => omega)
    try (case c1k5 => first | omega | (simp; omega))
    intro v6 w6 hown6 hgrow6 _
    have HS6 : Hid (RwS w w6 (.cells #[.int .i64 (h : Int), .bool wh, .slice pa ps.length pc, .slice qa ts.length qc] 145 (0, 0)) pa qa (ps.flatMap fpC) (ts.flatMap ftC) v6 (wsA ++ sw)) := HS7.out.app (Below.refl _ _) hgrow6 hown6
    clear hown6 hgrow6
    obtain ⟨a6, c6, rfl⟩ := own_sliceN HS6.out.own
    have HS8 := HS6
    have hsz8 := hlt_of HS8.out.box
    have hl8 : (wsA ++ sw).length ≤ 21 := by rw [List.length_append]; omega
    generalize hB : wsA ++ sw = wsB at *
    have HB8 : Hid (wsB = wsA ++ sw) := hB.symm
    clear hB HS6 HS7 HC7 HSlen HSone
    go_wp2_with (at_builtin; refine wpList_append_own _ rfl _ _ 37 rfl (w.heap.size + 1) 9 i0 _ 1 16 Tryz.underlying37 hi0 hz0 hz1 hz2 rfl (by decide) _ _ _ rfl (HS8.out.own.alloc _) ⟨w6.heap.size, 0, none⟩ 1 1 [.string ⟨#[119, 104, 101, 110]⟩] rfl rfl ?c2k1 ?c2k2 ?c2k3 ?c2k4 ?c2k5 ?_)
    try (case c2k1 => exact news_cells _ _ _ _ rfl)
    try (case c2k2 => first | rfl | (intro u hu; simp at hu; rcases hu with rfl; rfl))
    try (case c2k3 => unfold maxLen; omega)
    try (case c2k4 => omega)
    try (case c2k5 => first | omega | (simp; omega))
    intro v8 w8 hown6 hgrow6 _
    have HS9 : Hid (RwS w w8 (.cells #[.int .i64 (h : Int), .bool wh, .slice pa ps.length pc, .slice qa ts.length qc] 145 (0, 0)) pa qa (ps.flatMap fpC) (ts.flatMap ftC) v8 (wsB ++ [[119, 104, 101, 110]])) := HS8.out.app ((Below.refl _ _).alloc (Nat.le_refl _) _) hgrow6 hown6
    clear hown6 hgrow6 HS8
    obtain ⟨a8, c8, rfl⟩ := own_sliceN HS9.out.own
    have hl9 : (wsB ++ [[119, 104, 101, 110]]).length ≤ 22 := by rw [List.length_append]; simp only [List.length_cons, List.length_nil]; omega
    generalize hC : wsB ++ [[119, 104, 101, 110]] = wsC at *
    have HC9 : Hid (wsC = wsB ++ [[119, 104, 101, 110]]) := hC.symm
    clear hC
    have d0 : w8.cell? ⟨w.heap.size, 0, none⟩ = some (.int .i64 (h : Int)) := cell_row HS9.out.box 0
    have d1 : w8.cell? ⟨w.heap.size, 1, none⟩ = some (.bool wh) := cell_row HS9.out.box 1
    have d2 : w8.cell? ⟨w.heap.size, 2, none⟩ = some (.slice pa ps.length pc) := cell_row HS9.out.box 2
    have d3 : w8.cell? ⟨w.heap.size, 3, none⟩ = some (.slice qa ts.length qc) := cell_row HS9.out.box 3
    have HGw := hideP2 (HGu.out w8 HS9.out.lt (HTb.out w8 HS9.out.bel))
    go_wp2_with fail
    refine HGw.out.mono ?_
    rintro e w7 ⟨v7, rfl, ho7, hb7⟩
    obtain ⟨g7, c7, rfl, hc7⟩ := row_at ho7 g1
    have HS7 := hideP2 (HS9.out.below hb7)
    have HC7 := hideP2 hc7
    have hsz7 := hlt_of HS7.out.box
    have HSlen := hideP2 (strC_facts gw).1
    have HSone := hideP2 (strC_facts gw).2
    clear hb7 ho7 hc7 d0 d1 d2 d3 HGw HS9
    go_wp2_with (at_builtin; refine wpList_append_own _ rfl _ _ 37 rfl (w.heap.size + 1) 9 i0 _ 1 16 Tryz.underlying37 hi0 hz0 hz1 hz2 rfl (by decide) _ _ _ rfl HS7.out.own ⟨g7, 0, none⟩ gw.length c7 (strC gw) rfl HSlen.out HC7.out HSone.out ?c3k3 ?c3k4 ?c3k5 ?_)
    try (case c3k3 => unfold maxLen; omega)
    try (case c3k4 => omega)
    try (case c3k5 => first | omega | (simp; omega))
    intro v10 w10 hown6 hgrow6 _
    have HS10 : Hid (RwS w w10 (.cells #[.int .i64 (h : Int), .bool wh, .slice pa ps.length pc, .slice qa ts.length qc] 145 (0, 0)) pa qa (ps.flatMap fpC) (ts.flatMap ftC) v10 (wsC ++ gw)) := HS7.out.app (Below.refl _ _) hgrow6 hown6
    clear hown6 hgrow6 HS7
    obtain ⟨a10, c10, rfl⟩ := own_sliceN HS10.out.own
    have hl10 : (wsC ++ gw).length ≤ 70 := by rw [List.length_append]; omega
    have hsz10 := hlt_of HS10.out.box
    generalize hD : wsC ++ gw = wsD at *
    have HD : Hid (wsD = wsC ++ gw) := hD.symm
    clear hD
    go_wp2_with (at_builtin; refine wpList_append_own _ rfl _ _ 37 rfl (w.heap.size + 1) 9 i0 _ 1 16 Tryz.underlying37 hi0 hz0 hz1 hz2 rfl (by decide) _ _ _ rfl (HS10.out.own.alloc _) ⟨w10.heap.size, 0, none⟩ 1 1 [.string ⟨#[59]⟩] rfl rfl ?c4k1 ?c4k2 ?c4k3 ?c4k4 ?c4k5 ?_)
    try (case c4k1 => exact news_cells _ _ _ _ rfl)
    try (case c4k2 => first | rfl | (intro u hu; simp at hu; rcases hu with rfl; rfl))
    try (case c4k3 => unfold maxLen; omega)
    try (case c4k4 => omega)
    try (case c4k5 => first | omega | (simp; omega))
    intro v11 w11 hown6 hgrow6 _
    have HS11 : Hid (RwS w w11 (.cells #[.int .i64 (h : Int), .bool wh, .slice pa ps.length pc, .slice qa ts.length qc] 145 (0, 0)) pa qa (ps.flatMap fpC) (ts.flatMap ftC) v11 (wsD ++ [[59]])) := HS10.out.app ((Below.refl _ _).alloc (Nat.le_refl _) _) hgrow6 hown6
    clear hown6 hgrow6 HS10
    have HQ : Hid (w11.ownsRow w.heap.size 9 1 v11 TW.length (strC TW)) := by
      unfold Hid
      rw [HRW.out]
      exact owns_base2 HS11.out.own (Nat.le_succ _)
    have HBl := hideP2 HS11.out.bel
    clear HS11
    go_wp2_with fail
    go_ret
    exact ⟨_, rfl, HQ.out, HBl.out⟩
end Go.Proofs.YtnbpdffdnphbeaaGreatDoor
