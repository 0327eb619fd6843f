/- What sumWords of statutekeep gives: a sum's words. -/
import Derived.Test.YtnbpdffdnphbeaaGreatDoorLRow
import Derived.Test.YtnbpdffdnphbeaaGreatDoorFTestW
namespace Go.Proofs.YtnbpdffdnphbeaaGreatDoor
open Go.RowKit

def fp0 : FPart := ⟨false, false, 0, -1, -1⟩
def signW (i : Nat) (p : FPart) : List Bs := if i = 0 then [] else if p.minus = true then [[45]] else [[43]]
def timesW (p : FPart) : List Bs := if p.times = true ∨ (p.num < 0 ∧ p.head < 0) then [Lib.itoa p.n] else []
def starW (p : FPart) : List Bs := if p.times = true then [[42]] else []
def nameW (p : FPart) : List Bs := if 0 ≤ p.num then [inpF p.num.toNat] else if 0 ≤ p.head then [nmB 99 p.head.toNat] else []
def partW (i : Nat) (p : FPart) : List Bs := signW i p ++ timesW p ++ starW p ++ nameW p
def sumWN (ps : List FPart) (i : Nat) : List Bs := (List.range i).flatMap fun j => partW j (ps.getD j fp0)
def sumW (ps : List FPart) : List Bs := sumWN ps ps.length
theorem sumWN_succ (ps : List FPart) (i : Nat) : sumWN ps (i + 1) = sumWN ps i ++ partW i (ps.getD i fp0) := by unfold sumWN; rw [List.range_succ, List.flatMap_append]; simp
/-- Words in memory, beside a part and the parts. -/
structure SwS (w wx : World) (gp : Nat) (p : FPart) (la : Option Addr) (L : List Value) (v : Value) (ws : List Bs) : Prop where
  prt : CelT wx 217 (some ⟨gp, 0, none⟩) (fpC p)
  lst : CelT wx 217 la L
  own : wx.ownsRow w.heap.size 9 1 v ws.length (strC ws)
  bel : Below w.heap.size w wx
theorem SwS.below {w wx w' : World} {gp : Nat} {p : FPart} {la : Option Addr} {L : List Value} {v : Value} {ws : List Bs} (h : SwS w wx gp p la L v ws) (hb : Below wx.heap.size wx w') : SwS w w' gp p la L v ws := ⟨h.prt.below hb, h.lst.below hb, owns_below h.own hb, h.bel.trans (hb.mono h.bel.size)⟩
theorem SwS.app {w wx wz w9 : World} {gp : Nat} {p : FPart} {la : Option Addr} {L : List Value} {v v9 : Value} {ws ns : List Bs} (h : SwS w wx gp p la L v ws) (hz : Below wx.heap.size wx wz) (hg : wz.grownBy w9 v.ownBlock) (hown : w9.ownsRow w.heap.size 9 1 v9 (ws.length + ns.length) (strC ws ++ strC ns)) : SwS w w9 gp p la L v9 (ws ++ ns) := by
  have hZ := h.below hz
  refine ⟨hZ.prt.grown hZ.own (by decide) hg, hZ.lst.grown hZ.own (by decide) hg, ?_, hZ.bel.grown hg hZ.bel.size (own_block_le hZ.own)⟩
  rw [List.length_append]
  have e : strC (ws ++ ns) = strC ws ++ strC ns := by unfold strC; rw [List.map_append]
  rw [e]; exact hown
theorem SwS.cells {w wx : World} {gp : Nat} {p : FPart} {la : Option Addr} {L : List Value} {v : Value} {ws : List Bs} (h : SwS w wx gp p la L v ws) : wx.cell? ⟨gp, 0, none⟩ = some (.bool p.minus) ∧ wx.cell? ⟨gp, 1, none⟩ = some (.bool p.times) ∧ wx.cell? ⟨gp, 2, none⟩ = some (.int .i64 p.n) ∧ wx.cell? ⟨gp, 3, none⟩ = some (.int .i64 p.num) ∧ wx.cell? ⟨gp, 4, none⟩ = some (.int .i64 p.head) := by
  have t : ∀ (j : Nat) (u : Value), (fpC p)[j]? = some u → wx.cell? ⟨gp, j, none⟩ = some u := fun j u hj => by
    obtain ⟨g, e, c⟩ := h.prt.cel.at hj
    obtain rfl : gp = g := by simpa using e
    exact c
  exact ⟨t 0 _ rfl, t 1 _ rfl, t 2 _ rfl, t 3 _ rfl, t 4 _ rfl⟩

set_option maxRecDepth 100000 in
set_option maxHeartbeats 3000000 in
theorem fSumW_s (w : World) (la : Option Addr) (lc : Nat) (ps : List FPart) (low : List Nat) (hp : PartsOk low ps) (hl4 : ∀ d ∈ low, d < 4) (hL : CelT w 217 la (ps.flatMap fpC)) (hT : TabK w) :
    Calls Tryz.prog 98 #[.slice la ps.length lc] w fun e w' => ∃ v, e = .returned v ∧ w'.ownsRow w.heap.size 9 1 v (sumW ps).length (strC (sumW ps)) ∧ Below w.heap.size w w' := by
  obtain ⟨i0, hi0, hz0, hz1, hz2⟩ := info_parts infoStr
  have hp4 := hp.2.1
  have HPo := hideP2 hp.2.2
  have HTb := hideP2 (fun w' (hb : Below w.heap.size w w') => hT.below hb)
  have HL4 := hideP2 hl4
  have HLc := hideP2 hL
  have HSW : Hid (sumW ps = sumWN ps ps.length) := rfl
  have HSs := hideP2 (sumWN_succ ps)
  generalize sumW ps = TW at *
  clear hp hl4 hL hT
  go_enter Tryz.func98, Tryz.ntmps98
  go_wp2_with fail
  go_loopw [3, 4] (fun ov iv wr => ∃ (i : Nat), i ≤ ps.length ∧ iv = .int .i64 (i : Int) ∧ Hid (Below w.heap.size w wr) ∧ Hid (CelT wr 217 la (ps.flatMap fpC)) ∧ Hid ((sumWN ps i).length ≤ 4 * i) ∧ Hid (wr.ownsRow w.heap.size 9 1 ov (sumWN ps i).length (strC (sumWN ps i)))) (fun _ iv _ => ps.length - (intOf iv).toNat)
  case atStart => exact ⟨0, Nat.zero_le _, rfl, hideP2 (Below.refl _ _), HLc, hideP2 (Nat.zero_le _), hideP2 (World.ownsRow_nil _ _ _ _)⟩
  case round =>
    obtain ⟨i, hi, rfl, HB, HLi, HLen, HO⟩ := hrel
    obtain ⟨oa, oc, rfl⟩ := own_sliceN HO.out
    by_cases hlt : i < ps.length
    · have ii : (i : Int) < (ps.length : Int) := by omega
      have hmem : ps.getD i fp0 ∈ ps := by simp [List.getD, hlt]
      have hok := HPo.out _ hmem
      have hss := HSs.out i
      obtain ⟨g, e0, q0⟩ := HLi.out.cel.at ((flat_get fpC 5 (fun _ => rfl) fp0 ps i 0 hlt (by decide)).trans rfl)
      subst e0
      have qq : ∀ (r : Nat) (u : Value), r < 5 → (fpC (ps.getD i fp0))[r]? = some u → wr.cell? ⟨g, i * 5 + r, none⟩ = some u := fun r u hr hu => by
        obtain ⟨g', e', c'⟩ := HLi.out.cel.at ((flat_get fpC 5 (fun _ => rfl) fp0 ps i r hlt hr).trans hu)
        obtain rfl : g = g' := by simpa using e'
        exact c'
      have q1 := qq 1 _ (by decide) rfl
      have q2 := qq 2 _ (by decide) rfl
      have q3 := qq 3 _ (by decide) rfl
      have q4 := qq 4 _ (by decide) rfl
      rw [Nat.add_zero] at q0
      clear qq hmem
      generalize ps.getD i fp0 = p at *
      obtain ⟨mi, ti, nn, nu, hd⟩ := p
      simp only at q0 q1 q2 q3 q4
      have HOk := hideP2 hok
      have HSi := hideP2 hss
      clear hok hss
      generalize sumWN ps i = ws0 at *
      have hl0 := HLen.out
      have HS0 : Hid (SwS w (wr.alloc (.cells #[.bool mi, .bool ti, .int .i64 nn, .int .i64 nu, .int .i64 hd] 217)) wr.heap.size ⟨mi, ti, nn, nu, hd⟩ (some ⟨g, 0, none⟩) (ps.flatMap fpC) (.slice oa ws0.length oc) ws0) := ⟨.inr ⟨wr.heap.size, _, _, rfl, hb_end _ _, fun j _ => by rw [← List.getElem?_toArray]; rfl⟩, HLi.out.below ((Below.refl _ _).alloc (Nat.le_refl _) _), HO.out.alloc _, HB.out.alloc HB.out.size _⟩
      go_upto_region 6 with fail
      clear q0 q1 q2 q3 q4 HB HLi HO HLen
      generalize wr.alloc (.cells #[.bool mi, .bool ti, .int .i64 nn, .int .i64 nu, .int .i64 hd] 217) = w0 at *
      generalize wr.heap.size = gp at *
      obtain ⟨c0, c1, c2, c3, c4⟩ := HS0.out.cells
      simp only at c0 c1 c2 c3 c4
      have hsz := HS0.out.bel.size
      have HSg : Hid (signW i ⟨mi, ti, nn, nu, hd⟩ = if i = 0 then [] else if mi = true then [[45]] else [[43]]) := rfl
      go_cut [3, 21] from 6 to 70 (fun v3 v21 wx => v3 = .slice oa ws0.length oc ∧ v21 = .bool (decide (0 < i) && mi) ∧ wx = w0)
      case first =>
        by_cases k0 : i = 0
        · subst k0
          go_wp2_with fail
          go_meet
          exact ⟨rfl, rfl, rfl⟩
        · have k1 : 0 < i := by omega
          have k2 : (0 : Int) < (i : Int) := by omega
          have HD : Hid (decide (0 < i) = true) := decide_eq_true k1
          clear k0
          go_wp2_with fail
          go_meet
          exact ⟨rfl, by rw [HD.out]; rfl, rfl⟩
      case rest =>
        obtain ⟨rfl, rfl, rfl⟩ := hcut
        go_upto_if 21 with fail
        go_cut [3] from 6 to 70 (fun v3 wx => ∃ ws1, Hid (ws1 = ws0 ++ signW i ⟨mi, ti, nn, nu, hd⟩) ∧ Hid (ws1.length ≤ ws0.length + 1) ∧ Hid (SwS w wx gp ⟨mi, ti, nn, nu, hd⟩ (some ⟨g, 0, none⟩) (ps.flatMap fpC) v3 ws1))
        case first =>
          by_cases k0 : i = 0
          · have HE : Hid (signW i ⟨mi, ti, nn, nu, hd⟩ = []) := HSg.out.trans (if_pos k0)
            subst k0
            rw [show (decide (0 < 0) && mi) = false from rfl]
            go_wp2_with fail
            go_meet
            exact ⟨ws0, hideP2 (by rw [HE.out, List.append_nil]), hideP2 (Nat.le_succ _), HS0⟩
          · have k1 : 0 < i := by omega
            have k2 : (0 : Int) < (i : Int) := by omega
            rw [decide_eq_true k1, Bool.true_and]
            cases mi
            · have HE : Hid (signW i ⟨false, ti, nn, nu, hd⟩ = [[43]]) := HSg.out.trans ((if_neg k0).trans (if_neg (by simp)))
              clear k0
              go_wp2_with (at_builtin; refine wpList_append_own _ rfl _ _ 37 rfl w.heap.size 9 i0 _ 1 16 Tryz.underlying37 hi0 hz0 hz1 hz2 rfl (by decide) _ _ _ rfl (HS0.out.own.alloc _) ⟨wc.heap.size, 0, none⟩ 1 1 [.string ⟨#[43]⟩] rfl rfl ?c1k1 ?c1k2 ?c1k3 ?c1k4 ?c1k5 ?_)
              try (case c1k1 => exact news_cells _ _ _ _ rfl)
              try (case c1k2 => first | rfl | exact ⟨rfl, rfl⟩ | (intro u hu; simp at hu; rcases hu with rfl <;> rfl))
              try (case c1k3 => unfold maxLen; omega)
              try (case c1k4 => omega)
              try (case c1k5 => first | omega | (simp; omega))
              intro v6 w6 hown6 hgrow6 _
              have HS6 : Hid (SwS w w6 gp ⟨false, ti, nn, nu, hd⟩ (some ⟨g, 0, none⟩) (ps.flatMap fpC) v6 (ws0 ++ [[43]])) := HS0.out.app ((Below.refl _ _).alloc (Nat.le_refl _) _) hgrow6 hown6
              clear hown6 hgrow6
              go_wp2_with fail
              go_meet
              exact ⟨_, hideP2 (by rw [HE.out]), hideP2 (by simp), HS6⟩
            · have HE : Hid (signW i ⟨true, ti, nn, nu, hd⟩ = [[45]]) := HSg.out.trans ((if_neg k0).trans (if_pos rfl))
              clear k0
              go_wp2_with (at_builtin; refine wpList_append_own _ rfl _ _ 37 rfl w.heap.size 9 i0 _ 1 16 Tryz.underlying37 hi0 hz0 hz1 hz2 rfl (by decide) _ _ _ rfl (HS0.out.own.alloc _) ⟨wc.heap.size, 0, none⟩ 1 1 [.string ⟨#[45]⟩] rfl rfl ?c2k1 ?c2k2 ?c2k3 ?c2k4 ?c2k5 ?_)
              try (case c2k1 => exact news_cells _ _ _ _ rfl)
              try (case c2k2 => first | rfl | exact ⟨rfl, rfl⟩ | (intro u hu; simp at hu; rcases hu with rfl <;> rfl))
              try (case c2k3 => unfold maxLen; omega)
              try (case c2k4 => omega)
              try (case c2k5 => first | omega | (simp; omega))
              intro v6 w6 hown6 hgrow6 _
              have HS6 : Hid (SwS w w6 gp ⟨true, ti, nn, nu, hd⟩ (some ⟨g, 0, none⟩) (ps.flatMap fpC) v6 (ws0 ++ [[45]])) := HS0.out.app ((Below.refl _ _).alloc (Nat.le_refl _) _) hgrow6 hown6
              clear hown6 hgrow6
              go_wp2_with fail
              go_meet
              exact ⟨_, hideP2 (by rw [HE.out]), hideP2 (by simp), HS6⟩
        case rest =>
          clear c0 c1 c2 c3 c4 HS0 hsz HSg
          obtain ⟨ws1, HE1, HL1, HS1⟩ := hcut
          obtain ⟨oa1, oc1, rfl⟩ := own_sliceN HS1.out.own
          obtain ⟨c0, c1, c2, c3, c4⟩ := HS1.out.cells
          simp only at c0 c1 c2 c3 c4
          have hsz := HS1.out.bel.size
          have hl1 := HL1.out
          have HTm : Hid (timesW ⟨mi, ti, nn, nu, hd⟩ = if ti = true ∨ (nu < 0 ∧ hd < 0) then [Lib.itoa nn] else []) := rfl
          have HNn : Hid ((ti = true ∨ (nu < 0 ∧ hd < 0)) → 0 ≤ nn ∧ nn ≤ 9999) := fun h => by
            rcases HOk.out with ⟨-, h1, -, -⟩ | ⟨h0, h1, -⟩ | ⟨-, h1, -⟩ | ⟨h1, -, -⟩
            · exact h1
            · rcases h with h | h
              · exact absurd (h.symm.trans h0) (by simp)
              · have := h1.1; simp only at this; omega
            · have := h1; simp only at this; omega
            · have := h1; simp only at this; omega
          go_upto_region 10 with fail
          go_cut [3, 41] from 6 to 70 (fun v3 v41 wx => v3 = .slice oa1 ws1.length oc1 ∧ v41 = .bool (decide (ti = true ∨ (nu < 0 ∧ hd < 0))) ∧ wx = wc)
          case first =>
            cases ti
            · by_cases k1 : nu < 0
              · by_cases k2 : hd < 0
                · have HD : Hid (decide (false = true ∨ (nu < 0 ∧ hd < 0)) = true) := decide_eq_true (.inr ⟨k1, k2⟩)
                  go_wp2_with fail
                  go_meet
                  exact ⟨rfl, by rw [HD.out], rfl⟩
                · have HD : Hid (decide (false = true ∨ (nu < 0 ∧ hd < 0)) = false) := decide_eq_false (fun h => by rcases h with h | h; cases h; exact k2 h.2)
                  go_wp2_with fail
                  go_meet
                  exact ⟨rfl, by rw [HD.out], rfl⟩
              · have HD : Hid (decide (false = true ∨ (nu < 0 ∧ hd < 0)) = false) := decide_eq_false (fun h => by rcases h with h | h; cases h; exact k1 h.1)
                go_wp2_with fail
                go_meet
                exact ⟨rfl, by rw [HD.out], rfl⟩
            · have HD : Hid (decide (true = true ∨ (nu < 0 ∧ hd < 0)) = true) := decide_eq_true (.inl rfl)
              go_wp2_with fail
              go_meet
              exact ⟨rfl, by rw [HD.out], rfl⟩
          case rest =>
            obtain ⟨rfl, rfl, rfl⟩ := hcut
            go_upto_if 41 with fail
            go_cut [3] from 6 to 70 (fun v3 wx => ∃ ws2, Hid (ws2 = ws1 ++ timesW ⟨mi, ti, nn, nu, hd⟩) ∧ Hid (ws2.length ≤ ws1.length + 1) ∧ Hid (SwS w wx gp ⟨mi, ti, nn, nu, hd⟩ (some ⟨g, 0, none⟩) (ps.flatMap fpC) v3 ws2))
            case first =>
              by_cases hc : ti = true ∨ (nu < 0 ∧ hd < 0)
              · have HE : Hid (timesW ⟨mi, ti, nn, nu, hd⟩ = [Lib.itoa nn]) := HTm.out.trans (if_pos hc)
                obtain ⟨n1, n2⟩ := HNn.out hc
                rw [decide_eq_true hc]
                have HI := hideP2 (fItoa_s wc nn n1 n2 (HTb.out wc HS1.out.bel))
                generalize Lib.itoa nn = iw at *
                clear hc
                go_wp2_with fail
                refine HI.out.mono ?_
                rintro e w5 ⟨rfl, hb5⟩
                have HS5 := hideP2 (HS1.out.below hb5)
                have hsz5 := HS5.out.bel.size
                clear hb5 HI
                go_wp2_with (at_builtin; refine wpList_append_own _ rfl _ _ 37 rfl w.heap.size 9 i0 _ 1 16 Tryz.underlying37 hi0 hz0 hz1 hz2 rfl (by decide) _ _ _ rfl (HS5.out.own.alloc _) ⟨w5.heap.size, 0, none⟩ 1 1 [.string ⟨iw.toArray⟩] rfl rfl ?c3k1 ?c3k2 ?c3k3 ?c3k4 ?c3k5 ?_)
                try (case c3k1 => exact news_cells _ _ _ _ rfl)
                try (case c3k2 => first | rfl | exact ⟨rfl, rfl⟩ | (intro u hu; simp at hu; rcases hu with rfl <;> rfl))
                try (case c3k3 => unfold maxLen; omega)
                try (case c3k4 => omega)
                try (case c3k5 => first | omega | (simp; omega))
                intro v6 w6 hown6 hgrow6 _
                have HS6 : Hid (SwS w w6 gp ⟨mi, ti, nn, nu, hd⟩ (some ⟨g, 0, none⟩) (ps.flatMap fpC) v6 (ws1 ++ [iw])) := HS5.out.app ((Below.refl _ _).alloc (Nat.le_refl _) _) hgrow6 hown6
                clear hown6 hgrow6
                go_wp2_with fail
                go_meet
                exact ⟨_, hideP2 (by rw [HE.out]), hideP2 (by simp), HS6⟩
              · have HE : Hid (timesW ⟨mi, ti, nn, nu, hd⟩ = []) := HTm.out.trans (if_neg hc)
                rw [decide_eq_false hc]
                clear hc
                go_wp2_with fail
                go_meet
                exact ⟨ws1, hideP2 (by rw [HE.out, List.append_nil]), hideP2 (Nat.le_succ _), HS1⟩
            case rest =>
              clear c0 c1 c2 c3 c4 HS1 hsz HTm HNn
              obtain ⟨ws2, HE2, HL2, HS2⟩ := hcut
              obtain ⟨oa2, oc2, rfl⟩ := own_sliceN HS2.out.own
              obtain ⟨c0, c1, c2, c3, c4⟩ := HS2.out.cells
              simp only at c0 c1 c2 c3 c4
              have hsz := HS2.out.bel.size
              have hl2 := HL2.out
              have HSr : Hid (starW ⟨mi, ti, nn, nu, hd⟩ = if ti = true then [[42]] else []) := rfl
              go_upto_if 49 with fail
              go_cut [3] from 6 to 70 (fun v3 wx => ∃ ws3, Hid (ws3 = ws2 ++ starW ⟨mi, ti, nn, nu, hd⟩) ∧ Hid (ws3.length ≤ ws2.length + 1) ∧ Hid (SwS w wx gp ⟨mi, ti, nn, nu, hd⟩ (some ⟨g, 0, none⟩) (ps.flatMap fpC) v3 ws3))
              case first =>
                cases ti
                · have HE : Hid (starW ⟨mi, false, nn, nu, hd⟩ = []) := HSr.out.trans (if_neg (by simp))
                  go_wp2_with fail
                  go_meet
                  exact ⟨ws2, hideP2 (by rw [HE.out, List.append_nil]), hideP2 (Nat.le_succ _), HS2⟩
                · have HE : Hid (starW ⟨mi, true, nn, nu, hd⟩ = [[42]]) := HSr.out.trans (if_pos rfl)
                  go_wp2_with (at_builtin; refine wpList_append_own _ rfl _ _ 37 rfl w.heap.size 9 i0 _ 1 16 Tryz.underlying37 hi0 hz0 hz1 hz2 rfl (by decide) _ _ _ rfl (HS2.out.own.alloc _) ⟨wc.heap.size, 0, none⟩ 1 1 [.string ⟨#[42]⟩] rfl rfl ?c4k1 ?c4k2 ?c4k3 ?c4k4 ?c4k5 ?_)
                  try (case c4k1 => exact news_cells _ _ _ _ rfl)
                  try (case c4k2 => first | rfl | exact ⟨rfl, rfl⟩ | (intro u hu; simp at hu; rcases hu with rfl <;> rfl))
                  try (case c4k3 => unfold maxLen; omega)
                  try (case c4k4 => omega)
                  try (case c4k5 => first | omega | (simp; omega))
                  intro v6 w6 hown6 hgrow6 _
                  have HS6 : Hid (SwS w w6 gp ⟨mi, true, nn, nu, hd⟩ (some ⟨g, 0, none⟩) (ps.flatMap fpC) v6 (ws2 ++ [[42]])) := HS2.out.app ((Below.refl _ _).alloc (Nat.le_refl _) _) hgrow6 hown6
                  clear hown6 hgrow6
                  go_wp2_with fail
                  go_meet
                  exact ⟨_, hideP2 (by rw [HE.out]), hideP2 (by simp), HS6⟩
              case rest =>
                clear c0 c1 c2 c3 c4 HS2 hsz HSr
                obtain ⟨ws3, HE3, HL3, HS3⟩ := hcut
                obtain ⟨oa3, oc3, rfl⟩ := own_sliceN HS3.out.own
                obtain ⟨c0, c1, c2, c3, c4⟩ := HS3.out.cells
                simp only at c0 c1 c2 c3 c4
                have hsz := HS3.out.bel.size
                have hl3 := HL3.out
                have HNm : Hid (nameW ⟨mi, ti, nn, nu, hd⟩ = if 0 ≤ nu then [inpF nu.toNat] else if 0 ≤ hd then [nmB 99 hd.toNat] else []) := rfl
                have HEn : Hid (sumWN ps (i + 1) = ws3 ++ nameW ⟨mi, ti, nn, nu, hd⟩) := by
                  unfold Hid
                  rw [HSi.out, HE3.out, HE2.out, HE1.out]
                  simp only [partW, List.append_assoc]
                have HNb : Hid ((0 ≤ nu → nu < 3) ∧ (0 ≤ hd → hd < 4)) := by
                  rcases HOk.out with ⟨-, -, h1, h2⟩ | ⟨-, h1, h2⟩ | ⟨-, -, h1, h2⟩ | ⟨-, h1, d, hd1, h2⟩
                  · simp only at h1 h2; exact ⟨fun h => by omega, fun h => by omega⟩
                  · simp only at h1 h2; exact ⟨fun h => by omega, fun h => by omega⟩
                  · simp only at h1 h2; exact ⟨fun h => by omega, fun h => by omega⟩
                  · have := HL4.out d hd1; simp only at h1 h2; exact ⟨fun h => by omega, fun h => by omega⟩
                have HSt : Hid (∀ (w6 : World) (v6 : Value) (nm : List Bs), nm.length ≤ 1 → nameW ⟨mi, ti, nn, nu, hd⟩ = nm → SwS w w6 gp ⟨mi, ti, nn, nu, hd⟩ (some ⟨g, 0, none⟩) (ps.flatMap fpC) v6 (ws3 ++ nm) → Below w.heap.size w w6 ∧ CelT w6 217 (some ⟨g, 0, none⟩) (ps.flatMap fpC) ∧ (sumWN ps (i + 1)).length ≤ 4 * (i + 1) ∧ w6.ownsRow w.heap.size 9 1 v6 (sumWN ps (i + 1)).length (strC (sumWN ps (i + 1)))) := fun w6 v6 nm hn e hS => by
                  rw [HEn.out, e]
                  exact ⟨hS.bel, hS.lst, by rw [List.length_append]; omega, hS.own⟩
                clear HE3 HE2 HE1 HSi HEn
                by_cases k1 : 0 ≤ nu
                · have HE : Hid (nameW ⟨mi, ti, nn, nu, hd⟩ = [inpF nu.toNat]) := HNm.out.trans (if_pos k1)
                  have k3 := HNb.out.1 k1
                  obtain ⟨un, rfl⟩ := Int.eq_ofNat_of_zero_le k1
                  rw [Int.toNat_natCast] at HE
                  have HI := hideP2 (fInput_s wc un (by omega))
                  generalize inpF un = iw at *
                  go_wp2_with fail
                  refine HI.out.mono ?_
                  rintro e w5 ⟨rfl, hb5⟩
                  have HS5 := hideP2 (HS3.out.below hb5)
                  have hsz5 := HS5.out.bel.size
                  clear hb5 HI
                  go_wp2_with (at_builtin; refine wpList_append_own _ rfl _ _ 37 rfl w.heap.size 9 i0 _ 1 16 Tryz.underlying37 hi0 hz0 hz1 hz2 rfl (by decide) _ _ _ rfl (HS5.out.own.alloc _) ⟨w5.heap.size, 0, none⟩ 1 1 [.string ⟨iw.toArray⟩] rfl rfl ?c5k1 ?c5k2 ?c5k3 ?c5k4 ?c5k5 ?_)
                  try (case c5k1 => exact news_cells _ _ _ _ rfl)
                  try (case c5k2 => first | rfl | exact ⟨rfl, rfl⟩ | (intro u hu; simp at hu; rcases hu with rfl <;> rfl))
                  try (case c5k3 => unfold maxLen; omega)
                  try (case c5k4 => omega)
                  try (case c5k5 => first | omega | (simp; omega))
                  intro v6 w6 hown6 hgrow6 _
                  have HS6 : Hid (SwS w w6 gp ⟨mi, ti, nn, (un : Int), hd⟩ (some ⟨g, 0, none⟩) (ps.flatMap fpC) v6 (ws3 ++ [iw])) := HS5.out.app ((Below.refl _ _).alloc (Nat.le_refl _) _) hgrow6 hown6
                  clear hown6 hgrow6
                  obtain ⟨z1, z2, z3, z4⟩ := HSt.out w6 v6 [iw] (by simp) HE.out HS6.out
                  have Z1 := hideP2 z1
                  have Z2 := hideP2 z2
                  have Z3 := hideP2 z3
                  have Z4 := hideP2 z4
                  clear z1 z2 z3 z4
                  go_wp2_with fail
                  go_roundw
                  case rel => exact ⟨i + 1, by omega, by go_num, Z1, Z2, Z3, Z4⟩
                  case measure => simp [intOf]; omega
                · have HE0 : Hid (nameW ⟨mi, ti, nn, nu, hd⟩ = if 0 ≤ hd then [nmB 99 hd.toNat] else []) := HNm.out.trans (if_neg k1)
                  by_cases k2 : 0 ≤ hd
                  · have HE : Hid (nameW ⟨mi, ti, nn, nu, hd⟩ = [nmB 99 hd.toNat]) := HE0.out.trans (if_pos k2)
                    have k3 := HNb.out.2 k2
                    obtain ⟨un, rfl⟩ := Int.eq_ofNat_of_zero_le k2
                    rw [Int.toNat_natCast] at HE
                    have HI := hideP2 (kName_s wc 99 un (by omega))
                    rw [show ((99 : UInt8).toNat : Int) = 99 from rfl] at HI
                    generalize nmB 99 un = iw at *
                    go_wp2_with fail
                    refine HI.out.mono ?_
                    rintro e w5 ⟨rfl, hb5⟩
                    have HS5 := hideP2 (HS3.out.below hb5)
                    have hsz5 := HS5.out.bel.size
                    clear hb5 HI
                    go_wp2_with (at_builtin; refine wpList_append_own _ rfl _ _ 37 rfl w.heap.size 9 i0 _ 1 16 Tryz.underlying37 hi0 hz0 hz1 hz2 rfl (by decide) _ _ _ rfl (HS5.out.own.alloc _) ⟨w5.heap.size, 0, none⟩ 1 1 [.string ⟨iw.toArray⟩] rfl rfl ?c6k1 ?c6k2 ?c6k3 ?c6k4 ?c6k5 ?_)
                    try (case c6k1 => exact news_cells _ _ _ _ rfl)
                    try (case c6k2 => first | rfl | exact ⟨rfl, rfl⟩ | (intro u hu; simp at hu; rcases hu with rfl <;> rfl))
                    try (case c6k3 => unfold maxLen; omega)
                    try (case c6k4 => omega)
                    try (case c6k5 => first | omega | (simp; omega))
                    intro v6 w6 hown6 hgrow6 _
                    have HS6 : Hid (SwS w w6 gp ⟨mi, ti, nn, nu, (un : Int)⟩ (some ⟨g, 0, none⟩) (ps.flatMap fpC) v6 (ws3 ++ [iw])) := HS5.out.app ((Below.refl _ _).alloc (Nat.le_refl _) _) hgrow6 hown6
                    clear hown6 hgrow6
                    obtain ⟨z1, z2, z3, z4⟩ := HSt.out w6 v6 [iw] (by simp) HE.out HS6.out
                    have Z1 := hideP2 z1
                    have Z2 := hideP2 z2
                    have Z3 := hideP2 z3
                    have Z4 := hideP2 z4
                    clear z1 z2 z3 z4
                    go_wp2_with fail
                    go_roundw
                    case rel => exact ⟨i + 1, by omega, by go_num, Z1, Z2, Z3, Z4⟩
                    case measure => simp [intOf]; omega
                  · have HE : Hid (nameW ⟨mi, ti, nn, nu, hd⟩ = []) := HE0.out.trans (if_neg k2)
                    obtain ⟨z1, z2, z3, z4⟩ := HSt.out wc _ [] (by simp) HE.out (by rw [List.append_nil]; exact HS3.out)
                    have Z1 := hideP2 z1
                    have Z2 := hideP2 z2
                    have Z3 := hideP2 z3
                    have Z4 := hideP2 z4
                    clear z1 z2 z3 z4
                    go_wp2_with fail
                    go_roundw
                    case rel => exact ⟨i + 1, by omega, by go_num, Z1, Z2, Z3, Z4⟩
                    case measure => simp [intOf]; omega
    · obtain rfl : i = ps.length := by omega
      have ii : ¬ (ps.length : Int) < (ps.length : Int) := by omega
      have HQ : Hid (wr.ownsRow w.heap.size 9 1 (.slice oa (sumWN ps ps.length).length oc) TW.length (strC TW)) := by unfold Hid; rw [HSW.out]; exact HO.out
      clear HO HLen HSs
      go_wp2_with fail
      go_ret
      exact ⟨_, rfl, HQ.out, HB.out⟩
end Go.Proofs.YtnbpdffdnphbeaaGreatDoor

/- What guardWords of statutekeep gives: a guard's words. -/
namespace Go.Proofs.YtnbpdffdnphbeaaGreatDoor
open Go.RowKit

def ft0 : FTest := ⟨false, false, false, 0, 0, 0, 0, 0⟩
def joinW (j : Nat) (t : FTest) : List Bs := if j = 0 then [] else if t.or = true then [[111, 114]] else [[97, 110, 100]]
def tstsN (ts : List FTest) (lo : Bool) (i : Nat) : List Bs := (List.range i).flatMap fun j => joinW j (ts.getD j ft0) ++ tstW (ts.getD j ft0) lo
theorem tstsN_succ (ts : List FTest) (lo : Bool) (i : Nat) : tstsN ts lo (i + 1) = tstsN ts lo i ++ (joinW i (ts.getD i ft0) ++ tstW (ts.getD i ft0) lo) := by unfold tstsN; rw [List.range_succ, List.flatMap_append]; simp
def innW (wh lo : Bool) (n : Nat) : Bool := wh && (lo || decide (1 < n))
def grdW (wh : Bool) (ts : List FTest) (lo : Bool) : List Bs := (if wh = true then [[110, 111, 116]] else []) ++ (if innW wh lo ts.length = true then [[40]] else []) ++ tstsN ts lo ts.length ++ (if innW wh lo ts.length = true then [[41]] else [])
theorem core_len (t : FTest) : 0 < (coreW t).length ∧ (coreW t).length ≤ 3 := by
  unfold coreW
  by_cases h0 : t.kind = 0
  · rw [if_pos h0]; simp
  · rw [if_neg h0]
    by_cases h1 : t.kind = 1
    · rw [if_pos h1]; simp
    · rw [if_neg h1]
      by_cases h2 : t.kind = 2
      · rw [if_pos h2]; simp
      · rw [if_neg h2]
        by_cases h3 : t.kind = 3
        · rw [if_pos h3]; simp
        · rw [if_neg h3]; simp
theorem tstW_len (t : FTest) (lo : Bool) : 0 < (tstW t lo).length ∧ (tstW t lo).length ≤ 6 := by
  unfold tstW
  simp only [List.length_append]
  have h1 : ((if t.not = true then [[110, 111, 116]] else []) : List Bs).length ≤ 1 := by split <;> simp
  have h2 : ∀ x : Bs, ((if (lo && t.pair) = true then [x] else []) : List Bs).length ≤ 1 := fun x => by split <;> simp
  have h3 := h2 [40]
  have h4 := h2 [41]
  have h5 := core_len t
  omega
/-- Words in memory, beside a rule's block and its tests. -/
structure GwS (w wx : World) (bo : Obj) (qa : Option Addr) (L : List Value) (v : Value) (ws : List Bs) : Prop where
  box : wx.heap[w.heap.size]? = some bo
  lst : CelT wx 221 qa L
  own : wx.ownsRow (w.heap.size + 1) 9 1 v ws.length (strC ws)
  bel : Below w.heap.size w wx
theorem GwS.below {w wx w' : World} {bo : Obj} {qa : Option Addr} {L : List Value} {v : Value} {ws : List Bs} (h : GwS w wx bo qa L v ws) (hb : Below wx.heap.size wx w') : GwS w w' bo qa L v ws := ⟨(hb.block _ (hlt_of h.box)).trans h.box, h.lst.below hb, owns_below h.own hb, h.bel.trans (hb.mono h.bel.size)⟩
theorem GwS.app {w wx wz w9 : World} {bo : Obj} {qa : Option Addr} {L : List Value} {v v9 : Value} {ws ns : List Bs} (h : GwS w wx bo qa L v ws) (hz : Below wx.heap.size wx wz) (hg : wz.grownBy w9 v.ownBlock) (hown : w9.ownsRow (w.heap.size + 1) 9 1 v9 (ws.length + ns.length) (strC ws ++ strC ns)) : GwS w w9 bo qa L v9 (ws ++ ns) := by
  have hZ := h.below hz
  have hb : Below (w.heap.size + 1) wz w9 := (Below.refl _ wz).grown hg (hlt_of hZ.box) (own_block_le hZ.own)
  refine ⟨(hb.block _ (Nat.lt_succ_self _)).trans hZ.box, hZ.lst.grown hZ.own (by decide) hg, ?_, hZ.bel.trans (hb.mono (Nat.le_succ _))⟩
  rw [List.length_append]
  have e : strC (ws ++ ns) = strC ws ++ strC ns := by unfold strC; rw [List.map_append]
  rw [e]; exact hown
/-- A row of words that is not empty: where its cells lie. -/
theorem row_at {w : World} {B : Nat} {v : Value} {ws : List Bs} (h : w.ownsRow B 9 1 v ws.length (strC ws)) (h0 : 0 < ws.length) : ∃ g c, v = .slice (some ⟨g, 0, none⟩) ws.length c ∧ ∀ (j : Nat) (u : Value), (strC ws)[j]? = some u → w.cell? ((⟨g, 0, none⟩ : Addr).add j) = some u := by
  obtain ⟨a, c, e, hc, -, -⟩ := own_cel h
  obtain ⟨g, rfl, -⟩ := hc.at (j := 0) (show (strC ws)[0]? = some (.string ⟨(ws.getD 0 []).toArray⟩) by simp [strC, List.getD, h0])
  refine ⟨g, c, e, fun j u hj => ?_⟩
  obtain ⟨g', e', c'⟩ := hc.at hj
  obtain rfl : g = g' := by simpa using e'
  have : (⟨g, 0, none⟩ : Addr).add j = ⟨g, j, none⟩ := by simp [Addr.add]; omega
  rw [this]; exact c'

set_option maxRecDepth 100000 in
set_option maxHeartbeats 3000000 in
theorem fGuardW_s (w : World) (hd : Int) (wh lo : Bool) (pa qa : Option Addr) (pn pc qc : Nat) (ts : List FTest) (low : List Nat) (hp : TestsOk low ts) (hl4 : ∀ d ∈ low, d < 4) (hL : CelT w 221 qa (ts.flatMap ftC)) (hT : TabK w) :
    Calls Tryz.prog 99 #[.agg #[.int .i64 hd, .bool wh, .slice pa pn pc, .slice qa ts.length qc], .bool lo] w fun e w' => ∃ v, e = .returned v ∧ w'.ownsRow w.heap.size 9 1 v (grdW wh ts lo).length (strC (grdW wh ts lo)) ∧ Below w.heap.size w w' := by
  obtain ⟨i0, hi0, hz0, hz1, hz2⟩ := info_parts infoStr
  have hp6 := hp.2.1
  have HPo := hideP2 hp.2.2
  have HTb := hideP2 (fun w' (hb : Below w.heap.size w w') => hT.below hb)
  have HL4 := hideP2 hl4
  have HGW : Hid (grdW wh ts lo = (if wh = true then [[110, 111, 116]] else []) ++ (if innW wh lo ts.length = true then [[40]] else []) ++ tstsN ts lo ts.length ++ (if innW wh lo ts.length = true then [[41]] else [])) := rfl
  have HIn : Hid (innW wh lo ts.length = (wh && (lo || decide (1 < ts.length)))) := rfl
  have HSs := hideP2 (tstsN_succ ts lo)
  generalize grdW wh ts lo = TW at *
  generalize innW wh lo ts.length = inn at *
  have HS0 : Hid (GwS w (w.alloc (.cells #[.int .i64 hd, .bool wh, .slice pa pn pc, .slice qa ts.length qc] 145)) (.cells #[.int .i64 hd, .bool wh, .slice pa pn pc, .slice qa ts.length qc] 145 (0, 0)) qa (ts.flatMap ftC) (.slice none 0 0) []) := ⟨hb_end _ _, hL.below ((Below.refl _ _).alloc (Nat.le_refl _) _), World.ownsRow_nil _ _ _ _, (Below.refl _ _).alloc (Nat.le_refl _) _⟩
  clear hp hl4 hL hT
  go_enter Tryz.func99, Tryz.ntmps99
  go_upto_region 2 with fail
  generalize w.alloc (.cells #[.int .i64 hd, .bool wh, .slice pa pn pc, .slice qa ts.length qc] 145) = w0 at *
  have b1 : w0.cell? ⟨w.heap.size, 1, none⟩ = some (.bool wh) := cell_row HS0.out.box 1
  have b3 : w0.cell? ⟨w.heap.size, 3, none⟩ = some (.slice qa ts.length qc) := cell_row HS0.out.box 3
  go_cut [6] from 9 to 19 (fun v6 wx => v6 = .bool inn ∧ wx = w0)
  case first =>
    cases wh
    · have HI : Hid (inn = false) := HIn.out
      go_wp2_with fail
      go_meet
      exact ⟨by rw [HI.out], rfl⟩
    · cases lo
      · by_cases k1 : 1 < ts.length
        · have HI : Hid (inn = true) := HIn.out.trans (by simp [k1])
          have k2 : (1 : Int) < (ts.length : Int) := by omega
          go_wp2_with fail
          go_meet
          exact ⟨by rw [HI.out], rfl⟩
        · have HI : Hid (inn = false) := HIn.out.trans (by simp [k1])
          have k2 : ¬ (1 : Int) < (ts.length : Int) := by omega
          go_wp2_with fail
          go_meet
          exact ⟨by rw [HI.out], rfl⟩
      · have HI : Hid (inn = true) := HIn.out
        go_wp2_with fail
        go_meet
        exact ⟨by rw [HI.out], rfl⟩
  case rest =>
    obtain ⟨rfl, rfl⟩ := hcut
    have hsz := hlt_of HS0.out.box
    go_upto_if 21 with fail
    go_cut [5] from 9 to 28 (fun v5 wx => ∃ ws, Hid (ws = if wh = true then [[110, 111, 116]] else []) ∧ Hid (ws.length ≤ 1) ∧ Hid (GwS w wx (.cells #[.int .i64 hd, .bool wh, .slice pa pn pc, .slice qa ts.length qc] 145 (0, 0)) qa (ts.flatMap ftC) v5 ws))
    case first =>
      cases wh
      · go_wp2_with fail
        go_meet
        exact ⟨[], hideP2 rfl, hideP2 (by decide), HS0⟩
      · go_wp2_with (at_builtin; refine wpList_append_own _ rfl _ _ 37 rfl (w.heap.size + 1) 9 i0 _ 1 16 Tryz.underlying37 hi0 hz0 hz1 hz2 rfl (by decide) _ _ _ rfl (HS0.out.own.alloc _) ⟨wc.heap.size, 0, none⟩ 1 1 [.string ⟨#[110, 111, 116]⟩] rfl rfl ?c1k1 ?c1k2 ?c1k3 ?c1k4 ?c1k5 ?_)
        try (case c1k1 => exact news_cells _ _ _ _ rfl)
        try (case c1k2 => first | rfl | (intro u hu; simp at hu; rcases hu with rfl; rfl))
        try (case c1k3 => unfold maxLen; omega)
        try (case c1k4 => omega)
        try (case c1k5 => first | omega | (simp; omega))
        intro v6 w6 hown6 hgrow6 _
        have HS6 : Hid (GwS w w6 (.cells #[.int .i64 hd, .bool true, .slice pa pn pc, .slice qa ts.length qc] 145 (0, 0)) qa (ts.flatMap ftC) v6 ([] ++ [[110, 111, 116]])) := HS0.out.app ((Below.refl _ _).alloc (Nat.le_refl _) _) hgrow6 hown6
        clear hown6 hgrow6
        go_wp2_with fail
        go_meet
        exact ⟨_, hideP2 rfl, hideP2 (by decide), HS6⟩
    case rest =>
      clear b1 b3 HS0 hsz
      obtain ⟨ws1, HE1, HL1, HS1⟩ := hcut
      obtain ⟨oa1, oc1, rfl⟩ := own_sliceN HS1.out.own
      have hsz := hlt_of HS1.out.box
      have hl1 := HL1.out
      go_upto_if 25 with fail
      go_cut [5] from 9 to 28 (fun v5 wx => ∃ ws, Hid (ws = ws1 ++ if inn = true then [[40]] else []) ∧ Hid (ws.length ≤ 2) ∧ Hid (GwS w wx (.cells #[.int .i64 hd, .bool wh, .slice pa pn pc, .slice qa ts.length qc] 145 (0, 0)) qa (ts.flatMap ftC) v5 ws))
      case first =>
        cases inn
        · go_wp2_with fail
          go_meet
          exact ⟨ws1, hideP2 (List.append_nil _).symm, hideP2 (by omega), HS1⟩
        · go_wp2_with (at_builtin; refine wpList_append_own _ rfl _ _ 37 rfl (w.heap.size + 1) 9 i0 _ 1 16 Tryz.underlying37 hi0 hz0 hz1 hz2 rfl (by decide) _ _ _ rfl (HS1.out.own.alloc _) ⟨wc.heap.size, 0, none⟩ 1 1 [.string ⟨#[40]⟩] rfl rfl ?c2k1 ?c2k2 ?c2k3 ?c2k4 ?c2k5 ?_)
          try (case c2k1 => exact news_cells _ _ _ _ rfl)
          try (case c2k2 => first | rfl | (intro u hu; simp at hu; rcases hu with rfl; rfl))
          try (case c2k3 => unfold maxLen; omega)
          try (case c2k4 => omega)
          try (case c2k5 => first | omega | (simp; omega))
          intro v6 w6 hown6 hgrow6 _
          have HS6 : Hid (GwS w w6 (.cells #[.int .i64 hd, .bool wh, .slice pa pn pc, .slice qa ts.length qc] 145 (0, 0)) qa (ts.flatMap ftC) v6 (ws1 ++ [[40]])) := HS1.out.app ((Below.refl _ _).alloc (Nat.le_refl _) _) hgrow6 hown6
          clear hown6 hgrow6
          go_wp2_with fail
          go_meet
          exact ⟨_, hideP2 rfl, hideP2 (by simp; omega), HS6⟩
      case rest =>
        clear HS1 hsz
        obtain ⟨ws2, HE2, HL2, HS2⟩ := hcut
        obtain ⟨oa2, oc2, rfl⟩ := own_sliceN HS2.out.own
        have hl2 := HL2.out
        go_wp2_with fail
        go_loopw [5, 7] (fun ov iv wr => ∃ (i : Nat), i ≤ ts.length ∧ iv = .int .i64 (i : Int) ∧ Hid ((tstsN ts lo i).length ≤ 7 * i) ∧ Hid (GwS w wr (.cells #[.int .i64 hd, .bool wh, .slice pa pn pc, .slice qa ts.length qc] 145 (0, 0)) qa (ts.flatMap ftC) ov (ws2 ++ tstsN ts lo i))) (fun _ iv _ => ts.length - (intOf iv).toNat)
        case atStart => exact ⟨0, Nat.zero_le _, rfl, hideP2 (Nat.zero_le _), by rw [show ws2 ++ tstsN ts lo 0 = ws2 from List.append_nil _]; exact HS2⟩
        case round =>
          clear HS2
          obtain ⟨i, hi, rfl, HLen, HS⟩ := hrel
          obtain ⟨oa, oc, rfl⟩ := own_sliceN HS.out.own
          have hsz := hlt_of HS.out.box
          have b3 : wr.cell? ⟨w.heap.size, 3, none⟩ = some (.slice qa ts.length qc) := cell_row HS.out.box 3
          by_cases hlt : i < ts.length
          · have ii : (i : Int) < (ts.length : Int) := by omega
            have hmem : ts.getD i ft0 ∈ ts := by simp [List.getD, hlt]
            have hok := HPo.out _ hmem
            have hss := HSs.out i
            obtain ⟨g, e0, -⟩ := HS.out.lst.cel.at ((flat_get ftC 8 (fun _ => rfl) ft0 ts i 0 hlt (by decide)).trans rfl)
            subst e0
            have HQq : Hid (∀ wx, CelT wx 221 (some ⟨g, 0, none⟩) (ts.flatMap ftC) → ∀ (r : Nat) (u : Value), r < 8 → (ftC (ts.getD i ft0))[r]? = some u → wx.cell? ⟨g, i * 8 + r, none⟩ = some u) := fun wx h r u hr hu => by
              obtain ⟨g', e', c'⟩ := h.cel.at ((flat_get ftC 8 (fun _ => rfl) ft0 ts i r hlt hr).trans hu)
              obtain rfl : g = g' := by simpa using e'
              exact c'
            clear hmem
            generalize ts.getD i ft0 = t at *
            have HOk := hideP2 hok
            have HSi := hideP2 hss
            clear hok hss
            generalize tstsN ts lo i = ws0 at *
            have hl0 := HLen.out
            have hlw : (ws2 ++ ws0).length ≤ 100 := by rw [List.length_append]; omega
            generalize hWA : ws2 ++ ws0 = wsA at *
            have HWA : Hid (wsA = ws2 ++ ws0) := hWA.symm
            clear hWA
            have q0 := HQq.out wr HS.out.lst 0 _ (by decide) rfl
            rw [Nat.add_zero] at q0
            have HJn : Hid (joinW i t = if i = 0 then [] else if t.or = true then [[111, 114]] else [[97, 110, 100]]) := rfl
            go_upto_region 10 with fail
            go_cut [5, 45] from 29 to 63 (fun v5 v45 wx => v5 = .slice oa wsA.length oc ∧ v45 = .bool (decide (0 < i) && t.or) ∧ wx = wr)
            case first =>
              by_cases k0 : i = 0
              · subst k0
                go_wp2_with fail
                go_meet
                exact ⟨rfl, rfl, rfl⟩
              · have k1 : 0 < i := by omega
                have k2 : (0 : Int) < (i : Int) := by omega
                have HD : Hid (decide (0 < i) = true) := decide_eq_true k1
                clear k0
                go_wp2_with fail
                go_meet
                exact ⟨rfl, by rw [HD.out]; rfl, rfl⟩
            case rest =>
              obtain ⟨rfl, rfl, rfl⟩ := hcut
              go_upto_if 45 with fail
              go_cut [5] from 29 to 63 (fun v5 wx => ∃ wsB, Hid (wsB = wsA ++ joinW i t) ∧ Hid (wsB.length ≤ wsA.length + 1) ∧ Hid (GwS w wx (.cells #[.int .i64 hd, .bool wh, .slice pa pn pc, .slice (some ⟨g, 0, none⟩) ts.length qc] 145 (0, 0)) (some ⟨g, 0, none⟩) (ts.flatMap ftC) v5 wsB))
              case first =>
                by_cases k0 : i = 0
                · have HE : Hid (joinW i t = []) := HJn.out.trans (if_pos k0)
                  subst k0
                  rw [show (decide (0 < 0) && t.or) = false from rfl]
                  go_wp2_with fail
                  go_meet
                  exact ⟨wsA, hideP2 (by rw [HE.out, List.append_nil]), hideP2 (Nat.le_succ _), HS⟩
                · have k1 : 0 < i := by omega
                  have k2 : (0 : Int) < (i : Int) := by omega
                  rw [decide_eq_true k1, Bool.true_and]
                  cases hto : t.or
                  · have HE : Hid (joinW i t = [[97, 110, 100]]) := HJn.out.trans ((if_neg k0).trans (if_neg (by rw [hto]; simp)))
                    clear k0 hto
                    go_wp2_with (at_builtin; refine wpList_append_own _ rfl _ _ 37 rfl (w.heap.size + 1) 9 i0 _ 1 16 Tryz.underlying37 hi0 hz0 hz1 hz2 rfl (by decide) _ _ _ rfl (HS.out.own.alloc _) ⟨wc.heap.size, 0, none⟩ 1 1 [.string ⟨#[97, 110, 100]⟩] rfl rfl ?c3k1 ?c3k2 ?c3k3 ?c3k4 ?c3k5 ?_)
                    try (case c3k1 => exact news_cells _ _ _ _ rfl)
                    try (case c3k2 => first | rfl | (intro u hu; simp at hu; rcases hu with rfl; rfl))
                    try (case c3k3 => unfold maxLen; omega)
                    try (case c3k4 => omega)
                    try (case c3k5 => first | omega | (simp; omega))
                    intro v6 w6 hown6 hgrow6 _
                    have HS6 : Hid (GwS w w6 (.cells #[.int .i64 hd, .bool wh, .slice pa pn pc, .slice (some ⟨g, 0, none⟩) ts.length qc] 145 (0, 0)) (some ⟨g, 0, none⟩) (ts.flatMap ftC) v6 (wsA ++ [[97, 110, 100]])) := HS.out.app ((Below.refl _ _).alloc (Nat.le_refl _) _) hgrow6 hown6
                    clear hown6 hgrow6
                    go_wp2_with fail
                    go_meet
                    exact ⟨_, hideP2 (by rw [HE.out]), hideP2 (by simp), HS6⟩
                  · have HE : Hid (joinW i t = [[111, 114]]) := HJn.out.trans ((if_neg k0).trans (if_pos hto))
                    clear k0 hto
                    go_wp2_with (at_builtin; refine wpList_append_own _ rfl _ _ 37 rfl (w.heap.size + 1) 9 i0 _ 1 16 Tryz.underlying37 hi0 hz0 hz1 hz2 rfl (by decide) _ _ _ rfl (HS.out.own.alloc _) ⟨wc.heap.size, 0, none⟩ 1 1 [.string ⟨#[111, 114]⟩] rfl rfl ?c4k1 ?c4k2 ?c4k3 ?c4k4 ?c4k5 ?_)
                    try (case c4k1 => exact news_cells _ _ _ _ rfl)
                    try (case c4k2 => first | rfl | (intro u hu; simp at hu; rcases hu with rfl; rfl))
                    try (case c4k3 => unfold maxLen; omega)
                    try (case c4k4 => omega)
                    try (case c4k5 => first | omega | (simp; omega))
                    intro v6 w6 hown6 hgrow6 _
                    have HS6 : Hid (GwS w w6 (.cells #[.int .i64 hd, .bool wh, .slice pa pn pc, .slice (some ⟨g, 0, none⟩) ts.length qc] 145 (0, 0)) (some ⟨g, 0, none⟩) (ts.flatMap ftC) v6 (wsA ++ [[111, 114]])) := HS.out.app ((Below.refl _ _).alloc (Nat.le_refl _) _) hgrow6 hown6
                    clear hown6 hgrow6
                    go_wp2_with fail
                    go_meet
                    exact ⟨_, hideP2 (by rw [HE.out]), hideP2 (by simp), HS6⟩
              case rest =>
                clear HS hsz b3 q0 HJn
                obtain ⟨wsB, HE1b, HL1b, HSb⟩ := hcut
                obtain ⟨oab, ocb, rfl⟩ := own_sliceN HSb.out.own
                have hlb := HL1b.out
                have b3 : wc.cell? ⟨w.heap.size, 3, none⟩ = some (.slice (some ⟨g, 0, none⟩) ts.length qc) := cell_row HSb.out.box 3
                have q0 := HQq.out wc HSb.out.lst 0 _ (by decide) rfl
                rw [Nat.add_zero] at q0
                have q1 := HQq.out wc HSb.out.lst 1 _ (by decide) rfl
                have q2 := HQq.out wc HSb.out.lst 2 _ (by decide) rfl
                have q3 := HQq.out wc HSb.out.lst 3 _ (by decide) rfl
                have q4 := HQq.out wc HSb.out.lst 4 _ (by decide) rfl
                have q5 := HQq.out wc HSb.out.lst 5 _ (by decide) rfl
                have q6 := HQq.out wc HSb.out.lst 6 _ (by decide) rfl
                have q7 := HQq.out wc HSb.out.lst 7 _ (by decide) rfl
                have HTw := hideP2 (fTestW_s wc t low lo HOk.out HL4.out (HTb.out wc HSb.out.bel))
                obtain ⟨t1, t2⟩ := tstW_len t lo
                generalize hTT : tstW t lo = tw at *
                clear hTT
                go_wp2_with fail
                refine HTw.out.mono ?_
                rintro e w7 ⟨v7, rfl, ho7, hb7⟩
                obtain ⟨g7, c7, rfl, hc7⟩ := row_at ho7 t1
                have HS7 := hideP2 (HSb.out.below hb7)
                have HC7 := hideP2 hc7
                have hsz7 := hlt_of HS7.out.box
                have HSlen : Hid ((strC tw).length = tw.length * 1) := by unfold Hid strC; simp
                have HSone : Hid (∀ u ∈ strC tw, u.oneCell' = true) := fun u hu => by
                  obtain ⟨x, -, rfl⟩ := List.mem_map.1 hu; rfl
                clear hb7 ho7 hc7 q0 q1 q2 q3 q4 q5 q6 q7 b3 HTw
                go_wp2_with (at_builtin; refine wpList_append_own _ rfl _ _ 37 rfl (w.heap.size + 1) 9 i0 _ 1 16 Tryz.underlying37 hi0 hz0 hz1 hz2 rfl (by decide) _ _ _ rfl HS7.out.own ⟨g7, 0, none⟩ tw.length c7 (strC tw) rfl HSlen.out HC7.out HSone.out ?c5k3 ?c5k4 ?c5k5 ?_)
                try (case c5k3 => unfold maxLen; omega)
                try (case c5k4 => omega)
                try (case c5k5 => first | omega | (simp; omega))
                intro v6 w6 hown6 hgrow6 _
                have HS6 : Hid (GwS w w6 (.cells #[.int .i64 hd, .bool wh, .slice pa pn pc, .slice (some ⟨g, 0, none⟩) ts.length qc] 145 (0, 0)) (some ⟨g, 0, none⟩) (ts.flatMap ftC) v6 (wsB ++ tw)) := HS7.out.app (Below.refl _ _) hgrow6 hown6
                have HX : Hid ((tstsN ts lo (i + 1)).length ≤ 7 * (i + 1) ∧ ws2 ++ tstsN ts lo (i + 1) = wsB ++ tw) := by
                  unfold Hid
                  have hj : (joinW i t).length ≤ 1 := by unfold joinW; split; simp; split <;> simp
                  rw [HSi.out, HE1b.out, HWA.out]
                  exact ⟨by simp only [List.length_append]; omega, by simp only [List.append_assoc]⟩
                have Z1 := hideP2 HX.out.1
                have Z2 : Hid (GwS w w6 (.cells #[.int .i64 hd, .bool wh, .slice pa pn pc, .slice (some ⟨g, 0, none⟩) ts.length qc] 145 (0, 0)) (some ⟨g, 0, none⟩) (ts.flatMap ftC) v6 (ws2 ++ tstsN ts lo (i + 1))) := by unfold Hid; rw [HX.out.2]; exact HS6.out
                clear hown6 hgrow6 HX HS6
                go_wp2_with fail
                go_roundw
                case rel => exact ⟨i + 1, by omega, by go_num, Z1, Z2⟩
                case measure => simp [intOf]; omega
          · obtain rfl : i = ts.length := by omega
            have ii : ¬ (ts.length : Int) < (ts.length : Int) := by omega
            have hl0 := HLen.out
            have HTW : Hid (TW = ws2 ++ tstsN ts lo ts.length ++ if inn = true then [[41]] else []) := by
              unfold Hid
              rw [HGW.out, HE2.out, HE1.out]
            have hlw : (ws2 ++ tstsN ts lo ts.length).length ≤ 100 := by rw [List.length_append]; omega
            clear HGW HE2 HE1
            generalize ws2 ++ tstsN ts lo ts.length = wsA at *
            cases inn
            · have HQ : Hid (wr.ownsRow w.heap.size 9 1 (.slice oa wsA.length oc) TW.length (strC TW)) := by
                have e : TW = wsA := HTW.out.trans (by simp)
                unfold Hid
                rw [e]
                exact owns_base2 HS.out.own (Nat.le_succ _)
              go_wp2_with fail
              go_ret
              exact ⟨_, rfl, HQ.out, HS.out.bel⟩
            · go_wp2_with (at_builtin; refine wpList_append_own _ rfl _ _ 37 rfl (w.heap.size + 1) 9 i0 _ 1 16 Tryz.underlying37 hi0 hz0 hz1 hz2 rfl (by decide) _ _ _ rfl (HS.out.own.alloc _) ⟨wr.heap.size, 0, none⟩ 1 1 [.string ⟨#[41]⟩] rfl rfl ?c6k1 ?c6k2 ?c6k3 ?c6k4 ?c6k5 ?_)
              try (case c6k1 => exact news_cells _ _ _ _ rfl)
              try (case c6k2 => first | rfl | (intro u hu; simp at hu; rcases hu with rfl; rfl))
              try (case c6k3 => unfold maxLen; omega)
              try (case c6k4 => omega)
              try (case c6k5 => first | omega | (simp; omega))
              intro v6 w6 hown6 hgrow6 _
              have HS6 : Hid (GwS w w6 (.cells #[.int .i64 hd, .bool wh, .slice pa pn pc, .slice qa ts.length qc] 145 (0, 0)) qa (ts.flatMap ftC) v6 (wsA ++ [[41]])) := HS.out.app ((Below.refl _ _).alloc (Nat.le_refl _) _) hgrow6 hown6
              clear hown6 hgrow6
              have HQ : Hid (w6.ownsRow w.heap.size 9 1 v6 TW.length (strC TW)) := by
                have e : TW = wsA ++ [[41]] := HTW.out.trans (by simp)
                unfold Hid
                rw [e]
                exact owns_base2 HS6.out.own (Nat.le_succ _)
              have HB6 := hideP2 HS6.out.bel
              clear HS6
              go_wp2_with fail
              go_ret
              exact ⟨_, rfl, HQ.out, HB6.out⟩
end Go.Proofs.YtnbpdffdnphbeaaGreatDoor
