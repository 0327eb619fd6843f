/- What build of statutekeep gives: some frame, read. -/
import Derived.Test.YtnbpdffdnphbeaaGreatDoorPMade
import Derived.BigRegion
namespace Go.Proofs.YtnbpdffdnphbeaaGreatDoor
open Go.RowKit

/-- A rule's cells. -/
def frC (x : FRule × Value × Value) : List Value := [.int .i64 (x.1.head : Int), .bool x.1.whole, x.2.1, x.2.2]
structure FRulV (w : World) (x : FRule × Value × Value) : Prop where
  parts : ∃ a c, x.2.1 = .slice a x.1.parts.length c ∧ CelT w 217 a (x.1.parts.flatMap fpC)
  tests : ∃ a c, x.2.2 = .slice a x.1.tests.length c ∧ CelT w 221 a (x.1.tests.flatMap ftC)
theorem FRulV.below {w w' : World} {x : FRule × Value × Value} (h : FRulV w x) (hb : Below w.heap.size w w') : FRulV w' x := by
  obtain ⟨a, c, e1, h1⟩ := h.parts
  obtain ⟨a', c', e2, h2⟩ := h.tests
  exact ⟨⟨a, c, e1, h1.below hb⟩, a', c', e2, h2.below hb⟩
theorem infoFR : (Tryz.prog.info? 145).map (fun i => (i.zero, i.size, i.bytes)) = some (some (.agg #[.int .i64 0, .bool false, .slice none 0 0, .slice none 0 0]), 4, 64) := by kernel_rfl
theorem infoIntF : (Tryz.prog.info? 3).map (fun i => (i.zero, i.size, i.bytes)) = some (some (.int .i64 0), 1, 8) := by kernel_rfl
theorem box_set {w : World} {b g k : Nat} {v : Value} {o : Obj} (h : w.heap[b]? = some o) (hne : b ≠ g) : (w.setCell ⟨g, k, none⟩ v).heap[b]? = some o := by rw [Below.heap_setCell _ _ _ _ (show b ≠ (⟨g, k, none⟩ : Addr).block from hne)]; exact h
theorem MadM.drew {w : World} {g : Nat} {lo hi : Nat → Int} {rv : Value} {ov : Nat → Nat → Bool} {hv : Value} (h : MadM w g lo hi rv ov hv) : MadM w.drew g lo hi rv ov hv := h.below (Below.drew (Below.refl _ _))
theorem upd_at {α : Type} (f : Nat → α) (i : Nat) (v : α) : upd f i v i = v := by unfold upd; rw [if_pos rfl]
theorem upd_ne {α : Type} {f : Nat → α} {i j : Nat} {v : α} (h : j ≠ i) : upd f i v j = f j := by unfold upd; rw [if_neg h]
/-- A frame, read, lies in memory. -/
structure MadeV (w : World) (g : Nat) (M : FMade) : Prop where
  mem : ∃ (ra ha : Option Addr) (rc hc : Nat) (xs : List (FRule × Value × Value)), xs.map Prod.fst = M.rules ∧ MadM w g M.lo M.hi (.slice ra M.rules.length rc) M.over (.slice ha M.heads.length hc) ∧ CelT w 145 ra (xs.flatMap frC) ∧ (∀ x ∈ xs, FRulV w x) ∧ CelT w 3 ha (lowC M.heads)

theorem FRulV.set {w : World} {x : FRule × Value × Value} (h : FRulV w x) {b j : Nat} {u : Value} {cs : Array Value} (hb : w.heap[b]? = some (.cells cs 133 (0, 0))) : FRulV (w.setCell ⟨b, j, none⟩ u) x := by
  obtain ⟨a, c, e1, h1⟩ := h.parts
  obtain ⟨a', c', e2, h2⟩ := h.tests
  exact ⟨⟨a, c, e1, h1.set hb (by decide)⟩, a', c', e2, h2.set hb (by decide)⟩
theorem FRulV.grown {w w' : World} {B n : Nat} {v : Value} {ys : List Value} {x : FRule × Value × Value} (h : FRulV w x) (hown : w.ownsRow B 145 4 v n ys) (hg : w.grownBy w' v.ownBlock) : FRulV w' x := by
  obtain ⟨a, c, e1, h1⟩ := h.parts
  obtain ⟨a', c', e2, h2⟩ := h.tests
  exact ⟨⟨a, c, e1, h1.grown hown (by decide) hg⟩, a', c', e2, h2.grown hown (by decide) hg⟩
theorem set4 {w : World} {g : Nat} {t : TypeId} {z0 z1 z2 z3 a b c d : Value} (hz : w.heap[g]? = some (.cells #[z0, z1, z2, z3] t (0, 0))) : ((((w.setCell ⟨g, 0, none⟩ a).setCell ⟨g, 1, none⟩ b).setCell ⟨g, 2, none⟩ c).setCell ⟨g, 3, none⟩ d).heap[g]? = some (.cells #[a, b, c, d] t (0, 0)) := by
  have q1 := heap_setCell_same w _ 0 _ _ a hz
  have q2 := heap_setCell_same _ _ 1 _ _ b q1
  have q3 := heap_setCell_same _ _ 2 _ _ c q2
  have q4 := heap_setCell_same _ _ 3 _ _ d q3
  rw [q4]; simp
theorem celT_set4 {w : World} {g : Nat} {t T : TypeId} {cs : Array Value} {a b c d : Value} {p : Option Addr} {xs : List Value} (h : CelT w T p xs) (hz : w.heap[g]? = some (.cells cs t (0, 0))) (hne : T ≠ t) : CelT ((((w.setCell ⟨g, 0, none⟩ a).setCell ⟨g, 1, none⟩ b).setCell ⟨g, 2, none⟩ c).setCell ⟨g, 3, none⟩ d) T p xs := by
  have q1 := heap_setCell_same w _ 0 _ _ a hz
  have q2 := heap_setCell_same _ _ 1 _ _ b q1
  have q3 := heap_setCell_same _ _ 2 _ _ c q2
  exact (((h.set hz hne).set q1 hne).set q2 hne).set q3 hne
theorem below_set4 {B : Nat} {w0 w : World} {g : Nat} {a b c d : Value} (h : Below B w0 w) (hg : B ≤ g) : Below B w0 ((((w.setCell ⟨g, 0, none⟩ a).setCell ⟨g, 1, none⟩ b).setCell ⟨g, 2, none⟩ c).setCell ⟨g, 3, none⟩ d) := (((h.setCell (p := ⟨g, 0, none⟩) hg _).setCell (p := ⟨g, 1, none⟩) hg _).setCell (p := ⟨g, 2, none⟩) hg _).setCell (p := ⟨g, 3, none⟩) hg _
/-- The third loop's state. -/
structure BL (w wr : World) (gt B3 : Nat) (fo : Obj) (lo hi hd : Nat → Int) (n i : Nat) (rv : Value) (ov : Nat → Nat → Bool) (ha : Option Addr) (hc : Nat) (xs : List (FRule × Value × Value)) : Prop where
  box : wr.heap[w.heap.size]? = some fo
  mad : MadM wr (w.heap.size + 1) lo hi rv ov (.slice ha (headsOf (hsN hd n)).length hc)
  th : ThM wr gt (fun d => decide (d ∈ hsN hd n))
  own : wr.ownsRow B3 145 4 rv i (xs.flatMap frC)
  rows : ∀ x ∈ xs, FRulV wr x
  hds : CelT wr 3 ha (lowC (headsOf (hsN hd n)))
  bel : Below w.heap.size w wr
  sz : B3 ≤ wr.heap.size
  len : xs.map (fun x => x.1.head) = hsN hd i
  oks : ∀ x ∈ xs, RuleOk (headsOf (hsN hd n)) x.1
  ovr : ∀ a b, ov a b = true → a < b ∧ b < n ∧ (hsN hd n).getD a 0 = (hsN hd n).getD b 0
theorem BL.below {w wr w' : World} {gt B3 : Nat} {fo : Obj} {lo hi hd : Nat → Int} {n i : Nat} {rv : Value} {ov : Nat → Nat → Bool} {ha : Option Addr} {hc : Nat} {xs : List (FRule × Value × Value)} (h : BL w wr gt B3 fo lo hi hd n i rv ov ha hc xs) (hb : Below wr.heap.size wr w') : BL w w' gt B3 fo lo hi hd n i rv ov ha hc xs :=
  ⟨(hb.block _ (hlt_of h.box)).trans h.box, h.mad.below hb, h.th.below hb, owns_below h.own hb, fun x hx => (h.rows x hx).below hb, h.hds.below hb, h.bel.trans (hb.mono h.bel.size), Nat.le_trans h.sz hb.size, h.len, h.oks, h.ovr⟩
theorem BL.setO {w wr : World} {gt B3 : Nat} {fo : Obj} {lo hi hd : Nat → Int} {n i : Nat} {rv : Value} {ov : Nat → Nat → Bool} {ha : Option Addr} {hc : Nat} {xs : List (FRule × Value × Value)} (h : BL w wr gt B3 fo lo hi hd n i rv ov ha hc xs) (h1 : w.heap.size + 1 < gt) (h2 : gt < B3) {a b : Nat} (ha8 : a < 8) (hb8 : b < 8) (v : Bool) (hv : v = true → a < b ∧ b < n ∧ (hsN hd n).getD a 0 = (hsN hd n).getD b 0) : BL w (wr.setCell ⟨w.heap.size + 1, 7 + a * 8 + b, none⟩ (.bool v)) gt B3 fo lo hi hd n i rv (upd2 ov a b v) ha hc xs := by
  obtain ⟨cs, m1, -⟩ := h.mad.blk
  refine ⟨box_set h.box (by omega), h.mad.setO a b ha8 hb8 v, h.th.other (by omega), owns_set h.own (by omega), fun x hx => (h.rows x hx).set m1, h.hds.set m1 (by decide), h.bel.setCell (Nat.le_succ _) _, by simpa using h.sz, h.len, h.oks, fun x y hxy => ?_⟩
  unfold upd2 at hxy
  split at hxy
  · rename_i e; obtain ⟨rfl, rfl⟩ := e; exact hv hxy
  · exact h.ovr x y hxy
theorem BL.app {w wc wz w9 : World} {gt B3 : Nat} {fo : Obj} {lo hi hd : Nat → Int} {n i : Nat} {rv : Value} {ov : Nat → Nat → Bool} {ha : Option Addr} {hc : Nat} {xs : List (FRule × Value × Value)} {x : FRule × Value × Value} {v : Value} (h : BL w wc gt B3 fo lo hi hd n i rv ov ha hc xs) (h1 : w.heap.size + 1 < gt) (h2 : gt < B3) (hx : FRulV wc x) (hok : RuleOk (headsOf (hsN hd n)) x.1) (hs : hsN hd (i + 1) = hsN hd i ++ [x.1.head]) (hz : Below wc.heap.size wc wz) (hg : wz.grownBy w9 rv.ownBlock) (hown : w9.ownsRow B3 145 4 v (i + 1) (xs.flatMap frC ++ frC x)) : MadM w9 (w.heap.size + 1) lo hi rv ov (.slice ha (headsOf (hsN hd n)).length hc) ∧ BL w (w9.setCell ⟨w.heap.size + 1, 6, none⟩ v) gt B3 fo lo hi hd n (i + 1) v ov ha hc (xs ++ [x]) := by
  have hZ := h.below hz
  have hb : Below B3 wz w9 := (Below.refl B3 wz).grown hg hZ.sz (own_block_le hZ.own)
  have hM := hZ.mad.down hb (by omega)
  obtain ⟨cs, m1, -⟩ := hM.blk
  refine ⟨hM, box_set ((hb.block _ (by omega)).trans hZ.box) (by omega), hM.setR _, (hZ.th.down hb h2).other (by omega), ?_, fun y hy => ?_, (hZ.hds.grown hZ.own (by decide) hg).set m1 (by decide), (hZ.bel.trans (hb.mono (by omega))).setCell (Nat.le_succ _) _, ?_, ?_, fun y hy => ?_, h.ovr⟩
  · rw [List.flatMap_append]; exact owns_set (by simpa using hown) (by omega)
  · rcases List.mem_append.1 hy with h' | h'
    · exact ((hZ.rows y h').grown hZ.own hg).set m1
    · rw [List.mem_singleton.1 h']; exact ((hx.below hz).grown hZ.own hg).set m1
  · have := hZ.sz; have := hb.size; simp; omega
  · rw [List.map_append, h.len, hs]; rfl
  · rcases List.mem_append.1 hy with h' | h'
    · exact h.oks y h'
    · rw [List.mem_singleton.1 h']; exact hok
theorem lowOf_succ (H : List Nat) (d : Nat) : lowOf H (d + 1) = if d ∈ H then lowOf H d ++ [d] else lowOf H d := by
  unfold lowOf
  rw [List.range_succ, List.filter_append]
  by_cases h : d ∈ H
  · rw [if_pos h]; simp [h]
  · rw [if_neg h]; simp [h]
theorem lowOf_len (H : List Nat) (d : Nat) : (lowOf H d).length ≤ d := by
  unfold lowOf
  have := List.length_filter_le (fun x => decide (x ∈ H)) (List.range d)
  simpa using this

set_option maxRecDepth 100000 in
set_option maxHeartbeats 4000000 in
theorem fBuild_s (w : World) (la wa ra : Option Addr) (ln lc wn wk rn rc : Nat) (hd : Nat → Int) (hL : RawE w la ln) (hW : RawE w wa wn) (hR : RawR w ra rn hd) :
    Calls Tryz.prog 20 #[.agg #[.slice la ln lc, .slice wa wn wk, .slice ra rn rc]] w fun e w' => ∃ g M, e = .returned (.pointer (some ⟨g, 0, none⟩)) ∧ MadeOk M ∧ MadeV w' g M ∧ Below w.heap.size w w' := by
  obtain ⟨i0, hi0, hz0, hz1, hz2⟩ := info_parts infoFR
  obtain ⟨j0, hj0, hy0, hy1, hy2⟩ := info_parts infoIntF
  have hfewR := hR.few
  unfold maxLen at hfewR
  have HL := hideP2 (fun w' (hb : Below w.heap.size w w') => hL.below hb)
  have HWd := hideP2 (fun w' (hb : Below w.heap.size w w') => hW.below hb)
  have HR := hideP2 (fun w' (hb : Below w.heap.size w w') => hR.below hb)
  have HPk := hideP2 fPick_s
  clear hL hW hR
  go_enter Tryz.func20, Tryz.ntmps20
  go_upto_region 2 with fail
  have HM0 := hideP2 (made_first (w.alloc (.cells #[.slice la ln lc, .slice wa wn wk, .slice ra rn rc] 62)))
  rw [show (w.alloc (.cells #[.slice la ln lc, .slice wa wn wk, .slice ra rn rc] 62)).heap.size = w.heap.size + 1 by simp] at HM0
  have HX0 : Hid (((w.alloc (.cells #[.slice la ln lc, .slice wa wn wk, .slice ra rn rc] 62)).alloc (.cells Tryz.zeroCells133 133)).heap[w.heap.size]? = some (.cells #[.slice la ln lc, .slice wa wn wk, .slice ra rn rc] 62 (0, 0))) := hb_new (hb_end _ _)
  have HB0 : Hid (Below w.heap.size w ((w.alloc (.cells #[.slice la ln lc, .slice wa wn wk, .slice ra rn rc] 62)).alloc (.cells Tryz.zeroCells133 133))) := ((Below.refl _ _).alloc (Nat.le_refl _) _).alloc (by simp) _
  generalize (w.alloc (.cells #[.slice la ln lc, .slice wa wn wk, .slice ra rn rc] 62)).alloc (.cells Tryz.zeroCells133 133) = w0 at *
  go_wp2_with fail
  go_loopw [4] (fun iv wr => ∃ (i : Nat) (lo hi : Nat → Int), i ≤ 3 ∧ iv = .int .i64 i ∧ Hid (wr.heap[w.heap.size]? = some (.cells #[.slice la ln lc, .slice wa wn wk, .slice ra rn rc] 62 (0, 0))) ∧ Hid (MadM wr (w.heap.size + 1) lo hi (.slice none 0 0) (fun _ _ => false) (.slice none 0 0)) ∧ Hid (∀ j, j < i → 0 ≤ lo j ∧ lo j ≤ hi j ∧ hi j ≤ 9998) ∧ Hid (Below w.heap.size w wr)) (fun iv _ => 3 - (intOf iv).toNat)
  case atStart => exact ⟨0, _, _, Nat.zero_le _, rfl, HX0, HM0, hideP2 (fun j hj => by omega), HB0⟩
  case round =>
    obtain ⟨i, lo, hi, hi3, rfl, HX, HM, HN, HB⟩ := hrel
    by_cases hlt : i < 3
    · have c1 : (i : Int) < 3 := by omega
      have x0 : wr.cell? ⟨w.heap.size, 0, none⟩ = some (.slice la ln lc) := cell_row HX.out 0
      have x1 : wr.cell? ⟨w.heap.size, 1, none⟩ = some (.slice wa wn wk) := cell_row HX.out 1
      obtain ⟨h1, H1⟩ := HL.out wr HB.out
      obtain ⟨h2, H2⟩ := HWd.out wr HB.out
      have HA1 := hideP2 (kAt_s wr la ln lc h1 H1 i (by omega))
      have HA2 := hideP2 (kAt_s wr wa wn wk h2 H2 i (by omega))
      have HP1 := hideP2 (fun w' => HPk.out w' (rawI ln h1 i) 5000 (H1.in i) (by decide) (by decide))
      have HP2 := hideP2 (fun w' => HPk.out w' (rawI wn h2 i) 5000 (H2.in i) (by decide) (by decide))
      clear H1 H2
      generalize rawI ln h1 i = z1 at *
      generalize rawI wn h2 i = z2 at *
      have fz1 := HM.out.free i
      have fz2 := HM.out.free (3 + i)
      have m1 := HM.out.cells.1 i hlt
      have m2 := HM.out.cells.2.1 i hlt
      go_wp2_with fail
      refine HA1.out.mono ?_
      rintro e w4 ⟨rfl, hw⟩; obtain rfl := hw.symm
      go_wp2_with fail
      refine HA2.out.mono ?_
      rintro e w4 ⟨rfl, hw⟩; obtain rfl := hw.symm
      go_upto_region 7 with fail
      go_cut [5] from 21 to 53 (fun v5 wx => ∃ r : Nat, v5 = .int .i64 z1 ∧ Hid (r < 5000) ∧ Hid (wx.heap[w.heap.size]? = some (.cells #[.slice la ln lc, .slice wa wn wk, .slice ra rn rc] 62 (0, 0))) ∧ Hid (MadM wx (w.heap.size + 1) (upd lo i (r : Int)) hi (.slice none 0 0) (fun _ _ => false) (.slice none 0 0)) ∧ Hid (Below w.heap.size w wx))
      case first =>
        go_region_held3 (fun w' => w'.cell? ⟨w.heap.size, 0, none⟩ = some (.slice la ln lc)) (go_keep) (
          (go_at_call 51; refine (HP1.out _).mono ?_; rintro e w4 ⟨r, rfl, hr, hw⟩; obtain rfl := hw.symm))
        all_goals
          go_wp2_with fail
          go_meet
          exact ⟨r, rfl, hideP2 (by omega), hideP2 (hb_drew (box_set HX.out (by omega))), hideP2 (HM.out.setLo i hlt _).drew, hideP2 (Below.drew (HB.out.setCell (Nat.le_succ _) _))⟩
      case rest =>
        clear x0 x1 fz1 fz2 m1 m2 HA1 HA2 HP1
        obtain ⟨r, rfl, Hr, HX1, HM1, HB1⟩ := hcut
        have fz2 := HM1.out.free (3 + i)
        have m1 := HM1.out.cells.1 i hlt
        rw [upd_at] at m1
        have m2 := HM1.out.cells.2.1 i hlt
        have hr5 := Hr.out
        go_upto_region 8 with fail
        go_region_held3 (fun w' => w'.cell? ⟨w.heap.size + 1, i, none⟩ = some (.int .i64 (r : Int))) (first | exact ((HM1.out.setHi i hlt _).drew.cells.1 i hlt).trans (congrArg (fun z => some (Value.int .i64 z)) (upd_at _ _ _)) | go_keep) (
          (go_at_call 51; refine (HP2.out _).mono ?_; rintro e w4 ⟨q, rfl, hq, hw⟩; obtain rfl := hw.symm))
        all_goals
          have HN2 : Hid (∀ j, j < i + 1 → 0 ≤ upd lo i (r : Int) j ∧ upd lo i (r : Int) j ≤ upd hi i ((r : Int) + (q : Int)) j ∧ upd hi i ((r : Int) + (q : Int)) j ≤ 9998) := fun j hj => by
            by_cases e : j = i
            · subst e; rw [upd_at, upd_at]; omega
            · rw [upd_ne e, upd_ne e]; exact HN.out j (by omega)
          go_wp2_with fail
          go_roundw
          case rel => exact ⟨i + 1, _, _, by omega, by go_num, hideP2 (hb_drew (box_set HX1.out (by omega))), hideP2 (HM1.out.setHi i hlt _).drew, HN2, hideP2 (Below.drew (HB1.out.setCell (Nat.le_succ _) _))⟩
          case measure => simp [intOf]; omega
    · have HN3 : Hid (∀ j, j < 3 → 0 ≤ lo j ∧ lo j ≤ hi j ∧ hi j ≤ 9998) := fun j hj => HN.out j (by omega)
      have c9 : ¬ (i : Int) < 3 := by omega
      clear HN hlt hi3
      have x2 : wr.cell? ⟨w.heap.size, 2, none⟩ = some (.slice ra rn rc) := cell_row HX.out 2
      go_upto_if 58 with fail
      go_cut [7] from 21 to 58 (fun v7 wx => ∃ n : Nat, v7 = .int .i64 (n : Int) ∧ Hid (n ≤ 8 ∧ n ≤ rn) ∧ wx = wr)
      case first =>
        by_cases h8 : 8 < rn
        · have c1 : (8 : Int) < (rn : Int) := by omega
          go_wp2_with fail
          go_meet
          exact ⟨8, rfl, hideP2 ⟨by decide, by omega⟩, rfl⟩
        · have c1 : ¬ (8 : Int) < (rn : Int) := by omega
          go_wp2_with fail
          go_meet
          exact ⟨rn, rfl, hideP2 ⟨by omega, Nat.le_refl _⟩, rfl⟩
      case rest =>
        obtain ⟨n, rfl, Hn, rfl⟩ := hcut
        obtain ⟨hn8, hnr⟩ := Hn.out
        go_upto_region 13 with fail
        have HTh : Hid (ThM (wc.alloc (.cells #[.bool false, .bool false, .bool false, .bool false] 136)) wc.heap.size (fun d => decide (d ∈ hsN hd 0))) := ⟨_, hb_end _ _, rfl, fun i hi => match i, hi with
          | 0, _ => rfl
          | 1, _ => rfl
          | 2, _ => rfl
          | 3, _ => rfl⟩
        have hlt1 := HM.out.lt
        have HX1 : Hid ((wc.alloc (.cells #[.bool false, .bool false, .bool false, .bool false] 136)).heap[w.heap.size]? = some (.cells #[.slice la ln lc, .slice wa wn wk, .slice ra rn rc] 62 (0, 0))) := hb_new HX.out
        have HM1 := hideP2 (HM.out.below ((Below.refl wc.heap.size wc).alloc (Nat.le_refl _) (.cells #[.bool false, .bool false, .bool false, .bool false] 136)))
        have HB1 : Hid (Below w.heap.size w (wc.alloc (.cells #[.bool false, .bool false, .bool false, .bool false] 136))) := HB.out.alloc HB.out.size _
        have hs1 : (wc.alloc (.cells #[.bool false, .bool false, .bool false, .bool false] 136)).heap.size = wc.heap.size + 1 := by simp
        clear HX HM HB x2
        generalize wc.alloc (.cells #[.bool false, .bool false, .bool false, .bool false] 136) = w1 at *
        generalize wc.heap.size = gt at *
        go_wp2_with fail
        go_loopw [9] (fun iv wr => ∃ (i : Nat) (hv : Value), i ≤ n ∧ iv = .int .i64 i ∧ gt + 1 ≤ wr.heap.size ∧ Hid (wr.heap[w.heap.size]? = some (.cells #[.slice la ln lc, .slice wa wn wk, .slice ra rn rc] 62 (0, 0))) ∧ Hid (MadM wr (w.heap.size + 1) lo hi (.slice none 0 0) (fun _ _ => false) hv) ∧ Hid (ThM wr gt (fun d => decide (d ∈ hsN hd i))) ∧ Hid (wr.ownsRow (gt + 1) 3 1 hv (headsOf (hsN hd i)).length (lowC (headsOf (hsN hd i)))) ∧ Hid (Below w.heap.size w wr)) (fun iv _ => n - (intOf iv).toNat)
        case atStart => exact ⟨0, _, Nat.zero_le _, rfl, by omega, HX1, HM1, HTh, hideP2 (World.ownsRow_nil _ _ _ _), HB1⟩
        case round =>
          clear HX1 HM1 HTh HB1
          obtain ⟨i, hv, hin, rfl, hsz, HX, HM, HTh, HO, HB⟩ := hrel
          by_cases hlt : i < n
          · have c1 : (i : Int) < (n : Int) := by omega
            have x2 : wr.cell? ⟨w.heap.size, 2, none⟩ = some (.slice ra rn rc) := cell_row HX.out 2
            obtain ⟨g, o, rfl, hcs⟩ := (HR.out wr HB.out).blk (by omega)
            obtain ⟨sa, sn, sc, ta, tn, tc, b, ov, ⟨r0, -⟩, f1, -⟩ := hcs i (by omega)
            have c2 : (i : Int) < (rn : Int) := by omega
            have HP1 := hideP2 (kPick_s wr (hd i) 4 f1 (by decide) (by decide))
            obtain ⟨h, hh⟩ : ∃ h : Nat, pkI (hd i) 4 = (h : Int) := ⟨(pkI (hd i) 4).toNat, by have := pkI_bound (hd i) 4 (by decide); omega⟩
            have hh4 : h < 4 := by have := pkI_bound (hd i) 4 (by decide); omega
            have hh4i : (h : Int) < 4 := by omega
            have HS1 : Hid (hsN hd (i + 1) = hsN hd i ++ [h]) := by unfold Hid; rw [hsN_succ, hh]; rfl
            have HH4 : Hid ((headsOf (hsN hd i)).length ≤ 4) := headsOf_len (hsN_lt hd i)
            rw [hh] at HP1
            clear hcs hh
            go_wp2_with fail
            refine HP1.out.mono ?_
            rintro e w4 ⟨rfl, hw⟩; obtain rfl := hw.symm
            clear HP1 r0 f1
            have th := HTh.out.cell hh4
            go_upto_if 74 with fail
            go_cut [10] from 59 to 86 (fun v10 wx => ∃ hv', v10 = .int .i64 (h : Int) ∧ Hid (gt + 1 ≤ wx.heap.size) ∧ Hid (wx.heap[w.heap.size]? = some (.cells #[.slice la ln lc, .slice wa wn wk, .slice (some ⟨g, o, none⟩) rn rc] 62 (0, 0))) ∧ Hid (MadM wx (w.heap.size + 1) lo hi (.slice none 0 0) (fun _ _ => false) hv') ∧ Hid (ThM wx gt (fun d => decide (d ∈ hsN hd i))) ∧ Hid (wx.ownsRow (gt + 1) 3 1 hv' (headsOf (hsN hd (i + 1))).length (lowC (headsOf (hsN hd (i + 1))))) ∧ Hid (Below w.heap.size w wx))
            case first =>
              by_cases hm : h ∈ hsN hd i
              · have HE : Hid (headsOf (hsN hd (i + 1)) = headsOf (hsN hd i)) := by unfold Hid; rw [HS1.out, headsOf_snoc]; unfold addH; rw [if_pos (headsOf_mem.2 hm)]
                rw [decide_eq_true hm]
                clear hm
                go_wp2_with fail
                go_meet
                exact ⟨hv, rfl, hideP2 hsz, HX, HM, HTh, by rw [HE.out]; exact HO, HB⟩
              · have HE : Hid (headsOf (hsN hd (i + 1)) = headsOf (hsN hd i) ++ [h]) := by unfold Hid; rw [HS1.out, headsOf_snoc]; unfold addH; rw [if_neg (fun h1 => hm (headsOf_mem.1 h1))]
                rw [decide_eq_false hm]
                obtain ⟨oa, oc, rfl⟩ := own_sliceN HO.out
                obtain ⟨-, -, -, -, m71⟩ := HM.out.cells
                have hH4 := HH4.out
                have HMg := hideP2 HM.out.lt
                have hbf : w.heap.size + 1 < gt := hlt1
                clear hm th x2
                go_wp2_with (at_builtin; refine wpList_append_own _ rfl _ _ 59 rfl (gt + 1) 3 j0 _ 1 8 Tryz.underlying59 hj0 hy0 hy1 hy2 rfl (by decide) _ _ _ rfl (HO.out.alloc _) ⟨wr.heap.size, 0, none⟩ 1 1 [.int .i64 (h : Int)] rfl rfl ?c1k1 ?c1k2 ?c1k3 ?c1k4 ?c1k5 ?_)
                try (case c1k1 => exact news_cells _ _ _ _ rfl)
                try (case c1k2 => intro u hu; simp at hu; rcases hu with rfl; rfl)
                try (case c1k3 => unfold maxLen; omega)
                try (case c1k4 => omega)
                try (case c1k5 => simp; omega)
                intro v6 w6 hown6 hgrow6 _
                obtain ⟨a6, c6, rfl⟩ := own_sliceN hown6
                have hb6 : Below (gt + 1) wr w6 := ((Below.refl _ _).alloc hsz _).grown hgrow6 (by simp; omega) (own_block_le HO.out)
                have HB6 : Hid (Below w.heap.size w w6) := HB.out.trans (hb6.mono (by omega))
                have HX6 : Hid (w6.heap[w.heap.size]? = some (.cells #[.slice la ln lc, .slice wa wn wk, .slice (some ⟨g, o, none⟩) rn rc] 62 (0, 0))) := (hb6.block _ (by omega)).trans HX.out
                have HM6 := hideP2 (HM.out.down hb6 (by omega))
                have HTh6 := hideP2 (HTh.out.down hb6 (Nat.lt_succ_self _))
                have HO6 : Hid (w6.ownsRow (gt + 1) 3 1 (.slice a6 ((headsOf (hsN hd i)).length + 1) c6) (headsOf (hsN hd (i + 1))).length (lowC (headsOf (hsN hd (i + 1))))) := by unfold Hid; rw [HE.out, lowC_snoc, List.length_append]; exact hown6
                have hsz6 : gt + 1 ≤ w6.heap.size := by have := hb6.size; omega
                have HFz := hideP2 HM6.out.free
                have fz := HFz.out 71
                obtain ⟨-, -, -, -, m71'⟩ := HM6.out.cells
                clear hown6 hgrow6 m71
                go_wp2_with fail
                go_meet
                exact ⟨_, rfl, hideP2 (by simp; omega), hideP2 (box_set HX6.out (by omega)), hideP2 (HM6.out.setH _), hideP2 (HTh6.out.other (by omega)), hideP2 (ownsRow_setCell_below HO6.out (a := ⟨w.heap.size + 1, 71, none⟩) (show w.heap.size + 1 < gt + 1 by omega) _), hideP2 (HB6.out.setCell (Nat.le_succ _) _)⟩
            case rest =>
              clear HX HM HTh HO HB th x2
              obtain ⟨hv', rfl, Hsz', HX, HM, HTh, HO, HB⟩ := hcut
              have hsz' := Hsz'.out
              have th := HTh.out.cell hh4
              have fz := HTh.out.free h
              have HT2 : Hid (ThM (wc.setCell ⟨gt, h, none⟩ (.bool true)) gt (fun d => decide (d ∈ hsN hd (i + 1)))) := (HTh.out.set h hh4 true).of (fun d hd4 => by
                rw [HS1.out]; unfold upd
                by_cases e : d = h
                · subst e; simp
                · rw [if_neg e]; simp [e])
              generalize decide (h ∈ hsN hd i) = dh at *
              go_wp2_with fail
              go_roundw
              case rel => exact ⟨i + 1, hv', by omega, by go_num, by simp; omega, hideP2 (box_set HX.out (by omega)), hideP2 (HM.out.other (by omega)), HT2, hideP2 (ownsRow_setCell_below HO.out (a := ⟨gt, h, none⟩) (Nat.lt_succ_self gt) _), hideP2 (HB.out.setCell (by show w.heap.size ≤ gt; omega) _)⟩
              case measure => simp [intOf]; omega
          · obtain rfl : n = i := by omega
            have c1 : ¬ (n : Int) < (n : Int) := by omega
            obtain ⟨ha, hc, rfl⟩ := own_sliceN HO.out
            obtain ⟨ha', hc', e9, hcel⟩ := own_celT HO.out
            simp only [Value.slice.injEq] at e9
            obtain ⟨rfl, -, rfl⟩ := e9
            have HL3 : Hid (BL w wr gt wr.heap.size (.cells #[.slice la ln lc, .slice wa wn wk, .slice ra rn rc] 62 (0, 0)) lo hi hd n 0 (.slice none 0 0) (fun _ _ => false) ha hc []) := ⟨HX.out, HM.out, HTh.out, World.ownsRow_nil _ _ _ _, (fun x hx => by cases hx), hcel, HB.out, Nat.le_refl _, rfl, (fun x hx => by cases hx), (fun a b h => by cases h)⟩
            have hgtB : gt < wr.heap.size := hsz
            clear HX HM HTh HO HB hcel hsz hs1 hin hlt
            go_wp2_with fail
            generalize wr.heap.size = B3 at *
            go_loopw [11] (fun iv wr => ∃ (i : Nat) (rv : Value) (ov : Nat → Nat → Bool) (xs : List (FRule × Value × Value)), i ≤ n ∧ iv = .int .i64 i ∧ Hid (BL w wr gt B3 (.cells #[.slice la ln lc, .slice wa wn wk, .slice ra rn rc] 62 (0, 0)) lo hi hd n i rv ov ha hc xs)) (fun iv _ => n - (intOf iv).toNat)
            case atStart => exact ⟨0, _, _, _, Nat.zero_le _, rfl, HL3⟩
            case round =>
              clear HL3
              obtain ⟨i, rv, ov, xs, hin, rfl, HL⟩ := hrel
              by_cases hlt : i < n
              · have c2 : (i : Int) < (n : Int) := by omega
                have c3 : (i : Int) < (rn : Int) := by omega
                have x2 : wr.cell? ⟨w.heap.size, 2, none⟩ = some (.slice ra rn rc) := cell_row HL.out.box 2
                obtain ⟨g, o, rfl, hcs⟩ := (HR.out wr HL.out.bel).blk (by omega)
                obtain ⟨sa, sn, sc, ta, tn, tc, b, oi, ⟨r0, r1, r2, r3, r4⟩, f1, f2, f3, f4⟩ := hcs i (by omega)
                have HP1 := hideP2 (fun w' => kPick_s w' (hd i) 4 f1 (by decide) (by decide))
                obtain ⟨h, hh⟩ : ∃ h : Nat, pkI (hd i) 4 = (h : Int) := ⟨(pkI (hd i) 4).toNat, by have := pkI_bound (hd i) 4 (by decide); omega⟩
                have hh4 : h < 4 := by have := pkI_bound (hd i) 4 (by decide); omega
                have HS1 : Hid (hsN hd (i + 1) = hsN hd i ++ [h]) := by unfold Hid; rw [hsN_succ, hh]; rfl
                have HSi : Hid ((hsN hd n).getD i 0 = h) := by unfold Hid; simp [hsN, List.getD, hlt, hh]
                rw [hh] at HP1
                have HF3 := hideP2 f3
                have HF4 := hideP2 f4
                clear hcs hh f1 f3 f4
                have HL1 := hideP2 (HL.out.below ((Below.refl _ _).alloc (Nat.le_refl _) (.cells #[.int .i64 (hd i), .slice sa sn sc, .slice ta tn tc, .bool b, .int .i64 oi] 139)))
                have HXc : Hid ((wr.alloc (.cells #[.int .i64 (hd i), .slice sa sn sc, .slice ta tn tc, .bool b, .int .i64 oi] 139)).heap[wr.heap.size]? = some (.cells #[.int .i64 (hd i), .slice sa sn sc, .slice ta tn tc, .bool b, .int .i64 oi] 139 (0, 0))) := hb_end _ _
                have HF31 := hideP2 (HF3.out.below ((Below.refl _ _).alloc (Nat.le_refl _) (.cells #[.int .i64 (hd i), .slice sa sn sc, .slice ta tn tc, .bool b, .int .i64 oi] 139)))
                have HF41 := hideP2 (HF4.out.below ((Below.refl _ _).alloc (Nat.le_refl _) (.cells #[.int .i64 (hd i), .slice sa sn sc, .slice ta tn tc, .bool b, .int .i64 oi] 139)))
                have hsx : (wr.alloc (.cells #[.int .i64 (hd i), .slice sa sn sc, .slice ta tn tc, .bool b, .int .i64 oi] 139)).heap.size = wr.heap.size + 1 := by simp
                have HSx := hideP2 hsx
                have hgxB := HL.out.sz
                clear hsx
                go_upto_region 25 with fail
                refine (HP1.out _).mono ?_
                rintro e w4 ⟨rfl, hw⟩; obtain rfl := hw.symm
                clear r0 r1 r2 r3 r4 x2 HL HF3 HF4 HP1
                generalize wr.alloc (.cells #[.int .i64 (hd i), .slice sa sn sc, .slice ta tn tc, .bool b, .int .i64 oi] 139) = W1 at *
                generalize wr.heap.size = gx at *
                have HXT : Hid (CelT W1 139 (some ⟨gx, 0, none⟩) [.int .i64 (hd i), .slice sa sn sc, .slice ta tn tc, .bool b, .int .i64 oi]) := .inr ⟨gx, _, _, rfl, HXc.out, fun j _ => by rw [← List.getElem?_toArray]⟩
                have HTw := hideP2 (fun w' (hb : Below W1.heap.size W1 w') (d : Nat) (hd4 : d < 4) => (HL1.out.th.below hb).cell hd4)
                have HH4 : Hid ((headsOf (hsN hd n)).length ≤ 4) := headsOf_len (hsN_lt hd n)
                have hgtW := HL1.out.th.lt
                go_wp2_with fail
                go_loopw [14, 15] (fun lv dv w5 => ∃ (d : Nat), d ≤ h ∧ dv = .int .i64 (d : Int) ∧ Hid (Below W1.heap.size W1 w5) ∧ Hid (w5.ownsRow W1.heap.size 3 1 lv (lowOf (headsOf (hsN hd n)) d).length (lowC (lowOf (headsOf (hsN hd n)) d)))) (fun _ dv _ => h - (intOf dv).toNat)
                case atStart => exact ⟨0, Nat.zero_le _, rfl, hideP2 (Below.refl _ _), hideP2 (World.ownsRow_nil _ _ _ _)⟩
                case round =>
                  obtain ⟨d, hdh, rfl, HBd, HOd⟩ := hrel
                  obtain ⟨oa, oc, rfl⟩ := own_sliceN HOd.out
                  by_cases hltd : d < h
                  · have c4 : (d : Int) < (h : Int) := by omega
                    have c5 : (d : Int) < 4 := by omega
                    have th := HTw.out wr HBd.out d (by omega)
                    have hlen := lowOf_len (headsOf (hsN hd n)) d
                    by_cases hm : d ∈ hsN hd n
                    · have HE : Hid (lowOf (headsOf (hsN hd n)) (d + 1) = lowOf (headsOf (hsN hd n)) d ++ [d]) := by unfold Hid; rw [lowOf_succ, if_pos (headsOf_mem.2 hm)]
                      rw [decide_eq_true hm] at th
                      have hszd := HBd.out.size
                      clear hm
                      go_wp2_with (at_builtin; refine wpList_append_own _ rfl _ _ 59 rfl W1.heap.size 3 j0 _ 1 8 Tryz.underlying59 hj0 hy0 hy1 hy2 rfl (by decide) _ _ _ rfl (HOd.out.alloc _) ⟨wr.heap.size, 0, none⟩ 1 1 [.int .i64 (d : Int)] rfl rfl ?c1k1 ?c1k2 ?c1k3 ?c1k4 ?c1k5 ?_)
                      try (case c1k1 => exact news_cells _ _ _ _ rfl)
                      try (case c1k2 => intro u hu; simp at hu; rcases hu with rfl; rfl)
                      try (case c1k3 => unfold maxLen; omega)
                      try (case c1k4 => omega)
                      try (case c1k5 => simp; omega)
                      intro v6 w6 hown6 hgrow6 _
                      have HB6 : Hid (Below W1.heap.size W1 w6) := (HBd.out.alloc hszd _).grown hgrow6 (by simp; omega) (own_block_le HOd.out)
                      have HO6 : Hid (w6.ownsRow W1.heap.size 3 1 v6 (lowOf (headsOf (hsN hd n)) (d + 1)).length (lowC (lowOf (headsOf (hsN hd n)) (d + 1)))) := by unfold Hid; rw [HE.out, lowC_snoc, List.length_append]; exact hown6
                      clear hown6 hgrow6
                      go_wp2_with fail
                      go_roundw
                      case rel => exact ⟨d + 1, by omega, by go_num, HB6, HO6⟩
                      case measure => simp [intOf]; omega
                    · have HE : Hid (lowOf (headsOf (hsN hd n)) (d + 1) = lowOf (headsOf (hsN hd n)) d) := by unfold Hid; rw [lowOf_succ, if_neg (fun h1 => hm (headsOf_mem.1 h1))]
                      rw [decide_eq_false hm] at th
                      clear hm
                      go_wp2_with fail
                      go_roundw
                      case rel => exact ⟨d + 1, by omega, by go_num, HBd, by rw [HE.out]; exact HOd⟩
                      case measure => simp [intOf]; omega
                  · obtain rfl : h = d := by omega
                    have c4 : ¬ (h : Int) < (h : Int) := by omega
                    have HLd := hideP2 (HL1.out.below HBd.out)
                    have HXd := hideP2 (HXT.out.below HBd.out)
                    obtain ⟨oa', oc', e9, hlc, -, -⟩ := own_cel HOd.out
                    simp only [Value.slice.injEq] at e9
                    obtain ⟨rfl, -, rfl⟩ := e9
                    have hl4 : (lowOf (headsOf (hsN hd n)) h).length ≤ 4 := by have := lowOf_len (headsOf (hsN hd n)) h; omega
                    have HSu := hideP2 (fun w' (hb : Below wr.heap.size wr w') => fSum_s w' sa oa sn sc oc (lowOf (headsOf (hsN hd n)) h) ((HF31.out.below HBd.out).below hb) (hlc.below hb) hl4)
                    have HGu := hideP2 (fun w' (hb : Below wr.heap.size wr w') => fGuard_s w' ta oa tn tc oc (lowOf (headsOf (hsN hd n)) h) ((HF41.out.below HBd.out).below hb) (hlc.below hb) hl4)
                    have HCx := hideP2 (fun w' (hb : Below wr.heap.size wr w') => (show w'.cell? ⟨gx, 1, none⟩ = some (.slice sa sn sc) ∧ w'.cell? ⟨gx, 2, none⟩ = some (.slice ta tn tc) ∧ w'.cell? ⟨gx, 3, none⟩ = some (.bool b) by
                      have hc := (HXd.out.below hb).cel
                      obtain ⟨g1, e1, q1⟩ := hc.at (j := 1) rfl
                      obtain ⟨g2, e2, q2⟩ := hc.at (j := 2) rfl
                      obtain ⟨g3, e3, q3⟩ := hc.at (j := 3) rfl
                      obtain rfl : gx = g1 := by simpa using e1
                      obtain rfl : gx = g2 := by simpa using e2
                      obtain rfl : gx = g3 := by simpa using e3
                      exact ⟨q1, q2, q3⟩))
                    obtain ⟨q1, q2, q3⟩ := HCx.out wr (Below.refl _ _)
                    have lgx := cell_lt q1
                    have ngx : wr.heap.size ≠ gx := by omega
                    clear hlc HTw HF31 HF41 HXT HXc HL1
                    generalize hlw : lowOf (headsOf (hsN hd n)) h = low at *
                    have HLw := hideP2 hlw
                    clear hlw
                    go_upto_region 31 with fail
                    go_cut [16] from 112 to 123 (fun v16 wx => ∃ (gr : Nat) (ps : List FPart) (ts : List FTest) (pa qa : Option Addr) (pc qc : Nat), v16 = .pointer (some ⟨gr, 0, none⟩) ∧ Hid (wx.heap[gr]? = some (.cells #[.int .i64 (h : Int), .bool b, .slice pa ps.length pc, .slice qa ts.length qc] 145 (0, 0))) ∧ Hid (CelT wx 217 pa (ps.flatMap fpC)) ∧ Hid (CelT wx 221 qa (ts.flatMap ftC)) ∧ Hid (PartsOk low ps ∧ TestsOk low ts) ∧ Hid (Below wr.heap.size wr wx))
                    case first =>
                      have hzc : ∀ (w' : World) (gr : Nat), w'.heap[gr]? = some (.cells #[.int .i64 0, .bool false, .slice none 0 0, .slice none 0 0] 145 (0, 0)) → (w'.cell? ⟨gr, 0, none⟩ = some (.int .i64 0) ∧ w'.cell? ⟨gr, 1, none⟩ = some (.bool false) ∧ w'.cell? ⟨gr, 2, none⟩ = some (.slice none 0 0) ∧ w'.cell? ⟨gr, 3, none⟩ = some (.slice none 0 0)) ∧ ∀ k, w'.frozen? ⟨gr, k, none⟩ = false := fun w' gr hz => ⟨⟨cell_row hz 0, cell_row hz 1, cell_row hz 2, cell_row hz 3⟩, fun k => by simp [World.frozen?, hz]⟩
                      have HZc := hideP2 hzc
                      clear hzc
                      go_region_held3 (fun w' => w'.cell? ⟨gx, 1, none⟩ = some (.slice sa sn sc) ∧ w'.cell? ⟨gx, 2, none⟩ = some (.slice ta tn tc) ∧ w'.cell? ⟨gx, 3, none⟩ = some (.bool b)) (go_keep) (first
                        | (go_at_call 52; refine (HSu.out _ (Below.drew (Below.refl _ _))).mono ?_; rintro e w6 ⟨ps, v6, rfl, hps, ho6, hb6⟩; obtain ⟨pa, pc, rfl, hcp⟩ := own_celT ho6; have hB6 : Below wr.heap.size wr w6 := (Below.drew (Below.refl _ _)).trans hb6; obtain ⟨q1, q2, q3⟩ := HCx.out w6 hB6; have n6 : w6.heap.size ≠ gx := by have := hB6.size; omega)
                        | (go_at_call 52; refine (HSu.out _ (Below.drew ((Below.refl _ _).alloc (Nat.le_refl _) (.cells #[.int .i64 0, .bool false, .slice none 0 0, .slice none 0 0] 145)))).mono ?_; rintro e w6 ⟨ps, v6, rfl, hps, ho6, hb6⟩; obtain ⟨pa, pc, rfl, hcp⟩ := own_celT ho6; have hB6 : Below wr.heap.size wr w6 := (Below.drew ((Below.refl _ _).alloc (Nat.le_refl _) _)).trans (hb6.mono (Nat.le_of_lt (lt_end _ _))); obtain ⟨q1, q2, q3⟩ := HCx.out w6 hB6; have hZ6 : w6.heap[wr.heap.size]? = some (.cells #[.int .i64 0, .bool false, .slice none 0 0, .slice none 0 0] 145 (0, 0)) := (hb6.block _ (lt_end _ _)).trans (hb_drew (hb_end _ _)))
                        | (go_at_call 53; refine (HGu.out _ hB6).mono ?_; rintro e w7 ⟨ts, v7, rfl, hts, ho7, hb7⟩; obtain ⟨qa, qc, rfl, hcq⟩ := own_celT ho7; have hB7 : Below wr.heap.size wr w7 := hB6.trans (hb7.mono hB6.size); obtain ⟨q1, q2, q3⟩ := HCx.out w7 hB7; have hcp7 := hcp.below hb7; first | (have hZ7 := (hb7.block _ (hlt_of hZ6)).trans hZ6; obtain ⟨⟨z0, z1, z2, z3⟩, zf⟩ := HZc.out w7 _ hZ7; have zf0 := zf 0; have zf1 := zf 1; have zf2 := zf 2; have zf3 := zf 3; clear hZ6) | (have n7 : w7.heap.size ≠ gx := by have := hB7.size; omega))
                        | (go_at_call 53; refine (HGu.out _ (hB6.alloc hB6.size (.cells #[.int .i64 0, .bool false, .slice none 0 0, .slice none 0 0] 145))).mono ?_; rintro e w7 ⟨ts, v7, rfl, hts, ho7, hb7⟩; obtain ⟨qa, qc, rfl, hcq⟩ := own_celT ho7; have hB7 : Below wr.heap.size wr w7 := (hB6.alloc hB6.size _).trans (hb7.mono (Nat.le_trans hB6.size (Nat.le_of_lt (lt_end _ _)))); obtain ⟨q1, q2, q3⟩ := HCx.out w7 hB7; have hcp7 := (hcp.below ((Below.refl _ _).alloc (Nat.le_refl _) (.cells #[.int .i64 0, .bool false, .slice none 0 0, .slice none 0 0] 145))).below hb7; have hZ7 : w7.heap[w6.heap.size]? = some (.cells #[.int .i64 0, .bool false, .slice none 0 0, .slice none 0 0] 145 (0, 0)) := (hb7.block _ (lt_end _ _)).trans (hb_end _ _); obtain ⟨⟨z0, z1, z2, z3⟩, zf⟩ := HZc.out w7 _ hZ7; have zf0 := zf 0; have zf1 := zf 1; have zf2 := zf 2; have zf3 := zf 3))
                      all_goals
                        go_wp2_with fail
                        go_meet
                        first
                          | exact ⟨_, ps, ts, pa, qa, pc, qc, rfl, hideP2 (set4 hZ7), hideP2 (celT_set4 hcp7 hZ7 (by decide)), hideP2 (celT_set4 hcq hZ7 (by decide)), hideP2 ⟨hps, hts⟩, hideP2 (below_set4 hB7 (by first | exact Nat.le_refl _ | exact hB6.size))⟩
                          | exact ⟨_, ps, ts, pa, qa, pc, qc, rfl, hideP2 (hb_end _ _), hideP2 (hcp7.below ((Below.refl _ _).alloc (Nat.le_refl _) _)), hideP2 (hcq.below ((Below.refl _ _).alloc (Nat.le_refl _) _)), hideP2 ⟨hps, hts⟩, hideP2 (hB7.alloc hB7.size _)⟩
                    case rest =>
                      clear q1 q2 q3 ngx lgx HSu HGu HCx HOd HBd
                      obtain ⟨gr, ps, ts, pa, qa, pc, qc, rfl, HXr, HCp, HCq, HPt, HBc⟩ := hcut
                      have HLc := hideP2 (HLd.out.below HBc.out)
                      have HXx := hideP2 (HXd.out.below HBc.out)
                      obtain ⟨ra9, rc9, rfl⟩ := own_sliceN HLc.out.own
                      have hx1 : FRulV wc (⟨h, b, ps, ts⟩, .slice pa ps.length pc, .slice qa ts.length qc) := ⟨⟨pa, pc, rfl, HCp.out⟩, qa, qc, rfl, HCq.out⟩
                      have hk1 : RuleOk (headsOf (hsN hd n)) ⟨h, b, ps, ts⟩ := ⟨hh4, by show PartsOk (lowOf (headsOf (hsN hd n)) h) ps; rw [HLw.out]; exact HPt.out.1, by show TestsOk (lowOf (headsOf (hsN hd n)) h) ts; rw [HLw.out]; exact HPt.out.2⟩
                      have HAp := hideP2 (fun (wz w9 : World) (v : Value) (hz : Below wc.heap.size wc wz) (hg : wz.grownBy w9 (Value.slice ra9 i rc9).ownBlock) (hown : w9.ownsRow B3 145 4 v (i + 1) (xs.flatMap frC ++ frC (⟨h, b, ps, ts⟩, .slice pa ps.length pc, .slice qa ts.length qc))) => BL.app HLc.out hlt1 hgtB hx1 hk1 HS1.out hz hg hown)
                      have HXg := hideP2 (fun (wz w9 : World) (hz : Below wc.heap.size wc wz) (hg : wz.grownBy w9 (Value.slice ra9 i rc9).ownBlock) => (HXx.out.below hz).grown (owns_below HLc.out.own hz) (by decide) hg)
                      have HO9 := hideP2 HLc.out.own
                      have hszB := HLc.out.sz
                      have m6 := HLc.out.mad.cells.2.2.1
                      have mfz := HLc.out.mad.free 6
                      have q0 : wc.cell? ⟨gr, 0, none⟩ = some (.int .i64 (h : Int)) := cell_row HXr.out 0
                      have q1 : wc.cell? ⟨gr, 1, none⟩ = some (.bool b) := cell_row HXr.out 1
                      have q2 : wc.cell? ⟨gr, 2, none⟩ = some (.slice pa ps.length pc) := cell_row HXr.out 2
                      have q3 : wc.cell? ⟨gr, 3, none⟩ = some (.slice qa ts.length qc) := cell_row HXr.out 3
                      have lgr := hlt_of HXr.out
                      have lgm := HLc.out.mad.lt
                      have n8 : wc.heap.size ≠ w.heap.size + 1 := by omega
                      have n9 : wc.heap.size ≠ gr := by omega
                      clear hx1 hk1
                      go_upto_region 32 with fail
                      go_cut [16] from 124 to 133 (fun v16 wx => ∃ (gg cap : Nat), v16 = .pointer (some ⟨gr, 0, none⟩) ∧ Hid (BL w wx gt B3 (.cells #[.slice la ln lc, .slice wa wn wk, .slice (some ⟨g, o, none⟩) rn rc] 62 (0, 0)) lo hi hd n (i + 1) (.slice (some ⟨gg, 0, none⟩) (i + 1) cap) ov ha hc (xs ++ [((⟨h, b, ps, ts⟩ : FRule), .slice pa ps.length pc, .slice qa ts.length qc)])) ∧ Hid (CelT wx 139 (some ⟨gx, 0, none⟩) [.int .i64 (hd i), .slice sa sn sc, .slice ta tn tc, .bool b, .int .i64 oi]))
                      case first =>
                        go_region_law ((refine step_append_lies _ (by rfl) _ _ _ (by rfl) B3 145 i0 _ 4 64 Tryz.underlying131 hi0 hz0 hz1 hz2 rfl (by decide) (.slice ra9 i rc9) i (xs.flatMap frC) (by rfl) (HO9.out.drew.alloc _) ⟨wc.heap.size, 0, none⟩ 1 1 [.int .i64 (h : Int), .bool b, .slice pa ps.length pc, .slice qa ts.length qc] (by rfl) (by rfl) (news_cells _ _ _ _ rfl) (by simp [Value.oneCell']) (by decide) (by unfold maxLen; omega) (by omega) (by simp; omega) (wc.heap.size + 1) (by simp) ?_; intro gg cap w9 hown1 hgrow hat hlt9; obtain ⟨hM9, hL9⟩ := HAp.out _ w9 _ (((Below.refl _ _).drew).alloc (Nat.le_refl _) _) hgrow hown1; have m6' := hM9.cells.2.2.1; have mfz' := hM9.free 6; have hX9 := HXg.out _ w9 (((Below.refl _ _).drew).alloc (Nat.le_refl _) _) hgrow; obtain ⟨cs9, mb9, -⟩ := hM9.blk))
                        all_goals
                          have HL9 := hideP2 hL9
                          have HX9 := hideP2 (hX9.set mb9 (by decide) (j := 6) (u := .slice (some ⟨gg, 0, none⟩) (i + 1) cap))
                          clear hL9 hX9 mb9 hM9 hown1 hgrow
                          go_wp2_with fail
                          go_meet
                          exact ⟨gg, cap, rfl, HL9, HX9⟩
                      case rest =>
                        clear q0 q1 q2 q3 m6 mfz HLc HXx HAp HXg HO9 HXr HCp HCq HBc HLd HXd HPt
                        obtain ⟨gg, cap, rfl, HL5, HX5⟩ := hcut
                        generalize hxs : xs ++ [((⟨h, b, ps, ts⟩ : FRule), Value.slice pa ps.length pc, Value.slice qa ts.length qc)] = xs2 at *
                        generalize Value.slice (some ⟨gg, 0, none⟩) (i + 1) cap = rv2 at *
                        clear hxs
                        go_wp2_with fail
                        go_loopw [17] (fun jv w6 => ∃ (j : Nat) (ov2 : Nat → Nat → Bool), i + 1 ≤ j ∧ j ≤ n ∧ jv = .int .i64 (j : Int) ∧ Hid (BL w w6 gt B3 (.cells #[.slice la ln lc, .slice wa wn wk, .slice (some ⟨g, o, none⟩) rn rc] 62 (0, 0)) lo hi hd n (i + 1) rv2 ov2 ha hc xs2) ∧ Hid (CelT w6 139 (some ⟨gx, 0, none⟩) [.int .i64 (hd i), .slice sa sn sc, .slice ta tn tc, .bool b, .int .i64 oi])) (fun jv _ => n - (intOf jv).toNat)
                        case atStart => exact ⟨i + 1, ov, Nat.le_refl _, by omega, by go_num, HL5, HX5⟩
                        case round =>
                          clear HL5 HX5
                          obtain ⟨j, ov2, hj1, hj2, rfl, HL6, HX6⟩ := hrel
                          by_cases hltj : j < n
                          · have c6 : (j : Int) < (n : Int) := by omega
                            have c7 : (j : Int) < (rn : Int) := by omega
                            have x2 : wr.cell? ⟨w.heap.size, 2, none⟩ = some (.slice (some ⟨g, o, none⟩) rn rc) := cell_row HL6.out.box 2
                            obtain ⟨g', o', e9, hcs⟩ := (HR.out wr HL6.out.bel).blk (by omega)
                            simp only [Option.some.injEq, Addr.mk.injEq, and_true] at e9
                            obtain ⟨rfl, rfl⟩ := e9
                            obtain ⟨_, _, _, _, _, _, _, _, ⟨r0, -⟩, f1, -⟩ := hcs j (by omega)
                            have HP1 := hideP2 (kPick_s wr (hd j) 4 f1 (by decide) (by decide))
                            obtain ⟨k, hk⟩ : ∃ k : Nat, pkI (hd j) 4 = (k : Int) := ⟨(pkI (hd j) 4).toNat, by have := pkI_bound (hd j) 4 (by decide); omega⟩
                            have HSj : Hid ((hsN hd n).getD j 0 = k) := by unfold Hid; simp [hsN, List.getD, hltj, hk]
                            rw [hk] at HP1
                            clear hcs hk f1
                            go_wp2_with fail
                            refine HP1.out.mono ?_
                            rintro e w4 ⟨rfl, hw⟩; obtain rfl := hw.symm
                            clear r0 x2 HP1
                            obtain ⟨gx', ex, x4⟩ := HX6.out.cel.at (j := 4) rfl
                            obtain rfl : gx = gx' := by simpa using ex
                            have hi8 : i < 8 := by omega
                            have hj8 : j < 8 := by omega
                            have i8 : (i : Int) < 8 := by omega
                            have j8 : (j : Int) < 8 := by omega
                            have mo := HL6.out.mad.cells.2.2.2.1 i j hi8 hj8
                            have mfz := HL6.out.mad.free (7 + i * 8 + j)
                            have HSt := hideP2 (fun (v : Bool) (hv : v = true → k = h) => HL6.out.setO hlt1 hgtB hi8 hj8 v (fun e => ⟨by omega, hltj, by rw [HSi.out, HSj.out]; exact (hv e).symm⟩))
                            obtain ⟨cs9, mb9, -⟩ := HL6.out.mad.blk
                            have HXs := hideP2 (fun v => HX6.out.set mb9 (by decide) (j := 7 + i * 8 + j) (u := Value.bool v))
                            clear mb9 ex
                            have nx : w.heap.size + 1 ≠ gx := by omega
                            by_cases hkh : k = h
                            · have b0 : ((k : Int) == (h : Int)) = true := by rw [beq_iff_eq]; omega
                              have HK := hideP2 hkh
                              clear hkh
                              go_upto_region 37 with fail
                              go_region_held3 (fun w' => w'.cell? ⟨gx, 4, none⟩ = some (.int .i64 oi)) (go_keep) (fail)
                              all_goals
                                generalize (bits BinOp.and IntKind.i64 (oi / 2 ^ j) 1 == 1) = bv at *
                                have HL7 := hideP2 ((HSt.out bv (fun _ => HK.out)).below (Below.drew (Below.refl _ _)))
                                have HX7 := hideP2 ((HXs.out bv).below (Below.drew (Below.refl _ _)))
                                clear HSt HXs HL6 HX6 mo mfz x4
                                go_wp2_with fail
                                go_roundw
                                case rel => exact ⟨j + 1, _, by omega, by omega, by go_num, HL7, HX7⟩
                                case measure => simp [intOf]; omega
                            · have b0 : ((k : Int) == (h : Int)) = false := by rw [beq_eq_false_iff_ne]; omega
                              have b1 : (k == h) = false := by rw [beq_eq_false_iff_ne]; exact hkh
                              have b2 : ¬ (k : Int) = (h : Int) := by omega
                              go_upto_region 37 with fail
                              go_region
                              all_goals
                                have HL7 := hideP2 ((HSt.out false (fun e => by cases e)).below (Below.drew (Below.refl _ _)))
                                have HX7 := hideP2 ((HXs.out false).below (Below.drew (Below.refl _ _)))
                                clear HSt HXs HL6 HX6 mo mfz x4
                                go_wp2_with fail
                                go_roundw
                                case rel => exact ⟨j + 1, _, by omega, by omega, by go_num, HL7, HX7⟩
                                case measure => simp [intOf]; omega
                          · have c6 : ¬ (j : Int) < (n : Int) := by omega
                            go_wp2_with fail
                            go_roundw
                            case rel => exact ⟨i + 1, rv2, ov2, xs2, by omega, by go_num, HL6⟩
                            case measure => simp [intOf]; omega
              · obtain rfl : n = i := by omega
                have c2 : ¬ (n : Int) < (n : Int) := by omega
                obtain ⟨ra9, rc9, rfl⟩ := own_sliceN HL.out.own
                have HQ : Hid (∃ g M, Ending.returned (.pointer (some ⟨w.heap.size + 1, 0, none⟩)) = .returned (.pointer (some ⟨g, 0, none⟩)) ∧ MadeOk M ∧ MadeV wr g M ∧ Below w.heap.size w wr) := by
                  have hl : (xs.map Prod.fst).map FRule.head = hsN hd n := by rw [List.map_map]; exact HL.out.len
                  have hln : (xs.map Prod.fst).length = n := by have := congrArg List.length HL.out.len; simpa [hsN] using this
                  obtain ⟨ra8, rc8, e8, hcr⟩ := own_celT HL.out.own
                  simp only [Value.slice.injEq] at e8
                  obtain ⟨rfl, -, rfl⟩ := e8
                  refine ⟨w.heap.size + 1, ⟨lo, hi, xs.map Prod.fst, ov, headsOf (hsN hd n)⟩, rfl, ⟨HN3.out, by show (xs.map Prod.fst).length ≤ 8; omega, by show headsOf (hsN hd n) = _; rw [hl], fun r hr => ?_, fun a b h => ?_⟩, ⟨ra9, ha, rc9, hc, xs, rfl, ?_, hcr, HL.out.rows, HL.out.hds⟩, HL.out.bel⟩
                  · obtain ⟨x, hx, rfl⟩ := List.mem_map.1 hr
                    exact HL.out.oks x hx
                  · show a < b ∧ b < (xs.map Prod.fst).length ∧ ((xs.map Prod.fst).map FRule.head).getD a 0 = ((xs.map Prod.fst).map FRule.head).getD b 0
                    rw [hl, hln]; exact HL.out.ovr a b h
                  · show MadM wr (w.heap.size + 1) lo hi (.slice ra9 (xs.map Prod.fst).length rc9) ov (.slice ha (headsOf (hsN hd n)).length hc)
                    rw [hln]; exact HL.out.mad
                clear HL
                obtain ⟨g9, M, e9, h1, h2, h3⟩ := HQ.out
                obtain rfl : w.heap.size + 1 = g9 := by simpa using e9
                have HM9 := hideP2 (And.intro h1 (And.intro h2 h3))
                clear e9 h1 h2 h3 HQ
                go_wp2_with fail
                go_ret
                first | exact ⟨_, M, rfl, HM9.out⟩ | exact ⟨_, rfl, M, HM9.out⟩
end Go.Proofs.YtnbpdffdnphbeaaGreatDoor
