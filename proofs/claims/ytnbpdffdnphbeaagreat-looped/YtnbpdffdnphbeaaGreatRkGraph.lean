/- What the program's graph tells of levels. -/
import Derived.Test.YtnbpdffdnphbeaaGreatRgGraph
namespace Go.Proofs.YtnbpdffdnphbeaaGreat
open Go.RowKit

def lC (S : List Nat) : Array Value := (intC S).toArray
def lZ : List Nat := List.replicate 8 0
theorem lC_size (S : List Nat) : (lC S).size = S.length := by simp [lC, intC]
theorem lC_one (S : List Nat) : (lC S).all (·.oneCell') = true := by simp [lC, intC, Value.oneCell']
theorem lC_get {S : List Nat} {k : Nat} (h : k < S.length) : (lC S)[k]? = some (.int .i64 ((S.getD k 0 : Nat) : Int)) := by
  simp [lC, intC, List.getD, h]
/-- Levels lie in block g. -/
def LvM (w : World) (g : Nat) (S : List Nat) : Prop := w.heap[g]? = some (.cells (lC S) 154 (0, 0)) ∧ S.length = 8
theorem LvM.cell {w : World} {g : Nat} {S : List Nat} (h : LvM w g S) {k : Nat} (hk : k < 8) : w.cell? ⟨g, k, none⟩ = some (.int .i64 ((S.getD k 0 : Nat) : Int)) := by
  simp only [World.cell?, h.1]
  exact lC_get (by rw [h.2]; exact hk)
theorem LvM.free {w : World} {g : Nat} {S : List Nat} (h : LvM w g S) (k : Nat) : w.frozen? ⟨g, k, none⟩ = false := by simp [World.frozen?, h.1]
theorem LvM.set {w : World} {g : Nat} {S : List Nat} (h : LvM w g S) (k v : Nat) : LvM (w.setCell ⟨g, k, none⟩ (.int .i64 (v : Nat))) g (S.set k v) := by
  refine ⟨?_, by rw [List.length_set]; exact h.2⟩
  rw [setCell_eq_setRow w g k _ _ _ _ h.1]
  have := setRow_heap w g (lC S) ((lC S).setIfInBounds k (.int .i64 (v : Nat))) _ _ h.1
  rw [this]
  congr 2
  simp [lC, intC, List.map_set]
theorem lInfo : (Tryz.prog.info? 154).map (·.size) = some 8 := by kernel_rfl
theorem lInfoC {S : List Nat} (h : S.length = 8) : (Tryz.prog.info? 154).map (·.size) = some (lC S).size := by rw [lC_size, h]; exact lInfo

set_option maxRecDepth 100000 in
set_option maxHeartbeats 2000000 in
theorem levelAbove_s (w : World) (g : Nat) (G : List Bool) (S : List Nat) (a : Nat) (ha : a < 8) (h : GrM w g G) (hS : S.length = 8) (hm : ∀ z, z < 8 → S.getD z 0 ≤ 100) :
    Calls Tryz.prog 99 #[.pointer (some ⟨g, 0, none⟩), .agg (lC S), .int .i64 a] w fun e w' => e = .returned (.int .i64 (mxG (gA G a) (fun z => S.getD z 0) 8 0 0 : Nat)) ∧ Below w.heap.size w w' := by
  have HSm : Hid (LvM (w.alloc (.cells (lC S) 154)) w.heap.size S) := ⟨hb_end _ _, hS⟩
  have HGm : Hid (GrM (w.alloc (.cells (lC S) 154)) g G) := h.new _
  have HBl : Hid (Below w.heap.size w (w.alloc (.cells (lC S) 154))) := (Below.refl _ _).alloc (Nat.le_refl _) _
  have HMx := hideP2 hm
  clear h hS hm
  go_enter Tryz.func99, Tryz.ntmps99
  go_wp2_with fail
  generalize w.alloc (.cells (lC S) 154) = w1 at *
  generalize hb : w.heap.size = b at *
  have HB := hideP2 hb
  clear hb
  go_loop [7, 8] (fun lv kv => ∃ (k acc : Nat), k ≤ 8 ∧ acc ≤ 101 ∧ lv = .int .i64 acc ∧ kv = .int .i64 k ∧ Hid (mxG (gA G a) (fun z => S.getD z 0) (8 - k) k acc = mxG (gA G a) (fun z => S.getD z 0) 8 0 0)) (fun _ kv => 8 - (intOf kv).toNat)
  case atStart => exact ⟨0, 0, by omega, by omega, rfl, rfl, hideP2 rfl⟩
  case round =>
    obtain ⟨k, acc, hk, hacc, rfl, rfl, HE⟩ := hrel
    by_cases hlt : k < 8
    · have c1 := HGm.out.cell (k := a * 8 + k) (by omega)
      have c2 := HSm.out.cell (k := k) hlt
      have hmx := HMx.out k hlt
      have hE := HE.out
      rw [show 8 - k = (8 - (k + 1)) + 1 by omega, mxG, show gA G a k = G.getD (a * 8 + k) false from rfl] at hE
      have HE2 : Hid (mxG (gA G a) (fun z => S.getD z 0) (8 - (k + 1)) (k + 1) (if G.getD (a * 8 + k) false && decide (acc ≤ S.getD k 0) then S.getD k 0 + 1 else acc) = mxG (gA G a) (fun z => S.getD z 0) 8 0 0) := hE
      clear HE hE
      generalize G.getD (a * 8 + k) false = z1 at *
      generalize S.getD k 0 = s at *
      cases z1
      · have HE3 : Hid (mxG (gA G a) (fun z => S.getD z 0) (8 - (k + 1)) (k + 1) acc = mxG (gA G a) (fun z => S.getD z 0) 8 0 0) := HE2.out
        clear HE2
        go_wp2_with fail
        go_round
        case rel => exact ⟨k + 1, acc, by omega, hacc, rfl, by go_num, HE3⟩
        case measure => simp [intOf]; omega
      · by_cases k1 : acc ≤ s
        · have HE3 : Hid (mxG (gA G a) (fun z => S.getD z 0) (8 - (k + 1)) (k + 1) (s + 1) = mxG (gA G a) (fun z => S.getD z 0) 8 0 0) := by have := HE2.out; rw [decide_eq_true k1] at this; exact this
          have i1 : (acc : Int) ≤ (s : Int) := by omega
          clear HE2
          go_wp2_with fail
          go_round
          case rel => exact ⟨k + 1, s + 1, by omega, by omega, by go_num, by go_num, HE3⟩
          case measure => simp [intOf]; omega
        · have HE3 : Hid (mxG (gA G a) (fun z => S.getD z 0) (8 - (k + 1)) (k + 1) acc = mxG (gA G a) (fun z => S.getD z 0) 8 0 0) := by have := HE2.out; rw [decide_eq_false k1] at this; exact this
          have i1 : ¬ (acc : Int) ≤ (s : Int) := by omega
          clear HE2
          go_wp2_with fail
          go_round
          case rel => exact ⟨k + 1, acc, by omega, hacc, rfl, by go_num, HE3⟩
          case measure => simp [intOf]; omega
    · have HE3 : Hid (acc = mxG (gA G a) (fun z => S.getD z 0) 8 0 0) := by have := HE.out; rw [show 8 - k = 0 by omega] at this; exact this
      clear HE
      go_wp2_with fail
      go_ret
      exact ⟨ret_int (congrArg (fun n : Nat => (n : Int)) HE3.out), by rw [HB.out]; exact HBl.out⟩

/-- The state of Levels: the numbers that are being set, those that are handed back. -/
structure LvSt (w w' : World) (S : List Nat) : Prop where
  lv : LvM w' (w.heap.size + 1) S
  res : w'.heap[w.heap.size]? = some (.cells (lC lZ) 154 (0, 0))
  bel : Below w.heap.size w w'
theorem LvSt.set {w w' : World} {S : List Nat} (h : LvSt w w' S) (k v : Nat) : LvSt w (w'.setCell ⟨w.heap.size + 1, k, none⟩ (.int .i64 (v : Nat))) (S.set k v) :=
  ⟨h.lv.set k v, hb_set h.res (by omega), h.bel.setCell (p := ⟨w.heap.size + 1, k, none⟩) (by show w.heap.size ≤ w.heap.size + 1; omega) _⟩
theorem LvM.lt {w : World} {g : Nat} {S : List Nat} (h : LvM w g S) : g < w.heap.size := by
  rcases Nat.lt_or_ge g w.heap.size with h1 | h1
  · exact h1
  · have h2 := h.1; rw [Array.getElem?_eq_none h1] at h2; cases h2
theorem LvSt.keep {w w' w'' : World} {S : List Nat} (h : LvSt w w' S) (hb : Below w'.heap.size w' w'') : LvSt w w'' S :=
  ⟨⟨by rw [hb.block _ h.lv.lt]; exact h.lv.1, h.lv.2⟩, by rw [hb.block _ (Nat.lt_of_succ_lt h.lv.lt)]; exact h.res, h.bel.trans (hb.mono h.bel.size)⟩
theorem lZ_get (z : Nat) : lZ.getD z 0 = 0 := by
  unfold lZ
  by_cases h : z < 8
  · simp only [List.getD, List.getElem?_replicate, h, if_true, Option.getD_some]
  · simp only [List.getD, List.getElem?_replicate, h, if_false, Option.getD_none]

set_option maxRecDepth 100000 in
set_option maxHeartbeats 4000000 in
theorem GLevels_s (w : World) (g : Nat) (G : List Bool) (h : GrM w g G) :
    Calls Tryz.prog 85 #[.pointer (some ⟨g, 0, none⟩)] w fun e w' => e = .returned (.agg (lC (levelsB G))) ∧ Below w.heap.size w w' := by
  have HG := hideP2 h
  have hg := h.lt
  clear h
  go_enter Tryz.func85, Tryz.ntmps85
  go_upto_region 1 with fail
  go_cut [3] from 6 to 7 (fun p3 wx => p3 = .pointer (some ⟨w.heap.size + 1, 0, none⟩) ∧ Hid (LvSt w wx lZ))
  case first =>
    go_wp2_with fail
    go_meet
    refine ⟨rfl, ⟨⟨heap_alloc2_new w _ _, rfl⟩, hb_new (hb_end _ _), ?_⟩⟩
    exact ((Below.refl _ _).alloc (Nat.le_refl _) _).alloc (Nat.le_of_lt (lt_end _ _)) _
  case rest =>
    obtain ⟨rfl, HC⟩ := hcut
    go_wp2_with fail
    go_loopw [4] (fun v4 wr => ∃ (r : Nat) (S : List Nat), 1 ≤ r ∧ r ≤ 8 ∧ v4 = .int .i64 r ∧ Hid (LvSt w wr S) ∧ Hid (∀ z, z < 8 → S.getD z 0 ≤ (r - 1) * 8) ∧ Hid (rdsG G (8 - r) S = levelsB G)) (fun v4 _ => 8 - (intOf v4).toNat)
    case atStart => exact ⟨1, lZ, by omega, by omega, rfl, HC, hideP2 (fun z _ => by rw [lZ_get]; exact Nat.zero_le _), hideP2 rfl⟩
    case round =>
      obtain ⟨r, S, hr1, hr8, rfl, HCr, HMr, HE⟩ := hrel
      clear HC
      by_cases hlt : r < 8
      · have HE2 : Hid (rdsG G (8 - (r + 1)) (rdG G 8 0 S) = levelsB G) := by have := HE.out; rw [show 8 - r = (8 - (r + 1)) + 1 by omega, rdsG] at this; exact this
        obtain ⟨wm, rfl⟩ : ∃ wm, wm = wr := ⟨_, rfl⟩
        have i1 : (r : Int) < 8 := by omega
        clear HE
        go_wp2_with fail
        go_loopw [5] (fun v5 wr => ∃ (a : Nat) (S' : List Nat), a ≤ 8 ∧ v5 = .int .i64 a ∧ Hid (LvSt w wr S') ∧ Hid (∀ z, z < 8 → S'.getD z 0 ≤ (r - 1) * 8 + a) ∧ Hid (rdG G (8 - a) a S' = rdG G 8 0 S)) (fun v5 _ => 8 - (intOf v5).toNat)
        case atStart => exact ⟨0, S, by omega, rfl, HCr, HMr, hideP2 rfl⟩
        case round =>
          obtain ⟨a, S', ha, rfl, HCa, HMa, HEa⟩ := hrel
          by_cases hlta : a < 8
          · have hE := HEa.out
            rw [show 8 - a = (8 - (a + 1)) + 1 by omega, rdG] at hE
            have hgr : GrM wr g G := ⟨by rw [HCa.out.bel.block g hg]; exact HG.out.1, HG.out.2⟩
            have HCl := hideP2 (levelAbove_s wr g G S' a hlta hgr HCa.out.lv.2 (fun z hz => by have := HMa.out z hz; omega))
            have hbd : mxG (gA G a) (fun z => S'.getD z 0) 8 0 0 ≤ (r - 1) * 8 + (a + 1) := by
              have := mx_bound (gA G a) (fun z => S'.getD z 0) ((r - 1) * 8 + a) 8 0 0 (Nat.zero_le _) (fun z _ hz => HMa.out z (by omega)); omega
            have HE3 := hideP2 hE
            clear hE HEa hgr
            generalize mxG (gA G a) (fun z => S'.getD z 0) 8 0 0 = m at *
            have i2 : (a : Int) < 8 := by omega
            have hcell := HCa.out.lv.cell hlta
            go_wp2_with (refine wpList_load_row ?hgd 154 (.tmp 3) ?ho (w.heap.size + 1) ?hx 154 (lC S') (0, 0) _ HCa.out.lv.1 Tryz.underlying154 rfl (lInfoC HCa.out.lv.2) ?_
                         case ho => rfl
                         case hgd => rfl
                         case hx => rfl)
            refine HCl.out.mono ?_
            rintro e w1 ⟨rfl, hb1⟩
            have HC1 := hideP2 (HCa.out.keep hb1)
            clear hb1 hcell
            have c3 := HC1.out.lv.cell hlta
            have hfz := HC1.out.lv.free a
            go_wp2_with fail
            go_roundw
            case rel => exact ⟨a + 1, S'.set a m, by omega, by go_num, hideP2 (HC1.out.set a m), hideP2 (fun z hz => by
              rw [getD_setN S' a m z (by rw [HCa.out.lv.2]; exact hlta)]
              split
              · exact hbd
              · have := HMa.out z hz; omega), HE3⟩
            case measure => simp [intOf]; omega
          · obtain rfl : a = 8 := by omega
            have HE4 : Hid (rdsG G (8 - (r + 1)) S' = levelsB G) := by have h1 := HEa.out; have h2 : S' = rdG G 8 0 S := h1; unfold Hid; rw [h2]; exact HE2.out
            clear HEa HE2
            go_wp2_with fail
            go_roundw
            case rel => exact ⟨r + 1, S', by omega, by omega, by go_num, HCa, hideP2 (fun z hz => by have := HMa.out z hz; omega), HE4⟩
            case measure => simp [intOf]; omega
      · obtain rfl : r = 8 := by omega
        have HE5 : Hid (S = levelsB G) := HE.out
        clear HE
        go_wp2_with (first
          | (refine wpList_load_row ?hgd 154 (.tmp 3) ?ho (w.heap.size + 1) ?hx 154 (lC S) (0, 0) _ HCr.out.lv.1 Tryz.underlying154 rfl (lInfoC HCr.out.lv.2) ?_
             case ho => rfl
             case hgd => rfl
             case hx => rfl)
          | (refine wpList_store_row ?hgd 154 (.tmp 2) (.tmp 21) ?ho w.heap.size (lC S) ?hx ?hy 154 (lC lZ) HCr.out.res (lInfoC HCr.out.lv.2) ?hold (lC_one S) ?_
             case ho => rfl
             case hgd => rfl
             case hx => rfl
             case hy => rfl
             case hold => rw [lC_size, lC_size, HCr.out.lv.2]; rfl))
        refine bodyPost_ret (v := .agg (lC S)) (results_cell_row Tryz.results85 _ _ w.heap.size 154 (lC S) (0, 0) _ rfl (setRow_heap _ _ (lC lZ) _ _ _ HCr.out.res) Tryz.underlying154 rfl (lInfoC HCr.out.lv.2)) rfl ⟨by rw [HE5.out], below_row HCr.out.bel (Nat.le_refl _) _⟩
end Go.Proofs.YtnbpdffdnphbeaaGreat

/- A ring that the program's links tell of lines that lie in memory. -/
namespace Go.Proofs.YtnbpdffdnphbeaaGreat
open Go.RowKit

/-- The names of points. -/
def pickG (names : List Bs) : List Nat → List Bs → List Bs
  | [], acc => acc
  | p :: r, acc => pickG names r (if p < names.length then acc ++ [names.getD p []] else acc)
def pickB (names : List Bs) (pts : List Nat) : List Bs := pickG names pts []
def ringL (ls : List PLine) : List Bs :=
  if 0 < (ringPts (namG (headsB ls) ls gZ)).length then pickB (headsB ls) (ringPts (namG (headsB ls) ls gZ))
  else pickB (labsB ls) (ringPts (ordG (labsB ls) ls gZ))
theorem pickG_drop (names : List Bs) (pts : List Nat) (i : Nat) (acc : List Bs) (h : i < pts.length) : pickG names (pts.drop i) acc = pickG names (pts.drop (i + 1)) (if pts.getD i 0 < names.length then acc ++ [names.getD (pts.getD i 0) []] else acc) := by
  rw [List.drop_eq_getElem_cons h, pickG]; simp [List.getD, h]
theorem colG_len (f : Nat → Nat) (a n : Nat) : ∀ r x, r.length ≤ 8 → (colG f a n r x).length ≤ 8 := by
  induction n with
  | zero => intro r x h; exact h
  | succ n ih => intro r x h; rw [colG]; split
                 · rename_i hc; exact ih _ _ (by simp; omega)
                 · exact h
theorem ringPts_len (G : List Bool) : (ringPts G).length ≤ 8 := by
  unfold ringPts; split
  · exact Nat.zero_le _
  · exact colG_len _ _ 8 _ _ (by simp)
theorem cell_ltG {w : World} {g i : Nat} {v : Value} (h : w.cell? ⟨g, i, none⟩ = some v) : g < w.heap.size := by
  rcases Nat.lt_or_ge g w.heap.size with h1 | h1
  · exact h1
  · rw [World.cell?, Array.getElem?_eq_none (by simpa using h1)] at h; cases h
theorem StrV.keepB {w w' : World} {B : Nat} {a : Option Addr} {names : List Bs} (h : StrV w a names) (hb : Below B w w') (hB : w.heap.size ≤ B) : StrV w' a names :=
  ⟨fun h0 => let ⟨g, e, p⟩ := h.blk h0; ⟨g, e, fun j hj => by rw [hb.cell (p := ⟨g, j, none⟩) (Nat.lt_of_lt_of_le (cell_ltG (p j hj)) hB)]; exact p j hj⟩, h.few⟩
theorem IntV.below {w w' : World} {B : Nat} {a : Option Addr} {L : List Nat} (h : IntV w a L) (hb : Below B w w') (hB : w.heap.size ≤ B) : IntV w' a L :=
  ⟨fun h0 => let ⟨g, e, p⟩ := h.blk h0; ⟨g, e, fun j hj => by rw [hb.cell (p := ⟨g, j, none⟩) (Nat.lt_of_lt_of_le (cell_ltG (p j hj)) hB)]; exact p j hj⟩⟩

set_option maxHeartbeats 2000000 in
theorem pick_s (w : World) (a b : Option Addr) (c d : Nat) (names : List Bs) (pts : List Nat) (h : StrV w a names) (hp : IntV w b pts) (hf : pts.length ≤ 10000) :
    Calls Tryz.prog 36 #[.slice a names.length c, .slice b pts.length d] w fun e w' => ∃ v, e = .returned v ∧ w'.ownsRow w.heap.size 9 1 v (pickB names pts).length (strC (pickB names pts)) ∧ Below w.heap.size w w' := by
  obtain ⟨i0, hi0, hz0, hz1, hz2⟩ := info_parts infoStr
  have HS := hideP2 h
  have HP := hideP2 hp
  have hfew := h.few
  obtain ⟨B, hB⟩ : ∃ B, B = w.heap.size := ⟨_, rfl⟩
  have HB0 := hideP2 hB
  clear h hp hB
  go_enter Tryz.func36, Tryz.ntmps36
  go_wp2_with fail
  go_loopw [5, 11] (fun ov iv wr => ∃ (i : Nat) (acc : List Bs), i ≤ pts.length ∧ acc.length ≤ i ∧ iv = .int .i64 i ∧ Hid (wr.ownsRow B 9 1 ov acc.length (strC acc)) ∧ Hid (Below B w wr) ∧ Hid (pickG names (pts.drop i) acc = pickB names pts)) (fun _ iv _ => pts.length - (intOf iv).toNat)
  case atStart => exact ⟨0, [], Nat.zero_le _, Nat.le_refl _, rfl, hideP2 ⟨rfl, .inr ⟨w.heap.size, 0, #[], rfl, by rw [HB0.out]; exact Nat.le_refl _, hb_end _ _, Nat.le_refl _, Nat.zero_le _, rfl, rfl⟩⟩, hideP2 ((Below.refl _ _).alloc (by rw [HB0.out]; exact Nat.le_refl _) _), hideP2 rfl⟩
  case round =>
    obtain ⟨i, acc, hi, hacc, rfl, HO, HB, HE⟩ := hrel
    have hsz : B ≤ wr.heap.size := by have := HB.out.size; have h2 := HB0.out; omega
    by_cases hlt : i < pts.length
    · obtain ⟨gp, rfl, hcs⟩ := (HP.out.below HB.out (by rw [HB0.out]; exact Nat.le_refl _)).blk (by omega)
      have hc := hcs i hlt
      have hE := HE.out
      rw [pickG_drop names pts i acc hlt] at hE
      have HE2 := hideP2 hE
      obtain ⟨oa, oc, rfl, _⟩ := own_str HO.out (by omega)
      clear HE hE hcs
      generalize pts.getD i 0 = p at *
      have b0 : (0 : Int) ≤ (p : Int) := by omega
      by_cases k1 : p < names.length
      · obtain ⟨gn, rfl, hns⟩ := (HS.out.keepB HB.out (by rw [HB0.out]; exact Nat.le_refl _)).blk (by omega)
        have hn := hns p k1
        have HE3 : Hid (pickG names (pts.drop (i + 1)) (acc ++ [names.getD p []]) = pickB names pts) := by have := HE2.out; rw [if_pos k1] at this; exact this
        clear HE2 hns
        generalize names.getD p [] = s at *
        have b2 : (p : Int) < (names.length : Int) := by omega
        go_wp2_with (at_builtin; refine wpList_append_own _ rfl _ _ 32 rfl B 9 i0 _ 1 16 Tryz.underlying32 hi0 hz0 hz1 hz2 rfl (by decide) _ _ _ rfl (HO.out.alloc _) ⟨wr.heap.size, 0, none⟩ 1 1 [.string ⟨s.toArray⟩] rfl rfl ?c1 ?c2 ?c3 ?c4 ?c5 ?_)
        case c1 => exact news_cells _ _ _ _ rfl
        case c2 => intro u hu; simp at hu; subst hu; rfl
        case c3 => unfold maxLen; omega
        case c4 => omega
        case c5 => simp; omega
        intro v' w2 hown1 hgrow _
        have HB2 : Hid (Below B w w2) := (HB.out.alloc hsz _).grown hgrow (by simp; omega) (own_block_le HO.out)
        have HO2 : Hid (w2.ownsRow B 9 1 v' (acc ++ [s]).length (strC (acc ++ [s]))) := by unfold Hid; rw [strC_snoc]; simpa using hown1
        clear hgrow hown1
        go_wp2_with fail
        go_roundw
        case rel => exact ⟨i + 1, acc ++ [s], by omega, by simp; omega, by go_num, HO2, HB2, HE3⟩
        case measure => simp [intOf]; omega
      · have HE3 : Hid (pickG names (pts.drop (i + 1)) acc = pickB names pts) := by have := HE2.out; rw [if_neg k1] at this; exact this
        have b2 : ¬ (p : Int) < (names.length : Int) := by omega
        clear HE2
        go_wp2_with fail
        go_roundw
        case rel => exact ⟨i + 1, acc, by omega, by omega, by go_num, HO, HB, HE3⟩
        case measure => simp [intOf]; omega
    · have HE3 : Hid (pickB names pts = acc) := by have := HE.out; rw [List.drop_eq_nil_of_le (by omega)] at this; exact this.symm
      clear HE
      go_wp2_with fail
      go_ret
      refine ⟨_, rfl, ?_, ?_⟩
      · rw [HE3.out, ← HB0.out]; exact HO.out
      · rw [← HB0.out]; exact HB.out

set_option maxRecDepth 100000 in
set_option maxHeartbeats 2000000 in
theorem LRing_s (w : World) (a : Option Addr) (c : Nat) (ls : List LX) (h : LinV w a ls) :
    Calls Tryz.prog 21 #[.slice a ls.length c] w fun e w' => ∃ v, e = .returned v ∧ w'.ownsRow w.heap.size 9 1 v (ringL (fs ls)).length (strC (ringL (fs ls))) ∧ Below w.heap.size w w' := by
  have hfew := h.few
  have HNm := hideP2 (Naming_s w a c ls h)
  have HOr := hideP2 (fun w' (hb : Below w.heap.size w w') => Order_s w' a c ls (h.below hb (Nat.le_refl _)))
  have HCn := hideP2 (fun w' (hb : Below w.heap.size w w') => conclusions_s w' a c ls (h.below hb (Nat.le_refl _)))
  have HLb := hideP2 (fun w' (hb : Below w.heap.size w w') => ruleLabels_s w' a c ls (h.below hb (Nat.le_refl _)))
  have HGL : Hid ((namG (headsB (fs ls)) (fs ls) gZ).length = 64) := by unfold Hid; rw [namG_len]; exact gZ_len
  have HGL2 : Hid ((ordG (labsB (fs ls)) (fs ls) gZ).length = 64) := by unfold Hid; rw [ordG_len]; exact gZ_len
  have HRr : Hid (ringL (fs ls) = if 0 < (ringPts (namG (headsB (fs ls)) (fs ls) gZ)).length then pickB (headsB (fs ls)) (ringPts (namG (headsB (fs ls)) (fs ls) gZ)) else pickB (labsB (fs ls)) (ringPts (ordG (labsB (fs ls)) (fs ls) gZ))) := rfl
  obtain ⟨B, hB⟩ : ∃ B, B = w.heap.size := ⟨_, rfl⟩
  have HB0 := hideP2 hB
  rw [← hB] at HOr HCn HLb HNm ⊢
  clear h hB
  generalize namG (headsB (fs ls)) (fs ls) gZ = Gn at *
  generalize ordG (labsB (fs ls)) (fs ls) gZ = Go at *
  generalize headsB (fs ls) = hd at *
  generalize labsB (fs ls) = lb at *
  generalize ringL (fs ls) = ans at *
  have HR1 := hideP2 (fun w' g (hg : GrM w' g Gn) => GRing_s w' g Gn hg)
  have HR2 := hideP2 (fun w' g (hg : GrM w' g Go) => GRing_s w' g Go hg)
  have hp1 := ringPts_len Gn
  have hp2 := ringPts_len Go
  generalize ringPts Gn = P1 at *
  generalize ringPts Go = P2 at *
  go_enter Tryz.func21, Tryz.ntmps21
  go_wp2_with fail
  refine HNm.out.mono ?_
  rintro e w1 ⟨rfl, hb1⟩
  have hs1 := hb1.size
  rw [← HB0.out] at hs1
  have HB1 := hideP2 hb1
  clear hb1
  go_wp2_with (refine wpList_store_row ?hgd 59 (.tmp 3) (.tmp 7) ?ho w1.heap.size (gC Gn) ?hx ?hy 59 (gC gZ) (hb_end w1 _) (gInfoC HGL.out) ?hold (gC_one Gn) ?_
               case ho => rfl
               case hgd => rfl
               case hx => rfl
               case hy => rfl
               case hold => rw [gC_size, gC_size, gZ_len, HGL.out])
  refine (HR1.out _ w1.heap.size ⟨setRow_heap _ _ (gC gZ) _ _ _ (hb_end w1 _), HGL.out⟩).mono ?_
  rintro e w2 ⟨v1, rfl, hown, hb2⟩
  have HBm : Hid (Below B w ((w1.alloc (.cells (gC gZ) 59 (0, 0))).setRow w1.heap.size (gC Gn))) := below_row (HB1.out.alloc hs1 _) hs1 _
  have HB2 : Hid (Below B w w2) := HBm.out.trans (hb2.mono (by have := HBm.out.size; rw [← HB0.out] at this; exact this))
  obtain ⟨pa, pc, rfl, hiv⟩ := own_int hown
  have HIv := hideP2 hiv
  have hs2 := HB2.out.size
  rw [← HB0.out] at hs2
  clear hb2 hown hiv HBm HB1
  by_cases k1 : 0 < P1.length
  · have HA : Hid (ans = pickB hd P1) := by have := HRr.out; rw [if_pos k1] at this; exact this
    have i1 : (0 : Int) < (P1.length : Int) := by omega
    clear HRr
    go_wp2_with fail
    refine (HCn.out _ HB2.out).mono ?_
    rintro e w3 ⟨v2, rfl, hown3, hl3, hb3⟩
    obtain ⟨na, nc, rfl, hsv⟩ := own_str hown3 (by omega)
    have HPk := hideP2 (pick_s w3 na pa nc pc hd P1 hsv (HIv.out.below hb3 (Nat.le_refl _)) (by omega))
    have HB3 : Hid (Below B w w3) := HB2.out.trans (hb3.mono hs2)
    have hs3 := HB3.out.size
    rw [← HB0.out] at hs3
    clear hown3 hsv hb3
    go_wp2_with fail
    refine HPk.out.mono ?_
    rintro e w4 ⟨v3, rfl, hown4, hb4⟩
    have HB4 : Hid (Below B w w4) := HB3.out.trans (hb4.mono hs3)
    have HO4 := hideP2 (owns_base2 hown4 hs3)
    clear hown4 hb4
    go_wp2_with fail
    go_ret
    exact ⟨_, rfl, by rw [HA.out]; exact HO4.out, HB4.out⟩
  · have HA : Hid (ans = pickB lb P2) := by have := HRr.out; rw [if_neg k1] at this; exact this
    have i1 : ¬ (0 : Int) < (P1.length : Int) := by omega
    clear HRr
    go_wp2_with fail
    refine (HOr.out _ HB2.out).mono ?_
    rintro e w3 ⟨rfl, hb3⟩
    have HB3 : Hid (Below B w w3) := HB2.out.trans (hb3.mono hs2)
    have hs3 := HB3.out.size
    rw [← HB0.out] at hs3
    clear hb3
    go_wp2_with (refine wpList_store_row ?hgd 59 (.tmp 5) (.tmp 17) ?ho w3.heap.size (gC Go) ?hx ?hy 59 (gC gZ) (hb_end w3 _) (gInfoC HGL2.out) ?hold (gC_one Go) ?_
                 case ho => rfl
                 case hgd => rfl
                 case hx => rfl
                 case hy => rfl
                 case hold => rw [gC_size, gC_size, gZ_len, HGL2.out])
    refine (HR2.out _ w3.heap.size ⟨setRow_heap _ _ (gC gZ) _ _ _ (hb_end w3 _), HGL2.out⟩).mono ?_
    rintro e w4 ⟨v4, rfl, hown4, hb4⟩
    have HBm : Hid (Below B w ((w3.alloc (.cells (gC gZ) 59 (0, 0))).setRow w3.heap.size (gC Go))) := below_row (HB3.out.alloc hs3 _) hs3 _
    have HB4 : Hid (Below B w w4) := HBm.out.trans (hb4.mono (by have := HBm.out.size; rw [← HB0.out] at this; exact this))
    obtain ⟨qa, qc, rfl, hiv⟩ := own_int hown4
    have HIw := hideP2 hiv
    have hs4 := HB4.out.size
    rw [← HB0.out] at hs4
    clear hb4 hown4 hiv HBm HB3
    go_wp2_with fail
    refine (HLb.out _ HB4.out).mono ?_
    rintro e w5 ⟨v2, rfl, hown5, hl5, hb5⟩
    obtain ⟨na, nc, rfl, hsv⟩ := own_str hown5 (by omega)
    have HPk := hideP2 (pick_s w5 na qa nc qc lb P2 hsv (HIw.out.below hb5 (Nat.le_refl _)) (by omega))
    have HB5 : Hid (Below B w w5) := HB4.out.trans (hb5.mono hs4)
    have hs5 := HB5.out.size
    rw [← HB0.out] at hs5
    clear hown5 hsv hb5
    go_wp2_with fail
    refine HPk.out.mono ?_
    rintro e w6 ⟨v3, rfl, hown6, hb6⟩
    have HB6 : Hid (Below B w w6) := HB5.out.trans (hb6.mono hs5)
    have HO6 := hideP2 (owns_base2 hown6 hs5)
    clear hown6 hb6
    go_wp2_with fail
    go_ret
    exact ⟨_, rfl, by rw [HA.out]; exact HO6.out, HB6.out⟩
end Go.Proofs.YtnbpdffdnphbeaaGreat
