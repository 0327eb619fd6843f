/- What lines of statutekeep gives: a frame's lines. -/
import Derived.Test.YtnbpdffdnphbeaaGreatDoorFRuleW
import Derived.Test.YtnbpdffdnphbeaaGreatDoorFBuild
import Derived.Lib.ItoaLen
namespace Go.Proofs.YtnbpdffdnphbeaaGreatDoor
open Go.RowKit

def fr0 : FRule := ⟨0, false, [], []⟩
def inLn (M : FMade) (i : Nat) : List Bs := if i < 3 then [[110, 117, 109], inpF i, Lib.itoa (M.lo i), [46, 46], Lib.itoa (M.hi i), [59]] else [[102, 108, 97, 103], inpF i, [59]]
def ovLn (i j : Nat) : List Bs := [[111, 118, 101, 114], nmB 114 i, nmB 114 j, [59]]
def fovN (M : FMade) (i j : Nat) : List (List Bs) := (List.range j).flatMap fun k => if M.over i k = true then [ovLn i k] else []
def linesW (M : FMade) (lo : Bool) : List (List Bs) := (List.range 5).map (inLn M) ++ (List.range M.rules.length).map (fun i => rulW (M.rules.getD i fr0) i lo) ++ (List.range M.rules.length).flatMap fun i => fovN M i M.rules.length
theorem MadeV.below {w w' : World} {g : Nat} {M : FMade} (h : MadeV w g M) (hb : Below w.heap.size w w') : MadeV w' g M := by
  obtain ⟨ra, ha, rc, hc, xs, h1, h2, h3, h4, h5⟩ := h.mem
  exact ⟨ra, ha, rc, hc, xs, h1, h2.below hb, h3.below hb, fun x hx => (h4 x hx).below hb, h5.below hb⟩
theorem infoStrsF : (Tryz.prog.info? 37).map (fun i => (i.zero, i.size, i.bytes)) = some (some (.slice none 0 0), 1, 24) := by kernel_rfl
/-- Lines in memory. -/
structure LnS (w wx : World) (v : Value) (L : List (List Bs)) (vs : List Value) : Prop where
  own : wx.ownsRow w.heap.size 37 1 v L.length vs
  ins : AllIn wx vs L
  bel : Below w.heap.size w wx
theorem LnS.below {w wx w' : World} {v : Value} {L : List (List Bs)} {vs : List Value} (h : LnS w wx v L vs) (hb : Below wx.heap.size wx w') : LnS w w' v L vs := ⟨owns_below h.own hb, h.ins.below hb, h.bel.trans (hb.mono h.bel.size)⟩
theorem LnS.app {w wx wz w9 : World} {v v9 lv : Value} {L : List (List Bs)} {vs : List Value} {l : List Bs} (h : LnS w wx v L vs) (hz : Below wx.heap.size wx wz) (hl : InT wz lv l) (hg : wz.grownBy w9 v.ownBlock) (hown : w9.ownsRow w.heap.size 37 1 v9 (L.length + 1) (vs ++ [lv])) : LnS w w9 v9 (L ++ [l]) (vs ++ [lv]) := by
  have hZ := h.below hz
  refine ⟨by rw [List.length_append]; exact hown, AllIn.snoc (hl.grown hZ.own hg) (hZ.ins.grown hZ.own hg), hZ.bel.grown hg hZ.bel.size (own_block_le hZ.own)⟩
theorem lit_in (w : World) (cs : Array Value) (ws : List Bs) (h : cs.toList = strC ws) : InT (w.alloc (.cells cs 9)) (.slice (some ⟨w.heap.size, 0, none⟩) ws.length ws.length) ws :=
  ⟨_, _, rfl, .inr ⟨w.heap.size, cs, _, rfl, hb_end _ _, fun j _ => by rw [← h, Array.getElem?_toList]⟩⟩
theorem MadeV.rule {w : World} {g : Nat} {M : FMade} (h : MadeV w g M) {i : Nat} (hi : i < M.rules.length) : ∃ gr rc pa pc qa qc, w.cell? ⟨g, 6, none⟩ = some (.slice (some ⟨gr, 0, none⟩) M.rules.length rc) ∧ (w.cell? ⟨gr, i * 4, none⟩ = some (.int .i64 ((M.rules.getD i fr0).head : Int)) ∧ w.cell? ⟨gr, i * 4 + 1, none⟩ = some (.bool (M.rules.getD i fr0).whole) ∧ w.cell? ⟨gr, i * 4 + 2, none⟩ = some (.slice pa (M.rules.getD i fr0).parts.length pc) ∧ w.cell? ⟨gr, i * 4 + 3, none⟩ = some (.slice qa (M.rules.getD i fr0).tests.length qc)) ∧ CelT w 217 pa ((M.rules.getD i fr0).parts.flatMap fpC) ∧ CelT w 221 qa ((M.rules.getD i fr0).tests.flatMap ftC) := by
  obtain ⟨ra, ha, rc, hc, xs, h1, h2, h3, h4, -⟩ := h.mem
  have hl : i < xs.length := by rw [← h1, List.length_map] at hi; exact hi
  have he : (xs.getD i (fr0, .slice none 0 0, .slice none 0 0)).1 = M.rules.getD i fr0 := by rw [← h1]; simp [List.getD, hl]
  have hm : xs.getD i (fr0, .slice none 0 0, .slice none 0 0) ∈ xs := by simp [List.getD, hl]
  have hv := h4 _ hm
  have hf := fun r hr => flat_get frC 4 (fun _ => rfl) (fr0, Value.slice none 0 0, Value.slice none 0 0) xs i r hl hr
  generalize xs.getD i (fr0, .slice none 0 0, .slice none 0 0) = x at *
  obtain ⟨x1, x2, x3⟩ := x
  simp only at he
  subst he
  obtain ⟨pa, pc, e1, q1⟩ := hv.parts
  obtain ⟨qa, qc, e2, q2⟩ := hv.tests
  simp only at e1 e2 q1 q2
  subst e1 e2
  obtain ⟨gr, e0, c0⟩ := h3.cel.at ((hf 0 (by decide)).trans rfl)
  subst e0
  have tt : ∀ (r : Nat) (u : Value), r < 4 → (frC (M.rules.getD i fr0, .slice pa (M.rules.getD i fr0).parts.length pc, .slice qa (M.rules.getD i fr0).tests.length qc))[r]? = some u → w.cell? ⟨gr, i * 4 + r, none⟩ = some u := fun r u hr hu => by
    obtain ⟨g', e', c'⟩ := h3.cel.at ((hf r hr).trans hu)
    obtain rfl : gr = g' := by simpa using e'
    exact c'
  exact ⟨gr, rc, pa, pc, qa, qc, h2.cells.2.2.1, ⟨c0, tt 1 _ (by decide) rfl, tt 2 _ (by decide) rfl, tt 3 _ (by decide) rfl⟩, q1, q2⟩
theorem lowOf_lt {H : List Nat} {h d : Nat} (hd : d ∈ lowOf H h) : d < h := by
  unfold lowOf at hd
  exact List.mem_range.1 (List.mem_filter.1 hd).1
theorem fovN_succ (M : FMade) (i j : Nat) : fovN M i (j + 1) = fovN M i j ++ if M.over i j = true then [ovLn i j] else [] := by unfold fovN; rw [List.range_succ, List.flatMap_append]; simp
theorem fovN_len (M : FMade) (i : Nat) : ∀ j, (fovN M i j).length ≤ j := by
  intro j
  induction j with
  | zero => simp [fovN]
  | succ j ih => rw [fovN_succ, List.length_append]; have : ((if M.over i j = true then [ovLn i j] else []) : List (List Bs)).length ≤ 1 := by split <;> simp
                 omega
theorem fovA_succ (M : FMade) (n i : Nat) : ((List.range (i + 1)).flatMap fun i => fovN M i n) = ((List.range i).flatMap fun i => fovN M i n) ++ fovN M i n := by rw [List.range_succ, List.flatMap_append]; simp
theorem fovA_len (M : FMade) (n : Nat) : ∀ i, ((List.range i).flatMap fun i => fovN M i n).length ≤ n * i := by
  intro i
  induction i with
  | zero => simp
  | succ i ih => rw [fovA_succ, List.length_append]; have := fovN_len M i n; rw [Nat.mul_succ]; omega
theorem map_range_succ {α : Type} (f : Nat → α) (i : Nat) : (List.range (i + 1)).map f = (List.range i).map f ++ [f i] := by rw [List.range_succ, List.map_append]; rfl

set_option maxRecDepth 100000 in
set_option maxHeartbeats 3000000 in
theorem fLines_s (w : World) (g : Nat) (M : FMade) (lo : Bool) (hM : MadeV w g M) (hO : MadeOk M) (hT : TabK w) :
    Calls Tryz.prog 22 #[.pointer (some ⟨g, 0, none⟩), .bool lo] w fun e w' => ∃ v vs, e = .returned v ∧ LnS w w' v (linesW M lo) vs := by
  obtain ⟨i0, hi0, hz0, hz1, hz2⟩ := info_parts infoStrsF
  have HTb := hideP2 (fun w' (hb : Below w.heap.size w w') => hT.below hb)
  have HMv := hideP2 (fun w' (hb : Below w.heap.size w w') => hM.below hb)
  have HNu := hideP2 hO.nums
  have hn8 := hO.few
  have HOr := hideP2 hO.rules
  have HLW : Hid (linesW M lo = (List.range 5).map (inLn M) ++ (List.range M.rules.length).map (fun i => rulW (M.rules.getD i fr0) i lo) ++ (List.range M.rules.length).flatMap fun i => fovN M i M.rules.length) := rfl
  have HIl : Hid (∀ i, inLn M i = if i < 3 then [[110, 117, 109], inpF i, Lib.itoa (M.lo i), [46, 46], Lib.itoa (M.hi i), [59]] else [[102, 108, 97, 103], inpF i, [59]]) := fun _ => rfl
  generalize linesW M lo = TL at *
  clear hM hO hT
  go_enter Tryz.func22, Tryz.ntmps22
  go_wp2_with fail
  go_loopw [5, 6] (fun ov iv wr => ∃ (i : Nat) (vs : List Value), i ≤ 5 ∧ iv = .int .i64 (i : Int) ∧ Hid (LnS w wr ov ((List.range i).map (inLn M)) vs)) (fun _ iv _ => 5 - (intOf iv).toNat)
  case atStart => exact ⟨0, [], Nat.zero_le _, rfl, hideP2 ⟨World.ownsRow_nil _ _ _ _, trivial, Below.refl _ _⟩⟩
  case round =>
    obtain ⟨i, vs, hi, rfl, HS⟩ := hrel
    obtain ⟨oa, oc, rfl⟩ := own_sliceN HS.out.own
    by_cases hlt : i < 5
    · have ii : (i : Int) < 5 := by omega
      have HIn := hideP2 (fun w' => fInput_s w' i hlt)
      have HIi := hideP2 (HIl.out i)
      have HE := hideP2 (map_range_succ (inLn M) i)
      generalize inpF i = iw at *
      generalize inLn M i = il at *
      have hlen : ((List.range i).map (inLn M)).length ≤ 5 := by simp; omega
      generalize (List.range i).map (inLn M) = L0 at *
      have hsz := HS.out.bel.size
      go_wp2_with fail
      refine (HIn.out _).mono ?_
      rintro e w5 ⟨rfl, hb5⟩
      have HB5 := hideP2 hb5
      have HSz5 := hideP2 hb5.size
      clear hb5
      go_upto_if 21 with fail
      go_cut [7] from 13 to 42 (fun v7 wx => Hid (InT wx v7 il) ∧ Hid (Below wr.heap.size wr wx))
      case first =>
        by_cases k3 : i < 3
        · have k4 : (i : Int) < 3 := by omega
          have HI3 : Hid (il = [[110, 117, 109], iw, Lib.itoa (M.lo i), [46, 46], Lib.itoa (M.hi i), [59]]) := HIi.out.trans (if_pos k3)
          have hnb := HNu.out i k3
          have HMc := hideP2 (fun w' (hb : Below wr.heap.size wr w') => (show w'.cell? ⟨g, i, none⟩ = some (.int .i64 (M.lo i)) ∧ w'.cell? ⟨g, 3 + i, none⟩ = some (.int .i64 (M.hi i)) by
            obtain ⟨_, _, _, _, _, -, h2, -⟩ := (HMv.out w' (HS.out.bel.trans (hb.mono HS.out.bel.size))).mem
            exact ⟨h2.cells.1 i k3, h2.cells.2.1 i k3⟩))
          have HA := hideP2 (fun w' ht => fItoa_s w' (M.lo i) (by omega) (by omega) ht)
          have HBb := hideP2 (fun w' ht => fItoa_s w' (M.hi i) (by omega) (by omega) ht)
          have HTr := hideP2 (fun w' (hb : Below wr.heap.size wr w') => HTb.out w' (HS.out.bel.trans (hb.mono HS.out.bel.size)))
          have HBW : Hid (Below wr.heap.size wr (w5.alloc (.cells #[.string ⟨#[102, 108, 97, 103]⟩, .string ⟨iw.toArray⟩, .string ⟨#[59]⟩] 9))) := HB5.out.alloc HSz5.out _
          generalize Lib.itoa (M.lo i) = s1 at *
          generalize Lib.itoa (M.hi i) = s2 at *
          generalize M.lo i = a at *
          generalize M.hi i = b at *
          clear hnb k3 HIi
          go_upto_region 7 with fail
          generalize w5.alloc (.cells #[.string ⟨#[102, 108, 97, 103]⟩, .string ⟨iw.toArray⟩, .string ⟨#[59]⟩] 9) = W at *
          obtain ⟨p1, p2⟩ := HMc.out W HBW.out
          have lgW := cell_lt p1
          go_region_held3 (fun w' => w'.cell? ⟨g, i, none⟩ = some (.int .i64 a) ∧ w'.cell? ⟨g, 3 + i, none⟩ = some (.int .i64 b)) (go_keep) (first
            | (go_at_call 55; refine (HIn.out _).mono ?_; rintro e w7 ⟨rfl, hb7⟩; have hB7 : Below wr.heap.size wr w7 := HBW.out.trans (((Below.drew (Below.refl _ _)).trans hb7).mono HBW.out.size); obtain ⟨p1, p2⟩ := HMc.out w7 hB7)
            | (go_at_call_of 56 (Value.int .i64 a); refine (HA.out _ (HTr.out _ hB7)).mono ?_; rintro e w8 ⟨rfl, hb8⟩; have hB8 : Below wr.heap.size wr w8 := hB7.trans (hb8.mono hB7.size); obtain ⟨p1, p2⟩ := HMc.out w8 hB8)
            | (go_at_call_of 56 (Value.int .i64 b); refine (HBb.out _ (HTr.out _ hB8)).mono ?_; rintro e w9 ⟨rfl, hb9⟩; have hB9 : Below wr.heap.size wr w9 := hB8.trans (hb9.mono hB8.size); obtain ⟨p1, p2⟩ := HMc.out w9 hB9; have n9 : w9.heap.size ≠ g := by have := cell_lt p1; omega))
          all_goals
            have HB9 := hideP2 hB9
            clear hB9 hB8 hB7
            go_wp2_with fail
            go_meet
            exact ⟨by rw [HI3.out]; exact hideP2 (lit_in w9 _ [[110, 117, 109], iw, s1, [46, 46], s2, [59]] rfl), hideP2 (HB9.out.alloc HB9.out.size _)⟩
        · have k4 : ¬ (i : Int) < 3 := by omega
          have HI3 : Hid (il = [[102, 108, 97, 103], iw, [59]]) := HIi.out.trans (if_neg k3)
          go_wp2_with fail
          go_meet
          exact ⟨by rw [HI3.out]; exact hideP2 (lit_in w5 _ [[102, 108, 97, 103], iw, [59]] rfl), hideP2 (HB5.out.alloc HSz5.out _)⟩
      case rest =>
        obtain ⟨HI7, HB7⟩ := hcut
        obtain ⟨la, lc, rfl, -⟩ := HI7.out
        have HS7 := hideP2 (HS.out.below HB7.out)
        have hsz7 := HS7.out.bel.size
        go_wp2_with (at_builtin; refine wpList_append_own _ rfl _ _ 51 rfl w.heap.size 37 i0 _ 1 24 Tryz.underlying51 hi0 hz0 hz1 hz2 rfl (by decide) _ _ _ rfl (HS7.out.own.alloc _) ⟨wc.heap.size, 0, none⟩ 1 1 [.slice la il.length lc] rfl rfl ?c1k1 ?c1k2 ?c1k3 ?c1k4 ?c1k5 ?_)
        try (case c1k1 => exact news_cells _ _ _ _ rfl)
        try (case c1k2 => first | rfl | (intro u hu; simp at hu; rcases hu with rfl; rfl))
        try (case c1k3 => unfold maxLen; omega)
        try (case c1k4 => omega)
        try (case c1k5 => first | omega | (simp; omega))
        intro v6 w6 hown6 hgrow6 _
        have HS6 : Hid (LnS w w6 v6 (L0 ++ [il]) (vs ++ [.slice la il.length lc])) := HS7.out.app ((Below.refl _ _).alloc (Nat.le_refl _) _) (HI7.out.below ((Below.refl _ _).alloc (Nat.le_refl _) _)) hgrow6 hown6
        clear hown6 hgrow6
        have Z : Hid (LnS w w6 v6 ((List.range (i + 1)).map (inLn M)) (vs ++ [.slice la il.length lc])) := by unfold Hid; rw [HE.out]; exact HS6.out
        clear HS6 HS7 HS
        go_wp2_with fail
        go_roundw
        case rel => exact ⟨i + 1, _, by omega, by go_num, Z⟩
        case measure => simp [intOf]; omega
    · have c9 : ¬ (i : Int) < 5 := by omega
      obtain ⟨L5, hL5⟩ : ∃ L5, L5 = (List.range 5).map (inLn M) := ⟨_, rfl⟩
      have HS5 : Hid (LnS w wr (.slice oa i oc) L5 vs) := by
        have h1 := HS.out
        rw [show ((List.range i).map (inLn M)).length = i by simp] at h1
        unfold Hid; rw [hL5, show (5 : Nat) = i by omega]; exact h1
      have hl5 : L5.length ≤ 5 := by rw [hL5]; simp
      rw [← hL5] at HLW
      clear HS hlt hi hL5 HIl
      obtain ⟨RW, hRW⟩ : ∃ RW : Nat → List Bs, RW = fun i => rulW (M.rules.getD i fr0) i lo := ⟨_, rfl⟩
      have HRW : Hid (∀ i, RW i = rulW (M.rules.getD i fr0) i lo) := fun i => by rw [hRW]
      rw [← hRW] at HLW
      clear hRW
      have HD6 := hideP2 (fun w' (hb : Below w.heap.size w w') => (show ∃ ra rc, w'.cell? ⟨g, 6, none⟩ = some (.slice ra M.rules.length rc) by
        obtain ⟨ra, _, rc, _, _, -, h2, -⟩ := (HMv.out w' hb).mem
        exact ⟨ra, rc, h2.cells.2.2.1⟩))
      generalize hnn : M.rules.length = n at *
      have HNn := hideP2 hnn
      clear hnn
      go_wp2_with fail
      go_loopw [5, 8] (fun ov iv wr => ∃ (k : Nat) (vs : List Value), k ≤ n ∧ iv = .int .i64 (k : Int) ∧ Hid (LnS w wr ov (L5 ++ (List.range k).map RW) vs)) (fun _ iv _ => n - (intOf iv).toNat)
      case atStart => exact ⟨0, vs, Nat.zero_le _, rfl, by rw [show L5 ++ (List.range 0).map RW = L5 from List.append_nil _]; exact HS5⟩
      case round =>
        clear HS5
        obtain ⟨k, vs2, hk, rfl, HS⟩ := hrel
        obtain ⟨oa2, oc2, rfl⟩ := own_sliceN HS.out.own
        by_cases hltk : k < n
        · have kk : (k : Int) < (n : Int) := by omega
          have hkr : k < M.rules.length := by rw [HNn.out]; exact hltk
          obtain ⟨gr, rc, pa, pc, qa, qc, d6, ⟨e0, e1, e2, e3⟩, hcp, hcq⟩ := (HMv.out wr HS.out.bel).rule hkr
          rw [HNn.out] at d6
          have hok := HOr.out (M.rules.getD k fr0) (by simp [List.getD, hkr])
          have HRk := hideP2 (HRW.out k)
          have HE := hideP2 (map_range_succ RW k)
          generalize M.rules.getD k fr0 = r at *
          obtain ⟨h, wh, ps, ts⟩ := r
          simp only at e0 e1 e2 e3 hcp hcq
          have HRu := hideP2 (fRuleW_s wr h k wh lo pa qa pc qc ps ts (lowOf M.heads h) hok.head (by omega) hok.parts hok.tests (fun d hd => by have := lowOf_lt hd; have := hok.head; simp only at this; omega) hcp hcq (HTb.out wr HS.out.bel))
          have hp4 : ps.length ≤ 4 := hok.parts.2.1
          have ht6 : ts.length ≤ 6 := hok.tests.2.1
          have hlen : (L5 ++ (List.range k).map RW).length ≤ 20 := by rw [List.length_append, List.length_map, List.length_range]; omega
          generalize hL0 : L5 ++ (List.range k).map RW = L0 at *
          have HL0 := hideP2 hL0
          clear hL0
          generalize rulW ⟨h, wh, ps, ts⟩ k lo = rl at *
          clear hok hcp hcq hkr
          go_wp2_with fail
          refine HRu.out.mono ?_
          rintro e w7 ⟨v7, rfl, ho7, hb7⟩
          obtain ⟨la, lc, rfl, hlv⟩ := own_celT ho7
          have HI7 : Hid (InT w7 (.slice la rl.length lc) rl) := ⟨la, lc, rfl, hlv⟩
          have HS7 := hideP2 (HS.out.below hb7)
          have hsz7 := HS7.out.bel.size
          clear ho7 hb7 hlv e0 e1 e2 e3 d6 HRu
          go_wp2_with (at_builtin; refine wpList_append_own _ rfl _ _ 51 rfl w.heap.size 37 i0 _ 1 24 Tryz.underlying51 hi0 hz0 hz1 hz2 rfl (by decide) _ _ _ rfl (HS7.out.own.alloc _) ⟨w7.heap.size, 0, none⟩ 1 1 [.slice la rl.length lc] rfl rfl ?c2k1 ?c2k2 ?c2k3 ?c2k4 ?c2k5 ?_)
          try (case c2k1 => exact news_cells _ _ _ _ rfl)
          try (case c2k2 => first | rfl | (intro u hu; simp at hu; rcases hu with rfl; rfl))
          try (case c2k3 => unfold maxLen; omega)
          try (case c2k4 => omega)
          try (case c2k5 => first | omega | (simp; omega))
          intro v6 w6 hown6 hgrow6 _
          have HS6 : Hid (LnS w w6 v6 (L0 ++ [rl]) (vs2 ++ [.slice la rl.length lc])) := HS7.out.app ((Below.refl _ _).alloc (Nat.le_refl _) _) (HI7.out.below ((Below.refl _ _).alloc (Nat.le_refl _) _)) hgrow6 hown6
          clear hown6 hgrow6
          have Z : Hid (LnS w w6 v6 (L5 ++ (List.range (k + 1)).map RW) (vs2 ++ [.slice la rl.length lc])) := by unfold Hid; rw [HE.out, HRk.out, ← List.append_assoc, HL0.out]; exact HS6.out
          clear HS6 HS7 HS
          go_wp2_with fail
          go_roundw
          case rel => exact ⟨k + 1, _, by omega, by go_num, Z⟩
          case measure => simp [intOf]; omega
        · obtain rfl : n = k := by omega
          have kk : ¬ (n : Int) < (n : Int) := by omega
          obtain ⟨ra, rc, d6⟩ := HD6.out wr HS.out.bel
          obtain ⟨LB, hLB⟩ : ∃ LB, LB = L5 ++ (List.range n).map RW := ⟨_, rfl⟩
          have hlB : LB.length ≤ 13 := by rw [hLB, List.length_append, List.length_map, List.length_range]; omega
          have HS2 : Hid (LnS w wr (.slice oa2 (L5.length + n) oc2) LB vs2) := by
            have h1 := HS.out
            rw [show (L5 ++ (List.range n).map RW).length = L5.length + n by simp, ← hLB] at h1
            exact h1
          rw [← hLB] at HLW
          clear hLB HRW
          clear HS hltk hk
          obtain ⟨FA, hFA⟩ : ∃ FA : Nat → List (List Bs), FA = fun m => (List.range m).flatMap fun i => fovN M i n := ⟨_, rfl⟩
          have HFs : Hid (∀ m, FA (m + 1) = FA m ++ fovN M m n) := fun m => by rw [hFA]; exact fovA_succ M n m
          have HFl : Hid (∀ m, (FA m).length ≤ n * m) := fun m => by rw [hFA]; exact fovA_len M n m
          have HF0 : Hid (FA 0 = []) := by unfold Hid; rw [hFA]; rfl
          have HTL : Hid (TL = LB ++ FA n) := by unfold Hid; rw [HLW.out, hFA]
          clear hFA HLW
          go_wp2_with fail
          go_loopw [5, 10] (fun ov iv wr => ∃ (m : Nat) (vs : List Value), m ≤ n ∧ iv = .int .i64 (m : Int) ∧ Hid (LnS w wr ov (LB ++ FA m) vs)) (fun _ iv _ => n - (intOf iv).toNat)
          case atStart => exact ⟨0, vs2, Nat.zero_le _, rfl, by rw [HF0.out, List.append_nil]; exact HS2⟩
          case round =>
            clear HS2 d6
            obtain ⟨m, vs3, hm, rfl, HS⟩ := hrel
            obtain ⟨oa3, oc3, rfl⟩ := own_sliceN HS.out.own
            obtain ⟨ra, rc, d6⟩ := HD6.out wr HS.out.bel
            by_cases hltm : m < n
            · have mm : (m : Int) < (n : Int) := by omega
              have hm8 : m < 8 := by omega
              have HFm := hideP2 (HFs.out m)
              have hflm := HFl.out m
              have hbig : n * m ≤ 64 := Nat.le_trans (Nat.mul_le_mul hn8 (Nat.le_of_lt hm8)) (by decide)
              have HO0 : Hid (fovN M m 0 = []) := rfl
              have HOs := hideP2 (fovN_succ M m)
              have HOl := hideP2 (fovN_len M m)
              have hlC : (LB ++ FA m).length ≤ 77 := by rw [List.length_append]; omega
              generalize hLC : LB ++ FA m = LC at *
              have HLC := hideP2 hLC
              clear hLC
              go_wp2_with fail
              go_loopw [5, 11] (fun ov iv wr => ∃ (j : Nat) (vs : List Value), j ≤ n ∧ iv = .int .i64 (j : Int) ∧ Hid (LnS w wr ov (LC ++ fovN M m j) vs)) (fun _ iv _ => n - (intOf iv).toNat)
              case atStart => exact ⟨0, vs3, Nat.zero_le _, rfl, by rw [HO0.out, List.append_nil]; exact HS⟩
              case round =>
                clear HS d6
                obtain ⟨j, vs4, hj, rfl, HS⟩ := hrel
                obtain ⟨oa4, oc4, rfl⟩ := own_sliceN HS.out.own
                obtain ⟨ra, rc, d6⟩ := HD6.out wr HS.out.bel
                by_cases hltj : j < n
                · have jj : (j : Int) < (n : Int) := by omega
                  have hj8 : j < 8 := by omega
                  have m8 : (m : Int) < 8 := by omega
                  have j8 : (j : Int) < 8 := by omega
                  have do9 : wr.cell? ⟨g, 7 + m * 8 + j, none⟩ = some (.bool (M.over m j)) := by
                    obtain ⟨_, _, _, _, _, -, h2, -⟩ := (HMv.out wr HS.out.bel).mem
                    exact h2.cells.2.2.2.1 m j hm8 hj8
                  have HOj := hideP2 (HOs.out j)
                  have hoj := HOl.out j
                  have hlD : (LC ++ fovN M m j).length ≤ 90 := by rw [List.length_append]; omega
                  have HEq : Hid (LC ++ fovN M m (j + 1) = (LC ++ fovN M m j) ++ if M.over m j = true then [ovLn m j] else []) := by unfold Hid; rw [HOj.out, List.append_assoc]
                  generalize LC ++ fovN M m j = LD at *
                  cases hov : M.over m j
                  · rw [hov] at do9 HEq
                    have Z : Hid (LnS w wr (.slice oa4 LD.length oc4) (LC ++ fovN M m (j + 1)) vs4) := by
                      have e : LC ++ fovN M m (j + 1) = LD := HEq.out.trans (by simp)
                      unfold Hid; rw [e]; exact HS.out
                    clear hov
                    go_wp2_with fail
                    go_roundw
                    case rel => exact ⟨j + 1, _, by omega, by go_num, Z⟩
                    case measure => simp [intOf]; omega
                  · rw [hov] at do9 HEq
                    clear hov
                    have HN1 := hideP2 (fun w' => kName_s w' 114 m (by omega))
                    have HN2 := hideP2 (fun w' => kName_s w' 114 j (by omega))
                    rw [show ((114 : UInt8).toNat : Int) = 114 from rfl] at HN1 HN2
                    have HOv : Hid (ovLn m j = [[111, 118, 101, 114], nmB 114 m, nmB 114 j, [59]]) := rfl
                    generalize ovLn m j = ol at *
                    generalize nmB 114 m = n1 at *
                    generalize nmB 114 j = n2 at *
                    go_wp2_with fail
                    refine (HN1.out _).mono ?_
                    rintro e w5 ⟨rfl, hb5⟩
                    have HB5 := hideP2 hb5
                    clear hb5
                    go_wp2_with fail
                    refine (HN2.out _).mono ?_
                    rintro e w7 ⟨rfl, hb7⟩
                    have HB7 : Hid (Below wr.heap.size wr w7) := HB5.out.trans (hb7.mono HB5.out.size)
                    have HI8 : Hid (InT (w7.alloc (.cells #[.string ⟨#[111, 118, 101, 114]⟩, .string ⟨n1.toArray⟩, .string ⟨n2.toArray⟩, .string ⟨#[59]⟩] 9)) (.slice (some ⟨w7.heap.size, 0, none⟩) 4 4) ol) := by unfold Hid; rw [HOv.out]; exact lit_in w7 _ [[111, 118, 101, 114], n1, n2, [59]] rfl
                    have HS8 := hideP2 (HS.out.below (HB7.out.alloc HB7.out.size (.cells #[.string ⟨#[111, 118, 101, 114]⟩, .string ⟨n1.toArray⟩, .string ⟨n2.toArray⟩, .string ⟨#[59]⟩] 9)))
                    have hsz8 := HS8.out.bel.size
                    have hs8 : (w7.alloc (.cells #[.string ⟨#[111, 118, 101, 114]⟩, .string ⟨n1.toArray⟩, .string ⟨n2.toArray⟩, .string ⟨#[59]⟩] 9)).heap.size = w7.heap.size + 1 := by simp
                    clear hb7
                    go_upto_region 22 with fail
                    generalize w7.alloc (.cells #[.string ⟨#[111, 118, 101, 114]⟩, .string ⟨n1.toArray⟩, .string ⟨n2.toArray⟩, .string ⟨#[59]⟩] 9) = w8 at *
                    generalize w7.heap.size = g8 at *
                    clear hs8
                    go_wp2_with (at_builtin; refine wpList_append_own _ rfl _ _ 51 rfl w.heap.size 37 i0 _ 1 24 Tryz.underlying51 hi0 hz0 hz1 hz2 rfl (by decide) _ _ _ rfl (HS8.out.own.alloc _) ⟨w8.heap.size, 0, none⟩ 1 1 [.slice (some ⟨g8, 0, none⟩) 4 4] rfl rfl ?c3k1 ?c3k2 ?c3k3 ?c3k4 ?c3k5 ?_)
                    try (case c3k1 => exact news_cells _ _ _ _ rfl)
                    try (case c3k2 => first | rfl | (intro u hu; simp at hu; rcases hu with rfl; rfl))
                    try (case c3k3 => unfold maxLen; omega)
                    try (case c3k4 => omega)
                    try (case c3k5 => first | omega | (simp; omega))
                    intro v6 w6 hown6 hgrow6 _
                    have HS6 : Hid (LnS w w6 v6 (LD ++ [ol]) (vs4 ++ [.slice (some ⟨g8, 0, none⟩) 4 4])) := HS8.out.app ((Below.refl _ _).alloc (Nat.le_refl _) _) (HI8.out.below ((Below.refl _ _).alloc (Nat.le_refl _) _)) hgrow6 hown6
                    clear hown6 hgrow6
                    have Z : Hid (LnS w w6 v6 (LC ++ fovN M m (j + 1)) (vs4 ++ [.slice (some ⟨g8, 0, none⟩) 4 4])) := by
                      have e : LC ++ fovN M m (j + 1) = LD ++ [ol] := HEq.out.trans (by simp)
                      unfold Hid; rw [e]; exact HS6.out
                    clear HS6 HS8 HS
                    go_wp2_with fail
                    go_roundw
                    case rel => exact ⟨j + 1, _, by omega, by go_num, Z⟩
                    case measure => simp [intOf]; omega
                · have jj : ¬ (j : Int) < (n : Int) := by omega
                  have Z : Hid (LnS w wr (.slice oa4 (LC ++ fovN M m j).length oc4) (LB ++ FA (m + 1)) vs4) := by
                    unfold Hid; rw [HFm.out, ← List.append_assoc, HLC.out, show n = j by omega]; exact HS.out
                  go_wp2_with fail
                  go_roundw
                  case rel => exact ⟨m + 1, _, by omega, by go_num, Z⟩
                  case measure => simp [intOf]; omega
            · have mm : ¬ (m : Int) < (n : Int) := by omega
              have Z : Hid (LnS w wr (.slice oa3 (LB ++ FA m).length oc3) TL vs3) := by
                have h1 := HS.out
                unfold Hid; rw [HTL.out, show n = m by omega]; exact h1
              generalize (LB ++ FA m).length = zl at *
              clear HS
              go_wp2_with fail
              go_ret
              first | exact ⟨_, vs3, rfl, Z.out⟩ | exact ⟨_, rfl, vs3, Z.out⟩
end Go.Proofs.YtnbpdffdnphbeaaGreatDoor

/- What text of statutekeep gives: a frame's text. -/
namespace Go.Proofs.YtnbpdffdnphbeaaGreatDoor
open Go.RowKit

/-- Words and lines that are short. -/
structure ShortF (L : List (List Bs)) : Prop where
  few : L.length ≤ 100
  line : ∀ i, i < L.length → (L.getD i []).length ≤ 100
  word : ∀ i k, i < L.length → k < (L.getD i []).length → ((L.getD i []).getD k []).length ≤ 21

set_option maxHeartbeats 2000000 in
theorem fWritten_s (w : World) (a : Option Addr) (c : Nat) (L : List (List Bs)) (h : OutV w a L) (hS : ShortF L) :
    Calls Tryz.prog 54 #[.slice a L.length c] w fun e w' => e = .returned (.string ⟨(wrB L).toArray⟩) ∧ w' = w := by
  have HO := hideP2 h
  have HS := hideP2 hS
  have hfew := hS.few
  clear h hS
  go_enter Tryz.func54, Tryz.ntmps54
  go_wp2_with fail
  go_loop [3, 4] (fun sv iv => ∃ (i : Nat) (s : Bs), i ≤ L.length ∧ sv = .string ⟨s.toArray⟩ ∧ iv = .int .i64 i ∧ s.length ≤ i * 5000 ∧ Hid (s = wrB (L.take i))) (fun _ iv => L.length - (intOf iv).toNat)
  case atStart => exact ⟨0, [], Nat.zero_le _, rfl, rfl, by simp, hideP2 rfl⟩
  case round =>
    obtain ⟨i, s, hi, rfl, rfl, hs, HE⟩ := hrel
    by_cases hlt : i < L.length
    · obtain ⟨g, la, lc, rfl, hc, hws⟩ := HO.out.line i hlt
      have hl20 := HS.out.line i hlt
      have HT : Hid (∀ k, k < (L.getD i []).length → ((L.getD i []).getD k []).length ≤ 21) := fun k hk => HS.out.word i k hlt hk
      have HE2 : Hid (wrB (L.take (i + 1)) = s ++ wrLine (L.getD i [])) := by unfold Hid; rw [wrB_snoc L i hlt, ← HE.out]
      generalize L.getD i [] = ws at *
      have HW := hideP2 hws
      clear hws HE
      go_wp2_with fail
      go_loop [3, 5] (fun sv kv => ∃ (k : Nat) (t : Bs), k ≤ ws.length ∧ sv = .string ⟨t.toArray⟩ ∧ kv = .int .i64 k ∧ t.length ≤ i * 5000 + k * 30 ∧ Hid (t = s ++ lnP ws k)) (fun _ kv => ws.length - (intOf kv).toNat)
      case atStart =>
        refine ⟨0, s, Nat.zero_le _, rfl, rfl, ?_, hideP2 (List.append_nil s).symm⟩
        rw [Nat.zero_mul, Nat.add_zero]; exact hs
      case round =>
        obtain ⟨k, t, hk, rfl, rfl, ht, HF⟩ := hrel
        by_cases hkl : k < ws.length
        · obtain ⟨gl, rfl, hcw⟩ := HW.out k hkl
          have hx := HT.out k hkl
          have HF2 : Hid (s ++ lnP ws (k + 1) = (if 0 < k ∧ ws.getD k [] ≠ [59] then t ++ [32] else t) ++ ws.getD k []) := by
            unfold Hid; rw [lnP, HF.out]; split <;> simp
          generalize ws.getD k [] = x at *
          clear HF
          by_cases k0 : k = 0
          · subst k0
            have HF3 : Hid (s ++ lnP ws (0 + 1) = t ++ x) := by have := HF2.out; rw [if_neg (by omega)] at this; exact this
            clear HF2
            go_wp2_with fail
            go_round
            case rel => exact ⟨0 + 1, t ++ x, by omega, by rw [← cat_mk], by go_num, by simp; omega, hideP2 HF3.out.symm⟩
            case measure => simp [intOf]; omega
          · have bk : (0 : Int) < (k : Int) := by omega
            by_cases k1 : x = [59]
            · have HF3 : Hid (s ++ lnP ws (k + 1) = t ++ x) := by have := HF2.out; rw [if_neg (fun q => q.2 k1)] at this; exact this
              have b1 : (x == [59]) = true := by simpa using k1
              clear HF2 k1
              go_wp2_with fail
              go_round
              case rel => exact ⟨k + 1, t ++ x, by omega, by rw [← cat_mk], by go_num, by simp; omega, hideP2 HF3.out.symm⟩
              case measure => simp [intOf]; omega
            · have HF3 : Hid (s ++ lnP ws (k + 1) = t ++ [32] ++ x) := by have := HF2.out; rw [if_pos ⟨by omega, k1⟩] at this; exact this
              have b1 : (x == [59]) = false := by simpa using k1
              clear HF2 k1
              go_wp2_with fail
              go_round
              case rel => exact ⟨k + 1, t ++ [32] ++ x, by omega, by rw [← cat_mk, ← cat_mk], by go_num, by simp; omega, hideP2 HF3.out.symm⟩
              case measure => simp [intOf]; omega
        · obtain rfl : k = ws.length := by omega
          have HF3 : Hid (wrB (L.take (i + 1)) = t ++ [10]) := by unfold Hid; rw [HE2.out, HF.out, List.append_assoc, lnP_all]
          clear HF HE2
          go_wp2_with fail
          go_round
          case rel => exact ⟨i + 1, t ++ [10], by omega, by rw [← cat_mk], by go_num, by simp; omega, hideP2 HF3.out.symm⟩
          case measure => simp [intOf]; omega
    · have HE2 : Hid (s = wrB L) := by have := HE.out; rw [List.take_of_length_le (by omega)] at this; exact this
      clear HE
      go_wp2_with fail
      go_ret
      exact ⟨congrArg (fun s : Bs => Ending.returned (.string ⟨s.toArray⟩)) HE2.out, rfl⟩

/-- Words that are short. -/
def Ws (l : List Bs) : Prop := ∀ x ∈ l, x.length ≤ 21
theorem Ws.app {a b : List Bs} (ha : Ws a) (hb : Ws b) : Ws (a ++ b) := fun x hx => by
  rcases List.mem_append.1 hx with h | h
  · exact ha x h
  · exact hb x h
theorem ws_nil : Ws [] := fun x hx => by cases hx
theorem ws_cons {a : Bs} {l : List Bs} (ha : a.length ≤ 21) (hl : Ws l) : Ws (a :: l) := fun x hx => by
  rcases List.mem_cons.1 hx with rfl | h
  · exact ha
  · exact hl x h
theorem ws_ite {p : Prop} [Decidable p] {a b : List Bs} (ha : Ws a) (hb : Ws b) : Ws (if p then a else b) := by split; exact ha; exact hb
theorem ws_iteP {p : Prop} [Decidable p] {a b : List Bs} (ha : p → Ws a) (hb : ¬ p → Ws b) : Ws (if p then a else b) := by split <;> rename_i h; exact ha h; exact hb h
theorem ws_flat {f : Nat → List Bs} {n : Nat} (h : ∀ i, i < n → Ws (f i)) : Ws ((List.range n).flatMap f) := fun x hx => by
  obtain ⟨i, hi, hx'⟩ := List.mem_flatMap.1 hx
  exact h i (List.mem_range.1 hi) x hx'
theorem it_len {n : Int} (h0 : 0 ≤ n) (h1 : n ≤ 9999) : (Lib.itoa n).length ≤ 21 := Lib.itoa_length_le n (by omega) (by omega)
theorem nm_len (f : UInt8) (i : Nat) : (nmB f i).length ≤ 21 := by unfold nmB; simp
theorem inp_len (i : Nat) : (inpF i).length ≤ 21 := by unfold inpF; split <;> exact nm_len _ _
theorem mk_len (k : Nat) : (mkF k).length ≤ 21 := by
  unfold mkF
  rcases k with _ | _ | _ | _ | _ | _ | k <;> simp
theorem core_ws {low : List Nat} {t : FTest} (h : TestOk low t) : Ws (coreW t) := by
  unfold coreW
  refine ws_ite (ws_cons (by decide) ws_nil) (ws_ite (ws_cons (inp_len _) ws_nil) (ws_ite (ws_cons (by decide) (ws_cons (nm_len _ _) ws_nil)) (ws_iteP (fun h3 => ws_cons (inp_len _) (ws_cons (mk_len _) (ws_cons ?_ ws_nil))) (fun _ => ws_cons (inp_len _) (ws_cons (mk_len _) (ws_cons (inp_len _) ws_nil))))))
  rcases h with h | ⟨h, -⟩ | ⟨h, -⟩ | ⟨-, -, -, -, n1, n2⟩
  · omega
  · omega
  · omega
  · exact it_len n1 n2
theorem tst_ws {low : List Nat} {t : FTest} (h : TestOk low t) (lo : Bool) : Ws (tstW t lo) := by
  unfold tstW
  exact (((ws_ite (ws_cons (by decide) ws_nil) ws_nil).app (ws_ite (ws_cons (by decide) ws_nil) ws_nil)).app (core_ws h)).app (ws_ite (ws_cons (by decide) ws_nil) ws_nil)
theorem grd_ws {low : List Nat} {ts : List FTest} (h : TestsOk low ts) (wh lo : Bool) : Ws (grdW wh ts lo) := by
  unfold grdW tstsN
  refine (((ws_ite (ws_cons (by decide) ws_nil) ws_nil).app (ws_ite (ws_cons (by decide) ws_nil) ws_nil)).app (ws_flat fun i hi => ?_)).app (ws_ite (ws_cons (by decide) ws_nil) ws_nil)
  refine Ws.app ?_ (tst_ws (h.2.2 _ (by simp [List.getD, hi])) lo)
  unfold joinW
  exact ws_ite ws_nil (ws_ite (ws_cons (by decide) ws_nil) (ws_cons (by decide) ws_nil))
theorem sum_ws {low : List Nat} {ps : List FPart} (h : PartsOk low ps) : Ws (sumW ps) := by
  unfold sumW sumWN
  refine ws_flat fun i hi => ?_
  have hp := h.2.2 (ps.getD i fp0) (by simp [List.getD, hi])
  generalize ps.getD i fp0 = p at *
  unfold partW signW timesW starW nameW
  refine (((ws_ite ws_nil (ws_ite (ws_cons (by decide) ws_nil) (ws_cons (by decide) ws_nil))).app (ws_iteP (fun hc => ws_cons ?_ ws_nil) (fun _ => ws_nil))).app (ws_ite (ws_cons (by decide) ws_nil) ws_nil)).app (ws_ite (ws_cons (inp_len _) ws_nil) (ws_ite (ws_cons (nm_len _ _) ws_nil) ws_nil))
  rcases hp with ⟨-, h1, -, -⟩ | ⟨h0, h1, -⟩ | ⟨-, h1, -⟩ | ⟨h1, -, -⟩
  · exact it_len h1.1 h1.2
  · rcases hc with hc | hc
    · exact absurd (hc.symm.trans h0) (by simp)
    · omega
  · exact it_len h1.1 (by omega)
  · exact it_len h1.1 (by omega)
theorem rul_ws {H : List Nat} {r : FRule} (h : RuleOk H r) (i : Nat) (lo : Bool) : Ws (rulW r i lo) ∧ (rulW r i lo).length ≤ 100 := by
  have h1 := grdW_len r.whole r.tests lo h.tests.1 h.tests.2.1
  have h2 := sumWN_len r.parts r.parts.length
  have h3 := h.parts.2.1
  refine ⟨?_, ?_⟩
  · have q1 : Ws [[114, 117, 108, 101], nmB 114 i, [58], nmB 99 r.head, [61]] := ws_cons (by decide) (ws_cons (nm_len _ _) (ws_cons (by decide) (ws_cons (nm_len _ _) (ws_cons (by decide) ws_nil))))
    unfold rulW
    exact (((q1.app (sum_ws h.parts)).app (ws_cons (by decide) ws_nil)).app (grd_ws h.tests _ _)).app (ws_cons (by decide) ws_nil)
  · unfold rulW sumW
    simp only [List.length_append, List.length_cons, List.length_nil]
    omega
theorem lines_ws {M : FMade} (h : MadeOk M) (lo : Bool) : ∀ l ∈ linesW M lo, Ws l ∧ l.length ≤ 100 := fun l hl => by
  unfold linesW at hl
  rcases List.mem_append.1 hl with hl | hl
  · rcases List.mem_append.1 hl with hl | hl
    · obtain ⟨i, -, rfl⟩ := List.mem_map.1 hl
      unfold inLn
      split
      · rename_i h3
        have := h.nums i h3
        exact ⟨ws_cons (by decide) (ws_cons (inp_len _) (ws_cons (it_len (by omega) (by omega)) (ws_cons (by decide) (ws_cons (it_len (by omega) (by omega)) (ws_cons (by decide) ws_nil))))), by simp⟩
      · exact ⟨ws_cons (by decide) (ws_cons (inp_len _) (ws_cons (by decide) ws_nil)), by simp⟩
    · obtain ⟨i, hi, rfl⟩ := List.mem_map.1 hl
      exact rul_ws (h.rules _ (by simp [List.getD, List.mem_range.1 hi])) i lo
  · obtain ⟨i, -, hl⟩ := List.mem_flatMap.1 hl
    unfold fovN at hl
    obtain ⟨j, -, hl⟩ := List.mem_flatMap.1 hl
    split at hl
    · rw [List.mem_singleton.1 hl]
      exact ⟨ws_cons (by decide) (ws_cons (nm_len _ _) (ws_cons (nm_len _ _) (ws_cons (by decide) ws_nil))), by simp [ovLn]⟩
    · cases hl
theorem gd_mem {α : Type} {l : List α} {i : Nat} (d : α) (h : i < l.length) : l.getD i d ∈ l := by simp [List.getD, h]
theorem lines_short {M : FMade} (h : MadeOk M) (lo : Bool) : ShortF (linesW M lo) := by
  have hl := lines_ws h lo
  have hm : ∀ i, i < (linesW M lo).length → (linesW M lo).getD i [] ∈ linesW M lo := fun i hi => by simp [List.getD, hi]
  refine ⟨?_, fun i hi => (hl _ (hm i hi)).2, fun i k hi hk => (hl _ (hm i hi)).1 _ (gd_mem [] hk)⟩
  have h1 := fovA_len M M.rules.length M.rules.length
  have h2 := h.few
  have h3 : M.rules.length * M.rules.length ≤ 64 := Nat.mul_le_mul h2 h2
  unfold linesW
  simp only [List.length_append, List.length_map, List.length_range]
  omega

set_option maxHeartbeats 1000000 in
theorem fText_s (w : World) (g : Nat) (M : FMade) (hM : MadeV w g M) (hO : MadeOk M) (hT : TabK w) :
    Calls Tryz.prog 21 #[.pointer (some ⟨g, 0, none⟩)] w fun e w' => e = .returned (.string ⟨(wrB (linesW M false)).toArray⟩) ∧ Below w.heap.size w w' := by
  have HL := hideP2 (fLines_s w g M false hM hO hT)
  have HW := hideP2 (fun w' a c (h : OutV w' a (linesW M false)) => fWritten_s w' a c (linesW M false) h (lines_short hO false))
  generalize wrB (linesW M false) = tx at *
  clear hM hO hT
  go_enter Tryz.func21, Tryz.ntmps21
  go_wp2_with fail
  refine HL.out.mono ?_
  rintro e w1 ⟨v, vs, rfl, hS⟩
  obtain ⟨a, c, rfl, hc⟩ := own_celT hS.own
  have HWw := hideP2 (HW.out w1 a c ⟨vs, hc, hS.ins⟩)
  have HB := hideP2 hS.bel
  clear hS hc
  go_wp2_with fail
  refine HWw.out.mono ?_
  rintro e w2 ⟨rfl, hw⟩; obtain rfl := hw.symm
  go_wp2_with fail
  go_ret
  exact ⟨rfl, HB.out⟩
end Go.Proofs.YtnbpdffdnphbeaaGreatDoor
