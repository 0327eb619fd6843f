/- What the program's links tell of lines that lie in memory: conclusions, labels, places of names. -/
import Derived.Test.YtnbpdffdnphbeaaGreatCkLines2
namespace Go.Proofs.YtnbpdffdnphbeaaGreat
open Go.RowKit

/-- The place of a name, or -1. -/
def findI (nm : Bs) : List Bs → Nat → Int
  | [], _ => -1
  | x :: r, i => if x = nm then (i : Int) else findI nm r (i + 1)
def findN (names : List Bs) (nm : Bs) : Int := findI nm names 0
def headsG : List PLine → List Bs → List Bs
  | [], acc => acc
  | x :: r, acc => headsG r (if x.kind = 3 ∧ findN acc x.conc < 0 then acc ++ [x.conc] else acc)
def headsB (ls : List PLine) : List Bs := headsG ls []
def labsG : List PLine → List Bs → List Bs
  | [], acc => acc
  | x :: r, acc => labsG r (if x.kind = 3 then acc ++ [x.name] else acc)
def labsB (ls : List PLine) : List Bs := labsG ls []

theorem findI_bound (nm : Bs) (l : List Bs) : ∀ i : Nat, -1 ≤ findI nm l i ∧ findI nm l i < (i : Int) + l.length := by
  induction l with
  | nil => intro i; simp [findI]; omega
  | cons x r ih => intro i; rw [findI]; split
                   · simp; omega
                   · have := ih (i + 1); simp only [List.length_cons]; omega
theorem findI_drop (nm : Bs) (l : List Bs) (i : Nat) (h : i < l.length) : findI nm (l.drop i) i = if l.getD i [] = nm then (i : Int) else findI nm (l.drop (i + 1)) (i + 1) := by
  rw [List.drop_eq_getElem_cons h, findI]; simp [List.getD, h]
theorem headsG_drop (ls : List PLine) (i : Nat) (acc : List Bs) (h : i < ls.length) : headsG (ls.drop i) acc = headsG (ls.drop (i + 1)) (if (lA ls i).kind = 3 ∧ findN acc (lA ls i).conc < 0 then acc ++ [(lA ls i).conc] else acc) := by
  rw [List.drop_eq_getElem_cons h, headsG]; simp [lA, List.getD, h]
theorem labsG_drop (ls : List PLine) (i : Nat) (acc : List Bs) (h : i < ls.length) : labsG (ls.drop i) acc = labsG (ls.drop (i + 1)) (if (lA ls i).kind = 3 then acc ++ [(lA ls i).name] else acc) := by
  rw [List.drop_eq_getElem_cons h, labsG]; simp [lA, List.getD, h]

def strC (l : List Bs) : List Value := l.map fun s => Value.string ⟨s.toArray⟩
/-- Names lie in memory, behind a slice's pointer. -/
structure StrV (w : World) (a : Option Addr) (names : List Bs) : Prop where
  blk : 0 < names.length → ∃ g, a = some ⟨g, 0, none⟩ ∧ ∀ i, i < names.length → w.cell? ⟨g, i, none⟩ = some (.string ⟨(names.getD i []).toArray⟩)
  few : names.length ≤ 10000

theorem strC_get (names : List Bs) (i : Nat) (h : i < names.length) : (strC names)[i]? = some (.string ⟨(names.getD i []).toArray⟩) := by
  simp [strC, List.getD, h]
theorem own_str {w : World} {B : Nat} {v : Value} {names : List Bs} (h : w.ownsRow B 9 1 v names.length (strC names)) (hf : names.length ≤ 10000) : ∃ a c, v = .slice a names.length c ∧ StrV w a names := by
  rcases h.2 with ⟨h1, h2⟩ | ⟨g, cap, cur, h1, _, h3, _, _, _, h7⟩
  · exact ⟨none, 0, by rw [h1, h2], ⟨fun h0 => by omega, hf⟩⟩
  · refine ⟨some ⟨g, 0, none⟩, cap, h1, ⟨fun _ => ⟨g, rfl, fun i hi => cell_take2 h3 (n := names.length * 1) h7 (strC_get names i hi)⟩, hf⟩⟩

set_option maxHeartbeats 1000000 in
theorem find_s (w : World) (a : Option Addr) (c : Nat) (names : List Bs) (nm : Bs) (h : StrV w a names) :
    Calls Tryz.prog 54 #[.slice a names.length c, .string ⟨nm.toArray⟩] w fun e w' => e = .returned (.int .i64 (findN names nm)) ∧ w' = w := by
  have HS := hideP2 h
  have hfew := h.few
  clear h
  go_enter Tryz.func54, Tryz.ntmps54
  go_wp2_with fail
  go_loop [9] (fun iv => ∃ (i : Nat), i ≤ names.length ∧ iv = .int .i64 i ∧ Hid (findI nm (names.drop i) i = findN names nm)) (fun iv => names.length - (intOf iv).toNat)
  case atStart => exact ⟨0, Nat.zero_le _, rfl, hideP2 rfl⟩
  case round =>
    obtain ⟨i, hi, rfl, HE⟩ := hrel
    by_cases hlt : i < names.length
    · obtain ⟨g, rfl, hcs⟩ := HS.out.blk (by omega)
      have hc := hcs i hlt
      have hE := HE.out
      rw [findI_drop nm names i hlt] at hE
      have HE2 := hideP2 hE
      clear HE hE hcs
      generalize names.getD i [] = s at *
      by_cases k1 : s = nm
      · have HE3 : Hid (findN names nm = i) := by have := HE2.out; rw [if_pos k1] at this; exact this.symm
        have b1 : (s == nm) = true := by simpa using k1
        clear HE2 k1
        go_wp2_with fail
        go_ret
        exact ⟨ret_int HE3.out.symm, rfl⟩
      · have HE3 : Hid (findI nm (names.drop (i + 1)) (i + 1) = findN names nm) := by have := HE2.out; rw [if_neg k1] at this; exact this
        have b1 : (s == nm) = false := by simpa using k1
        clear HE2 k1
        go_wp2_with fail
        go_round
        case rel => exact ⟨i + 1, by omega, by go_num, HE3⟩
        case measure => simp [intOf]; omega
    · have HE3 : Hid (findN names nm = -1) := by have := HE.out; rw [List.drop_eq_nil_of_le (by omega)] at this; exact this.symm
      clear HE
      go_wp2_with fail
      go_ret
      exact ⟨ret_int HE3.out.symm, rfl⟩

theorem infoStr : (Tryz.prog.info? 9).map (fun i => (i.zero, i.size, i.bytes)) = some (some (.string ⟨#[]⟩), 1, 16) := by kernel_rfl
theorem strC_snoc (l : List Bs) (s : Bs) : strC (l ++ [s]) = strC l ++ [.string ⟨s.toArray⟩] := by simp [strC]

set_option maxHeartbeats 2000000 in
theorem conclusions_s (w : World) (a : Option Addr) (c : Nat) (ls : List LX) (h : LinV w a ls) :
    Calls Tryz.prog 37 #[.slice a ls.length c] w fun e w' => ∃ v, e = .returned v ∧ w'.ownsRow w.heap.size 9 1 v (headsB (fs ls)).length (strC (headsB (fs ls))) ∧ (headsB (fs ls)).length ≤ ls.length ∧ Below w.heap.size w w' := by
  obtain ⟨i0, hi0, hz0, hz1, hz2⟩ := info_parts infoStr
  have HL := hideP2 h
  have hfew := h.few
  obtain ⟨B, hB⟩ : ∃ B, B = w.heap.size := ⟨_, rfl⟩
  have HB0 := hideP2 hB
  clear h hB
  go_enter Tryz.func37, Tryz.ntmps37
  go_wp2_with fail
  go_loopw [3, 9] (fun ov iv wr => ∃ (i : Nat) (acc : List Bs), i ≤ ls.length ∧ acc.length ≤ i ∧ iv = .int .i64 i ∧ Hid (wr.ownsRow B 9 1 ov acc.length (strC acc)) ∧ Hid (Below B w wr) ∧ Hid (headsG ((fs ls).drop i) acc = headsB (fs ls))) (fun _ iv _ => ls.length - (intOf iv).toNat)
  case atStart => exact ⟨0, [], Nat.zero_le _, Nat.le_refl _, rfl, hideP2 ⟨rfl, .inr ⟨w.heap.size, 0, #[], rfl, by rw [HB0.out]; exact Nat.le_refl _, hb_end _ _, Nat.le_refl _, Nat.zero_le _, rfl, rfl⟩⟩, hideP2 ((Below.refl _ _).alloc (by rw [HB0.out]; exact Nat.le_refl _) _), hideP2 rfl⟩
  case round =>
    obtain ⟨i, acc, hi, hacc, rfl, HO, HB, HE⟩ := hrel
    by_cases hlt : i < ls.length
    · obtain ⟨gl, sa, sn, sc, na, nn, nc, rfl, hgl, ⟨c0, c1, c2, c3, c4, c5, c6, c7, c8, c9, c10⟩, _, _⟩ := (HL.out.below HB.out (by rw [HB0.out]; exact Nat.le_refl _)).line hlt
      have hE := HE.out
      rw [headsG_drop _ i _ (by simpa using hlt), fs_get] at hE
      have HE2 := hideP2 hE
      have hsz : B ≤ wr.heap.size := by have := HB.out.size; have h2 := HB0.out; omega
      obtain ⟨oa, oc, rfl, hstr⟩ := own_str HO.out (by omega)
      have HF := hideP2 (fun w' (hb : Below wr.heap.size wr w') nm => find_s w' oa oc acc nm ⟨fun h0 => let ⟨g, e, p⟩ := hstr.blk h0; ⟨g, e, fun j hj => by rw [hb.cell (p := ⟨g, j, none⟩) (by rcases Nat.lt_or_ge g wr.heap.size with h1 | h1; exact h1; have := p j hj; rw [World.cell?, Array.getElem?_eq_none (by simpa using h1)] at this; cases this)]; exact p j hj⟩, hstr.few⟩)
      clear HE hE hstr
      generalize (lAt ls i).1 = x at *
      obtain ⟨kd, n1, lo, hi', cc, S, N, ro, te, de, lw⟩ := x
      simp only at c0 c1 c2 c3 c4 c5 c6 c7 c8 c9 c10
      by_cases k1 : kd = 3
      · have b1 : (kd == 3) = true := by simpa using k1
        by_cases k2 : findN acc cc < 0
        · have HE3 : Hid (headsG ((fs ls).drop (i + 1)) (acc ++ [cc]) = headsB (fs ls)) := by have := HE2.out; rw [if_pos ⟨k1, k2⟩] at this; exact this
          clear HE2 k1
          go_wp2_with fail
          refine (HF.out _ ((Below.refl _ _).alloc (Nat.le_refl _) _) cc).mono ?_
          rintro e w1 ⟨rfl, hw⟩; obtain rfl := hw.symm
          go_wp2_with (at_builtin; refine wpList_append_own _ rfl _ _ 32 rfl B 9 i0 _ 1 16 Tryz.underlying32 hi0 hz0 hz1 hz2 rfl (by decide) _ _ _ rfl ((HO.out.alloc _).alloc _) ⟨wr.heap.size + 1, 0, none⟩ 1 1 [.string ⟨cc.toArray⟩] rfl rfl ?c1 ?c2 ?c3 ?c4 ?c5 ?_)
          case c1 => exact World.news_of_block (heap_alloc2_new wr _ _)
          case c2 => intro u hu; simp at hu; subst hu; rfl
          case c3 => unfold maxLen; omega
          case c4 => omega
          case c5 => simp; omega
          intro v' w2 hown1 hgrow _
          have HB2 : Hid (Below B w w2) := ((HB.out.alloc hsz _).alloc (Nat.le_trans hsz (Nat.le_of_lt (lt_end _ _))) _).grown hgrow (by simp; omega) (own_block_le HO.out)
          have HO2 : Hid (w2.ownsRow B 9 1 v' (acc ++ [cc]).length (strC (acc ++ [cc]))) := by unfold Hid; rw [strC_snoc]; simpa using hown1
          clear hgrow hown1
          go_wp2_with fail
          go_roundw
          case rel => exact ⟨i + 1, acc ++ [cc], by omega, by simp; omega, by go_num, HO2, HB2, HE3⟩
          case measure => simp [intOf]; omega
        · have HE3 : Hid (headsG ((fs ls).drop (i + 1)) acc = headsB (fs ls)) := by have := HE2.out; rw [if_neg (fun h => k2 h.2)] at this; exact this
          have k3 : decide (findN acc cc < 0) = false := decide_eq_false k2
          clear HE2 k1
          go_wp2_with fail
          refine (HF.out _ ((Below.refl _ _).alloc (Nat.le_refl _) _) cc).mono ?_
          rintro e w1 ⟨rfl, hw⟩; obtain rfl := hw.symm
          go_wp2_with fail
          go_roundw
          case rel => exact ⟨i + 1, acc, by omega, by omega, by go_num, hideP2 (HO.out.alloc _), hideP2 (HB.out.alloc hsz _), HE3⟩
          case measure => simp [intOf]; omega
      · have HE3 : Hid (headsG ((fs ls).drop (i + 1)) acc = headsB (fs ls)) := by have := HE2.out; rw [if_neg (fun h => k1 h.1)] at this; exact this
        have b1 : (kd == 3) = false := by simpa using k1
        clear HE2 k1
        go_wp2_with fail
        go_roundw
        case rel => exact ⟨i + 1, acc, by omega, by omega, by go_num, hideP2 (HO.out.alloc _), hideP2 (HB.out.alloc hsz _), HE3⟩
        case measure => simp [intOf]; omega
    · have HE3 : Hid (acc = headsB (fs ls)) := by have := HE.out; rw [List.drop_eq_nil_of_le (by simp; omega)] at this; exact this
      clear HE
      go_wp2_with fail
      go_ret
      exact ⟨_, rfl, by rw [← HE3.out, ← HB0.out]; exact HO.out, by rw [← HE3.out]; omega, by rw [← HB0.out]; exact HB.out⟩

set_option maxHeartbeats 2000000 in
theorem ruleLabels_s (w : World) (a : Option Addr) (c : Nat) (ls : List LX) (h : LinV w a ls) :
    Calls Tryz.prog 38 #[.slice a ls.length c] w fun e w' => ∃ v, e = .returned v ∧ w'.ownsRow w.heap.size 9 1 v (labsB (fs ls)).length (strC (labsB (fs ls))) ∧ (labsB (fs ls)).length ≤ ls.length ∧ Below w.heap.size w w' := by
  obtain ⟨i0, hi0, hz0, hz1, hz2⟩ := info_parts infoStr
  have HL := hideP2 h
  have hfew := h.few
  obtain ⟨B, hB⟩ : ∃ B, B = w.heap.size := ⟨_, rfl⟩
  have HB0 := hideP2 hB
  clear h hB
  go_enter Tryz.func38, Tryz.ntmps38
  go_wp2_with fail
  go_loopw [3, 9] (fun ov iv wr => ∃ (i : Nat) (acc : List Bs), i ≤ ls.length ∧ acc.length ≤ i ∧ iv = .int .i64 i ∧ Hid (wr.ownsRow B 9 1 ov acc.length (strC acc)) ∧ Hid (Below B w wr) ∧ Hid (labsG ((fs ls).drop i) acc = labsB (fs ls))) (fun _ iv _ => ls.length - (intOf iv).toNat)
  case atStart => exact ⟨0, [], Nat.zero_le _, Nat.le_refl _, rfl, hideP2 ⟨rfl, .inr ⟨w.heap.size, 0, #[], rfl, by rw [HB0.out]; exact Nat.le_refl _, hb_end _ _, Nat.le_refl _, Nat.zero_le _, rfl, rfl⟩⟩, hideP2 ((Below.refl _ _).alloc (by rw [HB0.out]; exact Nat.le_refl _) _), hideP2 rfl⟩
  case round =>
    obtain ⟨i, acc, hi, hacc, rfl, HO, HB, HE⟩ := hrel
    by_cases hlt : i < ls.length
    · obtain ⟨gl, sa, sn, sc, na, nn, nc, rfl, hgl, ⟨c0, c1, c2, c3, c4, c5, c6, c7, c8, c9, c10⟩, _, _⟩ := (HL.out.below HB.out (by rw [HB0.out]; exact Nat.le_refl _)).line hlt
      have hE := HE.out
      rw [labsG_drop _ i _ (by simpa using hlt), fs_get] at hE
      have HE2 := hideP2 hE
      have hsz : B ≤ wr.heap.size := by have := HB.out.size; have h2 := HB0.out; omega
      clear HE hE
      generalize (lAt ls i).1 = x at *
      obtain ⟨kd, n1, lo, hi', cc, S, N, ro, te, de, lw⟩ := x
      simp only at c0 c1 c2 c3 c4 c5 c6 c7 c8 c9 c10
      by_cases k1 : kd = 3
      · have b1 : (kd == 3) = true := by simpa using k1
        have HE3 : Hid (labsG ((fs ls).drop (i + 1)) (acc ++ [n1]) = labsB (fs ls)) := by have := HE2.out; rw [if_pos k1] at this; exact this
        clear HE2 k1
        go_wp2_with (at_builtin; refine wpList_append_own _ rfl _ _ 32 rfl B 9 i0 _ 1 16 Tryz.underlying32 hi0 hz0 hz1 hz2 rfl (by decide) _ _ _ rfl ((HO.out.alloc _).alloc _) ⟨wr.heap.size + 1, 0, none⟩ 1 1 [.string ⟨n1.toArray⟩] rfl rfl ?c1 ?c2 ?c3 ?c4 ?c5 ?_)
        case c1 => exact World.news_of_block (heap_alloc2_new wr _ _)
        case c2 => intro u hu; simp at hu; subst hu; rfl
        case c3 => unfold maxLen; omega
        case c4 => omega
        case c5 => simp; omega
        intro v' w2 hown1 hgrow _
        have HB2 : Hid (Below B w w2) := ((HB.out.alloc hsz _).alloc (Nat.le_trans hsz (Nat.le_of_lt (lt_end _ _))) _).grown hgrow (by simp; omega) (own_block_le HO.out)
        have HO2 : Hid (w2.ownsRow B 9 1 v' (acc ++ [n1]).length (strC (acc ++ [n1]))) := by unfold Hid; rw [strC_snoc]; simpa using hown1
        clear hgrow hown1
        go_wp2_with fail
        go_roundw
        case rel => exact ⟨i + 1, acc ++ [n1], by omega, by simp; omega, by go_num, HO2, HB2, HE3⟩
        case measure => simp [intOf]; omega
      · have HE3 : Hid (labsG ((fs ls).drop (i + 1)) acc = labsB (fs ls)) := by have := HE2.out; rw [if_neg k1] at this; exact this
        have b1 : (kd == 3) = false := by simpa using k1
        clear HE2 k1
        go_wp2_with fail
        go_roundw
        case rel => exact ⟨i + 1, acc, by omega, by omega, by go_num, hideP2 (HO.out.alloc _), hideP2 (HB.out.alloc hsz _), HE3⟩
        case measure => simp [intOf]; omega
    · have HE3 : Hid (acc = labsB (fs ls)) := by have := HE.out; rw [List.drop_eq_nil_of_le (by simp; omega)] at this; exact this
      clear HE
      go_wp2_with fail
      go_ret
      exact ⟨_, rfl, by rw [← HE3.out, ← HB0.out]; exact HO.out, by rw [← HE3.out]; omega, by rw [← HB0.out]; exact HB.out⟩
end Go.Proofs.YtnbpdffdnphbeaaGreat
