/- What the small functions of the program's check answer of lines that lie in memory. -/
import Derived.Test.YtnbpdffdnphbeaaGreatDoorWsum
import Derived.Test.YtnbpdffdnphbeaaGreatDoorPGraph
namespace Go.Proofs.YtnbpdffdnphbeaaGreatDoor
open Go.RowKit

theorem NodB.below {w w' : World} {B gN : Nat} {cur : Array Value} {N : List PNode} (h : NodB w gN cur N) (hb : Below B w w') (hB : w.heap.size ≤ B) : NodB w' gN cur N := by
  refine ⟨?_, h.row⟩
  rw [hb.block gN (Nat.lt_of_lt_of_le h.lt hB)]; exact h.blk
theorem ParB.below {w w' : World} {B gS : Nat} {cur : Array Value} {S : List PPart} (h : ParB w gS cur S) (hb : Below B w w') (hB : w.heap.size ≤ B) : ParB w' gS cur S := by
  refine ⟨?_, h.row⟩
  rw [hb.block gS (Nat.lt_of_lt_of_le h.lt hB)]; exact h.blk
theorem LinB.below {w w' : World} {B gl : Nat} {cur : Array Value} {ls : List LX} (h : LinB w gl cur ls) (hb : Below B w w') (hB : w.heap.size ≤ B) : LinB w' gl cur ls := by
  refine ⟨?_, h.row⟩
  rw [hb.block gl (Nat.lt_of_lt_of_le h.lt hB)]; exact h.blk
theorem LineB.below {w w' : World} {B : Nat} {x : LX} (h : LineB w x) (hb : Below B w w') (hB : w.heap.size ≤ B) : LineB w' x :=
  ⟨h.s1, h.s2, fun h0 => let ⟨g, c, cur, e, p⟩ := h.sum h0; ⟨g, c, cur, e, p.below hb hB⟩, fun h0 => let ⟨g, c, cur, e, p⟩ := h.nod h0; ⟨g, c, cur, e, p.below hb hB⟩⟩

/-- A line that was read, in memory. -/
structure LineC (w : World) (x : LX) : Prop where
  b : LineB w x
  g : GoodP x.1
  nds : x.1.nd.length ≤ maxLen
theorem LineC.below {w w' : World} {B : Nat} {x : LX} (h : LineC w x) (hb : Below B w w') (hB : w.heap.size ≤ B) : LineC w' x := ⟨h.b.below hb hB, h.g, h.nds⟩

/-- Lines lie in memory, behind a slice's pointer. -/
structure LinV (w : World) (a : Option Addr) (ls : List LX) : Prop where
  blk : 0 < ls.length → ∃ gl cur, a = some ⟨gl, 0, none⟩ ∧ LinB w gl cur ls
  rows : ∀ x ∈ ls, LineC w x
  few : ls.length ≤ 10000

theorem LinV.below {w w' : World} {B : Nat} {a : Option Addr} {ls : List LX} (h : LinV w a ls) (hb : Below B w w') (hB : w.heap.size ≤ B) : LinV w' a ls :=
  ⟨fun h0 => let ⟨gl, cur, e, p⟩ := h.blk h0; ⟨gl, cur, e, p.below hb hB⟩, fun x hx => (h.rows x hx).below hb hB, h.few⟩

theorem flatL_take (ls : List LX) (n : Nat) (h : n ≤ ls.length) : (flatL ls).take (n * 11) = flatL (ls.take n) := by
  induction ls generalizing n with
  | nil => simp [flatL]
  | cons x r ih =>
    cases n with
    | zero => simp [flatL]
    | succ n =>
      have e : ∀ (y : LX) (l : List LX), flatL (y :: l) = lineC y ++ flatL l := fun y l => by simp [flatL]
      have hl : (lineC x).length = 11 := rfl
      rw [List.take_succ_cons, e, e, List.take_append, hl, List.take_of_length_le (by rw [hl]; omega), show (n + 1) * 11 - 11 = n * 11 by omega, ih n (by simpa using h)]

theorem LinV.take {w : World} {a : Option Addr} {ls : List LX} (h : LinV w a ls) (n : Nat) : LinV w a (ls.take n) := by
  refine ⟨fun h0 => ?_, fun x hx => h.rows x (List.mem_of_mem_take hx), by have := h.few; rw [List.length_take]; omega⟩
  rw [List.length_take] at h0
  obtain ⟨gl, cur, e, p⟩ := h.blk (by omega)
  refine ⟨gl, cur, e, p.blk, ?_⟩
  rcases Nat.le_total n ls.length with hn | hn
  · rw [List.length_take, Nat.min_eq_left hn, ← flatL_take ls n hn, ← p.row, List.take_take, Nat.min_eq_left (by omega)]
  · rw [List.take_of_length_le hn]; exact p.row

/-- The cells of one line. -/
structure LnAt (w : World) (gl i : Nat) (x : PLine) (sv nv : Value) : Prop where
  c0 : w.cell? ⟨gl, i * 11, none⟩ = some (.int .i64 x.kind)
  c1 : w.cell? ⟨gl, i * 11 + 1, none⟩ = some (.string ⟨x.name.toArray⟩)
  c2 : w.cell? ⟨gl, i * 11 + 2, none⟩ = some (.int .i64 x.low)
  c3 : w.cell? ⟨gl, i * 11 + 3, none⟩ = some (.int .i64 x.high)
  c4 : w.cell? ⟨gl, i * 11 + 4, none⟩ = some (.string ⟨x.conc.toArray⟩)
  c5 : w.cell? ⟨gl, i * 11 + 5, none⟩ = some sv
  c6 : w.cell? ⟨gl, i * 11 + 6, none⟩ = some nv
  c7 : w.cell? ⟨gl, i * 11 + 7, none⟩ = some (.int .i64 x.root)
  c8 : w.cell? ⟨gl, i * 11 + 8, none⟩ = some (.int .i64 x.tests)
  c9 : w.cell? ⟨gl, i * 11 + 9, none⟩ = some (.int .i64 x.dep)
  c10 : w.cell? ⟨gl, i * 11 + 10, none⟩ = some (.string ⟨x.lower.toArray⟩)

theorem LinV.line {w : World} {a : Option Addr} {ls : List LX} (h : LinV w a ls) {i : Nat} (hi : i < ls.length) :
    ∃ gl sa sn sc na nn nc, a = some ⟨gl, 0, none⟩ ∧ gl < w.heap.size ∧ LnAt w gl i (lAt ls i).1 (.slice sa sn sc) (.slice na nn nc) ∧ (lAt ls i).2 = (.slice sa sn sc, .slice na nn nc) ∧ LineC w (lAt ls i) := by
  obtain ⟨gl, cur, rfl, p⟩ := h.blk (by omega)
  have hb := h.rows _ (lAt_mem hi)
  obtain ⟨sa, sn, sc, e1⟩ := hb.b.s1
  obtain ⟨na, nn, nc, e2⟩ := hb.b.s2
  have hx := fun j hj (u : Value) hu => p.cell hi j hj (u := u) hu
  refine ⟨gl, sa, sn, sc, na, nn, nc, rfl, p.lt, ⟨hx 0 (by omega) _ rfl, hx 1 (by omega) _ rfl, hx 2 (by omega) _ rfl, hx 3 (by omega) _ rfl, hx 4 (by omega) _ rfl, hx 5 (by omega) _ (by rw [← e1]; rfl), hx 6 (by omega) _ (by rw [← e2]; rfl), hx 7 (by omega) _ rfl, hx 8 (by omega) _ rfl, hx 9 (by omega) _ rfl, hx 10 (by omega) _ rfl⟩, ?_, hb⟩
  rw [← e1, ← e2]

theorem any_drop {α : Type} (p : α → Bool) (d : α) (l : List α) (i : Nat) (h : i < l.length) : (l.drop i).any p = (p (l.getD i d) || (l.drop (i + 1)).any p) := by
  rw [List.drop_eq_getElem_cons h, List.any_cons]; simp [List.getD, h]

abbrev fs (ls : List LX) : List PLine := ls.map Prod.fst
theorem fs_get (ls : List LX) (i : Nat) : lA (fs ls) i = (lAt ls i).1 := by
  unfold lA lAt; simp only [List.getD, List.getElem?_map]
  cases ls[i]? <;> rfl

set_option maxHeartbeats 1000000 in
theorem hasLine_s (w : World) (a : Option Addr) (c : Nat) (ls : List LX) (k : Int) (nm : Bs) (h : LinV w a ls) :
    Calls Tryz.prog 219 #[.slice a ls.length c, .int .i64 k, .string ⟨nm.toArray⟩] w fun e w' => e = .returned (.bool (hasL (fs ls) k nm)) ∧ Below w.heap.size w w' := by
  have HL := hideP2 h
  have hfew := h.few
  clear h
  go_enter Tryz.func219, Tryz.ntmps219
  go_wp2_with fail
  go_loopw [11] (fun iv wr => ∃ (i : Nat), i ≤ ls.length ∧ iv = .int .i64 i ∧ Hid (Below w.heap.size w wr) ∧ Hid (((fs ls).drop i).any (isL k nm) = hasL (fs ls) k nm)) (fun iv _ => ls.length - (intOf iv).toNat)
  case atStart => exact ⟨0, Nat.zero_le _, rfl, hideP2 (Below.refl _ _), hideP2 rfl⟩
  case round =>
    obtain ⟨i, hi, rfl, HB, HE⟩ := hrel
    by_cases hlt : i < ls.length
    · obtain ⟨gl, sa, sn, sc, na, nn, nc, rfl, hgl, ⟨c0, c1, c2, c3, c4, c5, c6, c7, c8, c9, c10⟩, _, _⟩ := (HL.out.below HB.out (Nat.le_refl _)).line hlt
      have hE := HE.out
      rw [any_drop _ pl0 _ i (by simpa using hlt), show (fs ls).getD i pl0 = lA (fs ls) i from rfl, fs_get] at hE
      have HE2 := hideP2 hE
      have hsz := HB.out.size
      clear HE hE
      generalize (lAt ls i).1 = x at *
      obtain ⟨kd, n1, lo, hi', cc, S, N, ro, te, de, lw⟩ := x
      simp only at c0 c1 c2 c3 c4 c5 c6 c7 c8 c9 c10
      by_cases k1 : kd = k
      · by_cases k2 : n1 = nm
        · have HE3 : Hid (hasL (fs ls) k nm = true) := by have := HE2.out; unfold Hid; rw [← this]; simp [isL, k1, k2]
          have b1 : (kd == k) = true := by simpa using k1
          have b2 : (n1 == nm) = true := by simpa using k2
          clear HE2 k1 k2
          go_wp2_with fail
          go_ret
          exact ⟨ret_bool HE3.out.symm, HB.out.alloc hsz _⟩
        · have HE3 : Hid (((fs ls).drop (i + 1)).any (isL k nm) = hasL (fs ls) k nm) := by have := HE2.out; unfold Hid; rw [← this]; simp [isL, k2]
          have b1 : (kd == k) = true := by simpa using k1
          have b2 : (n1 == nm) = false := by simpa using k2
          clear HE2 k1 k2
          go_wp2_with fail
          go_roundw
          case rel => exact ⟨i + 1, by omega, by go_num, hideP2 (HB.out.alloc hsz _), HE3⟩
          case measure => simp [intOf]; omega
      · have HE3 : Hid (((fs ls).drop (i + 1)).any (isL k nm) = hasL (fs ls) k nm) := by have := HE2.out; unfold Hid; rw [← this]; simp [isL, k1]
        have b1 : (kd == k) = false := by simpa using k1
        clear HE2 k1
        go_wp2_with fail
        go_roundw
        case rel => exact ⟨i + 1, by omega, by go_num, hideP2 (HB.out.alloc hsz _), HE3⟩
        case measure => simp [intOf]; omega
    · have HE3 : Hid (hasL (fs ls) k nm = false) := by have := HE.out; rw [List.drop_eq_nil_of_le (by simp; omega)] at this; exact this.symm
      clear HE
      go_wp2_with fail
      go_ret
      exact ⟨ret_bool HE3.out.symm, HB.out⟩
end Go.Proofs.YtnbpdffdnphbeaaGreatDoor

/- What more of the small functions of the program's check answer of lines that lie in memory. -/
namespace Go.Proofs.YtnbpdffdnphbeaaGreatDoor
open Go.RowKit

theorem cntK_drop (k : Int) (ls : List PLine) (i : Nat) (h : i < ls.length) : cntK k (ls.drop i) = (if (lA ls i).kind = k then 1 else 0) + cntK k (ls.drop (i + 1)) := by
  rw [List.drop_eq_getElem_cons h, cntK]; simp [lA, List.getD, h]
theorem cntK_le (k : Int) (ls : List PLine) : cntK k ls ≤ ls.length := by
  induction ls with
  | nil => exact Nat.le_refl _
  | cons x r ih => rw [cntK, List.length_cons]; split <;> omega
theorem findG_drop (p : PLine → Bool) (ls : List PLine) (i : Nat) (h : i < ls.length) : findG p (ls.drop i) i = if p (lA ls i) then i else findG p (ls.drop (i + 1)) (i + 1) := by
  rw [List.drop_eq_getElem_cons h, findG]; simp [lA, List.getD, h]
theorem fs_len (ls : List LX) : (fs ls).length = ls.length := by simp

set_option maxHeartbeats 1000000 in
theorem isConclusion_s (w : World) (a : Option Addr) (c : Nat) (ls : List LX) (nm : Bs) (h : LinV w a ls) :
    Calls Tryz.prog 220 #[.slice a ls.length c, .string ⟨nm.toArray⟩] w fun e w' => e = .returned (.bool (isCon (fs ls) nm)) ∧ Below w.heap.size w w' := by
  have HL := hideP2 h
  have hfew := h.few
  clear h
  go_enter Tryz.func220, Tryz.ntmps220
  go_wp2_with fail
  go_loopw [9] (fun iv wr => ∃ (i : Nat), i ≤ ls.length ∧ iv = .int .i64 i ∧ Hid (Below w.heap.size w wr) ∧ Hid (((fs ls).drop i).any (isC nm) = isCon (fs ls) nm)) (fun iv _ => ls.length - (intOf iv).toNat)
  case atStart => exact ⟨0, Nat.zero_le _, rfl, hideP2 (Below.refl _ _), hideP2 rfl⟩
  case round =>
    obtain ⟨i, hi, rfl, HB, HE⟩ := hrel
    by_cases hlt : i < ls.length
    · obtain ⟨gl, sa, sn, sc, na, nn, nc, rfl, hgl, ⟨c0, c1, c2, c3, c4, c5, c6, c7, c8, c9, c10⟩, _, _⟩ := (HL.out.below HB.out (Nat.le_refl _)).line hlt
      have hE := HE.out
      rw [any_drop _ pl0 _ i (by simpa using hlt), show (fs ls).getD i pl0 = lA (fs ls) i from rfl, fs_get] at hE
      have HE2 := hideP2 hE
      have hsz := HB.out.size
      clear HE hE
      generalize (lAt ls i).1 = x at *
      obtain ⟨kd, n1, lo, hi', cc, S, N, ro, te, de, lw⟩ := x
      simp only at c0 c1 c2 c3 c4 c5 c6 c7 c8 c9 c10
      by_cases k1 : kd = 3
      · by_cases k2 : cc = nm
        · have HE3 : Hid (isCon (fs ls) nm = true) := by have := HE2.out; unfold Hid; rw [← this]; simp [isC, k1, k2]
          have b1 : (kd == 3) = true := by simpa using k1
          have b2 : (cc == nm) = true := by simpa using k2
          clear HE2 k1 k2
          go_wp2_with fail
          go_ret
          exact ⟨ret_bool HE3.out.symm, HB.out.alloc hsz _⟩
        · have HE3 : Hid (((fs ls).drop (i + 1)).any (isC nm) = isCon (fs ls) nm) := by have := HE2.out; unfold Hid; rw [← this]; simp [isC, k2]
          have b1 : (kd == 3) = true := by simpa using k1
          have b2 : (cc == nm) = false := by simpa using k2
          clear HE2 k1 k2
          go_wp2_with fail
          go_roundw
          case rel => exact ⟨i + 1, by omega, by go_num, hideP2 (HB.out.alloc hsz _), HE3⟩
          case measure => simp [intOf]; omega
      · have HE3 : Hid (((fs ls).drop (i + 1)).any (isC nm) = isCon (fs ls) nm) := by have := HE2.out; unfold Hid; rw [← this]; simp [isC, k1]
        have b1 : (kd == 3) = false := by simpa using k1
        clear HE2 k1
        go_wp2_with fail
        go_roundw
        case rel => exact ⟨i + 1, by omega, by go_num, hideP2 (HB.out.alloc hsz _), HE3⟩
        case measure => simp [intOf]; omega
    · have HE3 : Hid (isCon (fs ls) nm = false) := by have := HE.out; rw [List.drop_eq_nil_of_le (by simp; omega)] at this; exact this.symm
      clear HE
      go_wp2_with fail
      go_ret
      exact ⟨ret_bool HE3.out.symm, HB.out⟩

set_option maxHeartbeats 1000000 in
theorem countKind_s (w : World) (a : Option Addr) (c : Nat) (ls : List LX) (k : Int) (h : LinV w a ls) :
    Calls Tryz.prog 159 #[.slice a ls.length c, .int .i64 k] w fun e w' => e = .returned (.int .i64 (cntK k (fs ls))) ∧ Below w.heap.size w w' := by
  have HL := hideP2 h
  have hfew := h.few
  clear h
  go_enter Tryz.func159, Tryz.ntmps159
  go_wp2_with fail
  go_loopw [5, 10] (fun nv iv wr => ∃ (i n : Nat), i ≤ ls.length ∧ n ≤ i ∧ nv = .int .i64 n ∧ iv = .int .i64 i ∧ Hid (Below w.heap.size w wr) ∧ Hid (n + cntK k ((fs ls).drop i) = cntK k (fs ls))) (fun _ iv _ => ls.length - (intOf iv).toNat)
  case atStart => exact ⟨0, 0, Nat.zero_le _, Nat.le_refl _, rfl, rfl, hideP2 (Below.refl _ _), hideP2 (by simp)⟩
  case round =>
    obtain ⟨i, n, hi, hn, rfl, rfl, HB, HE⟩ := hrel
    by_cases hlt : i < ls.length
    · obtain ⟨gl, sa, sn, sc, na, nn, nc, rfl, hgl, ⟨c0, c1, c2, c3, c4, c5, c6, c7, c8, c9, c10⟩, _, _⟩ := (HL.out.below HB.out (Nat.le_refl _)).line hlt
      have hE := HE.out
      rw [cntK_drop _ _ i (by simpa using hlt), fs_get] at hE
      have HE2 := hideP2 hE
      have hsz := HB.out.size
      clear HE hE
      generalize (lAt ls i).1 = x at *
      obtain ⟨kd, n1, lo, hi', cc, S, N, ro, te, de, lw⟩ := x
      simp only at c0 c1 c2 c3 c4 c5 c6 c7 c8 c9 c10
      by_cases k1 : kd = k
      · have HE3 : Hid (n + 1 + cntK k ((fs ls).drop (i + 1)) = cntK k (fs ls)) := by have := HE2.out; rw [if_pos k1] at this; unfold Hid; omega
        have b1 : (kd == k) = true := by simpa using k1
        clear HE2 k1
        go_wp2_with fail
        go_roundw
        case rel => exact ⟨i + 1, n + 1, by omega, by omega, by go_num, by go_num, hideP2 (HB.out.alloc hsz _), HE3⟩
        case measure => simp [intOf]; omega
      · have HE3 : Hid (n + cntK k ((fs ls).drop (i + 1)) = cntK k (fs ls)) := by have := HE2.out; rw [if_neg k1] at this; unfold Hid; omega
        have b1 : (kd == k) = false := by simpa using k1
        clear HE2 k1
        go_wp2_with fail
        go_roundw
        case rel => exact ⟨i + 1, n, by omega, by omega, rfl, by go_num, hideP2 (HB.out.alloc hsz _), HE3⟩
        case measure => simp [intOf]; omega
    · have HE3 : Hid (n = cntK k (fs ls)) := by have := HE.out; rw [List.drop_eq_nil_of_le (by simp; omega)] at this; exact this
      clear HE
      go_wp2_with fail
      go_ret
      exact ⟨ret_int (by rw [HE3.out]), HB.out⟩

set_option maxHeartbeats 1000000 in
theorem findRule_s (w : World) (a : Option Addr) (c : Nat) (ls : List LX) (nm : Bs) (h : LinV w a ls) :
    Calls Tryz.prog 223 #[.slice a ls.length c, .string ⟨nm.toArray⟩] w fun e w' => e = .returned (.int .i64 (findR (fs ls) nm)) ∧ Below w.heap.size w w' := by
  have HL := hideP2 h
  have hfew := h.few
  clear h
  go_enter Tryz.func223, Tryz.ntmps223
  go_wp2_with fail
  go_loopw [9] (fun iv wr => ∃ (i : Nat), i ≤ ls.length ∧ iv = .int .i64 i ∧ Hid (Below w.heap.size w wr) ∧ Hid (findG (isL 3 nm) ((fs ls).drop i) i = findR (fs ls) nm)) (fun iv _ => ls.length - (intOf iv).toNat)
  case atStart => exact ⟨0, Nat.zero_le _, rfl, hideP2 (Below.refl _ _), hideP2 rfl⟩
  case round =>
    obtain ⟨i, hi, rfl, HB, HE⟩ := hrel
    by_cases hlt : i < ls.length
    · obtain ⟨gl, sa, sn, sc, na, nn, nc, rfl, hgl, ⟨c0, c1, c2, c3, c4, c5, c6, c7, c8, c9, c10⟩, _, _⟩ := (HL.out.below HB.out (Nat.le_refl _)).line hlt
      have hE := HE.out
      rw [findG_drop _ _ i (by simpa using hlt), fs_get] at hE
      have HE2 := hideP2 hE
      have hsz := HB.out.size
      clear HE hE
      generalize (lAt ls i).1 = x at *
      obtain ⟨kd, n1, lo, hi', cc, S, N, ro, te, de, lw⟩ := x
      simp only at c0 c1 c2 c3 c4 c5 c6 c7 c8 c9 c10
      by_cases k1 : kd = 3
      · by_cases k2 : n1 = nm
        · have HE3 : Hid (findR (fs ls) nm = i) := by have := HE2.out; unfold Hid; rw [← this]; simp [isL, k1, k2]
          have b1 : (kd == 3) = true := by simpa using k1
          have b2 : (n1 == nm) = true := by simpa using k2
          clear HE2 k1 k2
          go_wp2_with fail
          go_ret
          exact ⟨ret_int (by rw [HE3.out]), HB.out.alloc hsz _⟩
        · have HE3 : Hid (findG (isL 3 nm) ((fs ls).drop (i + 1)) (i + 1) = findR (fs ls) nm) := by have := HE2.out; unfold Hid; rw [← this]; simp [isL, k2]
          have b1 : (kd == 3) = true := by simpa using k1
          have b2 : (n1 == nm) = false := by simpa using k2
          clear HE2 k1 k2
          go_wp2_with fail
          go_roundw
          case rel => exact ⟨i + 1, by omega, by go_num, hideP2 (HB.out.alloc hsz _), HE3⟩
          case measure => simp [intOf]; omega
      · have HE3 : Hid (findG (isL 3 nm) ((fs ls).drop (i + 1)) (i + 1) = findR (fs ls) nm) := by have := HE2.out; unfold Hid; rw [← this]; simp [isL, k1]
        have b1 : (kd == 3) = false := by simpa using k1
        clear HE2 k1
        go_wp2_with fail
        go_roundw
        case rel => exact ⟨i + 1, by omega, by go_num, hideP2 (HB.out.alloc hsz _), HE3⟩
        case measure => simp [intOf]; omega
    · have HE3 : Hid (findR (fs ls) nm = ls.length) := by have := HE.out; rw [List.drop_eq_nil_of_le (by simp; omega)] at this; unfold Hid; rw [← this]; simp only [findG]; omega
      clear HE
      go_wp2_with fail
      go_ret
      exact ⟨ret_int (by rw [HE3.out]), HB.out⟩

theorem limit_s (k : Int) (w : World) : Calls Tryz.prog 160 #[.int .i64 k] w fun e w' => e = .returned (.int .i64 (limP k)) ∧ w' = w := by
  by_cases h1 : k = 1
  · subst h1
    go_enter Tryz.func160, Tryz.ntmps160
    go_wp2_with fail
    go_ret; exact ⟨rfl, rfl⟩
  · by_cases h2 : k = 2
    · subst h2
      go_enter Tryz.func160, Tryz.ntmps160
      go_wp2_with fail
      go_ret; exact ⟨rfl, rfl⟩
    · by_cases h3 : k = 3
      · subst h3
        go_enter Tryz.func160, Tryz.ntmps160
        go_wp2_with fail
        go_ret; exact ⟨rfl, rfl⟩
      · by_cases h4 : k = 4
        · subst h4
          go_enter Tryz.func160, Tryz.ntmps160
          go_wp2_with fail
          go_ret; exact ⟨rfl, rfl⟩
        · have HR : Hid (limP k = 0) := by unfold Hid limP; rw [if_neg h1, if_neg h2, if_neg h3, if_neg h4]
          have b1 : (k == 1) = false := by simpa using h1
          have b2 : (k == 2) = false := by simpa using h2
          have b3 : (k == 3) = false := by simpa using h3
          have b4 : (k == 4) = false := by simpa using h4
          clear h1 h2 h3 h4
          go_enter Tryz.func160, Tryz.ntmps160
          go_wp2_with fail
          go_ret; exact ⟨ret_int HR.out.symm, rfl⟩

/-- Parts lie in memory, behind a slice's pointer. -/
structure ParV (w : World) (a : Option Addr) (S : List PPart) : Prop where
  blk : 0 < S.length → ∃ g cur, a = some ⟨g, 0, none⟩ ∧ ParB w g cur S
  few : S.length ≤ maxLen
theorem ParV.below {w w' : World} {B : Nat} {a : Option Addr} {S : List PPart} (h : ParV w a S) (hb : Below B w w') (hB : w.heap.size ≤ B) : ParV w' a S :=
  ⟨fun h0 => let ⟨g, cur, e, p⟩ := h.blk h0; ⟨g, cur, e, p.below hb hB⟩, h.few⟩
/-- Nodes lie in memory, behind a slice's pointer. -/
structure NodV (w : World) (a : Option Addr) (N : List PNode) : Prop where
  blk : 0 < N.length → ∃ g cur, a = some ⟨g, 0, none⟩ ∧ NodB w g cur N
  few : N.length ≤ maxLen
theorem NodV.below {w w' : World} {B : Nat} {a : Option Addr} {N : List PNode} (h : NodV w a N) (hb : Below B w w') (hB : w.heap.size ≤ B) : NodV w' a N :=
  ⟨fun h0 => let ⟨g, cur, e, p⟩ := h.blk h0; ⟨g, cur, e, p.below hb hB⟩, h.few⟩
end Go.Proofs.YtnbpdffdnphbeaaGreatDoor
