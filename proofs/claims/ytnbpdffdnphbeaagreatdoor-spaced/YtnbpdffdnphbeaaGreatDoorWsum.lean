/- What part and sum of the writer do. -/
import Derived.Test.YtnbpdffdnphbeaaGreatDoorWnum
import Derived.Test.YtnbpdffdnphbeaaGreatDoorLex4
namespace Go.Proofs.YtnbpdffdnphbeaaGreatDoor
open Go.RowKit

set_option maxHeartbeats 1000000 in
theorem wpart_star (w : World) (W : Nat) (st : WSt) (xm : Bool) (xu : Int) (xn : Bs) (h : WrS w W st) (h0 : 0 ≤ xu) (h1 : xu ≤ 9999) (hn : (wPut xn (wPut [42] (wNum xu st))).1.length ≤ bigW) :
    Calls Tryz.prog 215 #[.pointer (some ⟨W, 0, none⟩), .agg #[.bool xm, .bool true, .int .i64 xu, .string ⟨xn.toArray⟩]] w fun e w' => e = .returned (.tuple #[]) ∧ WrS w' W (wPut xn (wPut [42] (wNum xu st))) ∧ KT W w w' := by
  have hW := h.wr.lt
  have HS0 := hideP2 h
  have HN := hideP2 hn
  clear h hn
  go_enter Tryz.func215, Tryz.ntmps215
  go_wp2_with fail
  refine (wnum_s _ W st xu (WrS.new HS0.out _) (wle _ _ (wle _ _ HN.out)) h0 h1).mono ?_
  rintro e w1 ⟨rfl, hs1, hk1⟩
  have HS1 := hideP2 hs1
  have HK1 : Hid (KT W w w1) := (KT.trans ((KT.refl W w).new (Nat.le_of_lt hW) _) hk1)
  have bx1 : w1.heap[w.heap.size]? = some (.cells #[.bool xm, .bool true, .int .i64 xu, .string ⟨xn.toArray⟩] 301 (0, 0)) := hk1.kept _ _ (hb_end _ _) (okT_cells (by decide) (by decide))
  have cx1 := fun j => cell_of_row _ _ j _ _ _ bx1
  clear hs1 hk1
  go_wp2_with fail
  refine (wput_s _ W (wNum xu st) [42] HS1.out (wle _ _ HN.out)).mono ?_
  rintro e w2 ⟨rfl, hs2, hk2⟩
  have HS2 := hideP2 hs2
  have HK2 : Hid (KT W w w2) := (KT.trans HK1.out hk2)
  have bx2 : w2.heap[w.heap.size]? = some (.cells #[.bool xm, .bool true, .int .i64 xu, .string ⟨xn.toArray⟩] 301 (0, 0)) := hk2.kept _ _ bx1 (okT_cells (by decide) (by decide))
  have cx2 := fun j => cell_of_row _ _ j _ _ _ bx2
  clear cx1 bx1
  clear hs2 hk2
  go_wp2_with fail
  refine (wput_s _ W (wPut [42] (wNum xu st)) xn HS2.out HN.out).mono ?_
  rintro e w3 ⟨rfl, hs3, hk3⟩
  have HS3 := hideP2 hs3
  have HK3 : Hid (KT W w w3) := (KT.trans HK2.out hk3)
  have bx3 : w3.heap[w.heap.size]? = some (.cells #[.bool xm, .bool true, .int .i64 xu, .string ⟨xn.toArray⟩] 301 (0, 0)) := hk3.kept _ _ bx2 (okT_cells (by decide) (by decide))
  have cx3 := fun j => cell_of_row _ _ j _ _ _ bx3
  clear cx2 bx2
  clear hs3 hk3
  go_wp2_with fail
  first | go_end0 | ((try simp only [Exit.inBlock, Exit.then]); refine bodyPost_ret (results_none rfl _ _ _) rfl ?_)
  exact ⟨rfl, HS3.out, HK3.out⟩

set_option maxHeartbeats 1000000 in
theorem wpart_num (w : World) (W : Nat) (st : WSt) (xm : Bool) (xu : Int) (xn : Bs) (h : WrS w W st) (he : xn.isEmpty = true) (h0 : 0 ≤ xu) (h1 : xu ≤ 9999) (hn : (wNum xu st).1.length ≤ bigW) :
    Calls Tryz.prog 215 #[.pointer (some ⟨W, 0, none⟩), .agg #[.bool xm, .bool false, .int .i64 xu, .string ⟨xn.toArray⟩]] w fun e w' => e = .returned (.tuple #[]) ∧ WrS w' W (wNum xu st) ∧ KT W w w' := by
  have hW := h.wr.lt
  have HS0 := hideP2 h
  have HN := hideP2 hn
  clear h hn
  go_enter Tryz.func215, Tryz.ntmps215
  go_wp2_with fail
  refine (wnum_s _ W st xu (WrS.new HS0.out _) HN.out h0 h1).mono ?_
  rintro e w1 ⟨rfl, hs1, hk1⟩
  have HS1 := hideP2 hs1
  have HK1 : Hid (KT W w w1) := (KT.trans ((KT.refl W w).new (Nat.le_of_lt hW) _) hk1)
  have bx1 : w1.heap[w.heap.size]? = some (.cells #[.bool xm, .bool false, .int .i64 xu, .string ⟨xn.toArray⟩] 301 (0, 0)) := hk1.kept _ _ (hb_end _ _) (okT_cells (by decide) (by decide))
  have cx1 := fun j => cell_of_row _ _ j _ _ _ bx1
  clear hs1 hk1
  go_wp2_with fail
  first | go_end0 | ((try simp only [Exit.inBlock, Exit.then]); refine bodyPost_ret (results_none rfl _ _ _) rfl ?_)
  exact ⟨rfl, HS1.out, HK1.out⟩

set_option maxHeartbeats 1000000 in
theorem wpart_name (w : World) (W : Nat) (st : WSt) (xm : Bool) (xu : Int) (xn : Bs) (h : WrS w W st) (he : xn.isEmpty = false) (hn : (wPut xn st).1.length ≤ bigW) :
    Calls Tryz.prog 215 #[.pointer (some ⟨W, 0, none⟩), .agg #[.bool xm, .bool false, .int .i64 xu, .string ⟨xn.toArray⟩]] w fun e w' => e = .returned (.tuple #[]) ∧ WrS w' W (wPut xn st) ∧ KT W w w' := by
  have hW := h.wr.lt
  have HS0 := hideP2 h
  have HN := hideP2 hn
  clear h hn
  go_enter Tryz.func215, Tryz.ntmps215
  go_wp2_with fail
  refine (wput_s _ W st xn (WrS.new HS0.out _) HN.out).mono ?_
  rintro e w1 ⟨rfl, hs1, hk1⟩
  have HS1 := hideP2 hs1
  have HK1 : Hid (KT W w w1) := (KT.trans ((KT.refl W w).new (Nat.le_of_lt hW) _) hk1)
  have bx1 : w1.heap[w.heap.size]? = some (.cells #[.bool xm, .bool false, .int .i64 xu, .string ⟨xn.toArray⟩] 301 (0, 0)) := hk1.kept _ _ (hb_end _ _) (okT_cells (by decide) (by decide))
  have cx1 := fun j => cell_of_row _ _ j _ _ _ bx1
  clear hs1 hk1
  go_wp2_with fail
  first | go_end0 | ((try simp only [Exit.inBlock, Exit.then]); refine bodyPost_ret (results_none rfl _ _ _) rfl ?_)
  exact ⟨rfl, HS1.out, HK1.out⟩

def wPart (x : PPart) (st : WSt) : WSt :=
  match x.starred with
  | true => wPut x.name (wPut [42] (wNum x.num st))
  | false => match x.name.isEmpty with
    | true => wNum x.num st
    | false => wPut x.name st

theorem wpart_s (w : World) (W : Nat) (st : WSt) (x : PPart) (h : WrS w W st) (h0 : 0 ≤ x.num) (h1 : x.num ≤ 9999) (hn : (wPart x st).1.length ≤ bigW) :
    Calls Tryz.prog 215 #[.pointer (some ⟨W, 0, none⟩), partV x] w fun e w' => e = .returned (.tuple #[]) ∧ WrS w' W (wPart x st) ∧ KT W w w' := by
  obtain ⟨xm, xs, xu, xn⟩ := x
  simp only [partV, wPart] at *
  cases xs
  · cases he : xn.isEmpty
    · simp only [he] at hn ⊢; exact wpart_name w W st xm xu xn h he hn
    · simp only [he] at hn ⊢; exact wpart_num w W st xm xu xn h he h0 h1 hn
  · simp only at hn ⊢; exact wpart_star w W st xm xu xn h h0 h1 hn

theorem wPart_le (x : PPart) (st : WSt) : st.1.length ≤ (wPart x st).1.length := by
  unfold wPart
  split
  · exact Nat.le_trans (wle' _ _) (Nat.le_trans (wle' _ _) (wle' _ _))
  · split <;> exact wle' _ _

/-- The mark ahead of a part. -/
def wSign (m : Bool) (i : Nat) (st : WSt) : WSt := match m with | true => wPut [45] st | false => if 0 < i then wPut [43] st else st
theorem wSign_le (m : Bool) (i : Nat) (st : WSt) : st.1.length ≤ (wSign m i st).1.length := by
  unfold wSign; split
  · exact wle' _ _
  · split
    · exact wle' _ _
    · exact Nat.le_refl _

def wSumG : List PPart → Nat → WSt → WSt
  | [], _, st => st
  | x :: r, i, st => wSumG r (i + 1) (wPart x (wSign x.minus i st))
theorem wSumG_le (l : List PPart) : ∀ i st, st.1.length ≤ (wSumG l i st).1.length := by
  induction l with
  | nil => intro i st; exact Nat.le_refl _
  | cons x r ih => intro i st; rw [wSumG]; exact Nat.le_trans (wSign_le _ _ _) (Nat.le_trans (wPart_le _ _) (ih _ _))

def xz : PPart := ⟨false, false, 0, []⟩
def xAt (S : List PPart) (i : Nat) : PPart := S.getD i xz

structure ParB (w : World) (gS : Nat) (cur : Array Value) (S : List PPart) : Prop where
  blk : w.heap[gS]? = some (.cells cur 301 (0, 0))
  row : cur.toList.take (S.length * 4) = flatS S

theorem ParB.kt {w w' : World} {W gS : Nat} {cur : Array Value} {S : List PPart} (h : ParB w gS cur S) (hk : KT W w w') : ParB w' gS cur S := ⟨hk.kept _ _ h.blk (okT_cells (by decide) (by decide)), h.row⟩

theorem flatS_get (S : List PPart) : ∀ i, i < S.length → ∀ j, j < 4 → (flatS S)[i * 4 + j]? = (partC (xAt S i))[j]? := by
  induction S with
  | nil => intro i h; simp at h
  | cons t r ih =>
    intro i h j hj
    have e : flatS (t :: r) = partC t ++ flatS r := by simp [flatS]
    have hl : (partC t).length = 4 := rfl
    cases i with
    | zero => rw [e, List.getElem?_append_left (by rw [hl]; omega)]; simp [xAt]
    | succ i =>
      rw [e, List.getElem?_append_right (by rw [hl]; omega), hl, show (i + 1) * 4 + j - 4 = i * 4 + j by omega, ih i (by simpa using h) j hj]
      simp [xAt]

theorem ParB.cells {w : World} {gS : Nat} {cur : Array Value} {S : List PPart} (h : ParB w gS cur S) {a : Nat} (ha : a < S.length) :
    w.cell? ⟨gS, a * 4, none⟩ = some (.bool (xAt S a).minus) ∧ w.cell? ⟨gS, a * 4 + 1, none⟩ = some (.bool (xAt S a).starred) ∧ w.cell? ⟨gS, a * 4 + 2, none⟩ = some (.int .i64 (xAt S a).num) ∧ w.cell? ⟨gS, a * 4 + 3, none⟩ = some (.string ⟨(xAt S a).name.toArray⟩) := by
  have hg := fun j (hj : j < 4) => flatS_get S a ha j hj
  exact ⟨cell_take2 h.blk h.row (hg 0 (by omega)), cell_take2 h.blk h.row (hg 1 (by omega)), cell_take2 h.blk h.row (hg 2 (by omega)), cell_take2 h.blk h.row (hg 3 (by omega))⟩

theorem ParB.lt {w : World} {gS : Nat} {cur : Array Value} {S : List PPart} (h : ParB w gS cur S) : gS < w.heap.size := by
  rcases Nat.lt_or_ge gS w.heap.size with h1 | h1
  · exact h1
  · have h2 := h.blk; rw [Array.getElem?_eq_none h1] at h2; cases h2

theorem dropX (S : List PPart) (k : Nat) (h : k < S.length) : S.drop k = xAt S k :: S.drop (k + 1) := by
  rw [List.drop_eq_getElem_cons h]; simp [xAt, List.getD, h]

set_option maxHeartbeats 1000000 in
theorem wsum_s (w : World) (W gS cap : Nat) (cur : Array Value) (S : List PPart) (st0 : WSt) (h : WrS w W st0) (hp : ParB w gS cur S) (hS : S.length ≤ 10000) (hg : ∀ a, a < S.length → 0 ≤ (xAt S a).num ∧ (xAt S a).num ≤ 9999) (hn : (wSumG S 0 st0).1.length ≤ bigW) :
    Calls Tryz.prog 156 #[.pointer (some ⟨W, 0, none⟩), .slice (some ⟨gS, 0, none⟩) S.length cap] w fun e w' => e = .returned (.tuple #[]) ∧ WrS w' W (wSumG S 0 st0) ∧ KT W w w' := by
  have HS0 := hideP2 h
  have HP0 := hideP2 hp
  have HG := hideP2 hg
  have HN := hideP2 hn
  clear h hp hg hn
  go_enter Tryz.func156, Tryz.ntmps156
  go_wp2_with fail
  go_loopw [8] (fun iv wr => ∃ (i : Nat) (st : WSt), i ≤ S.length ∧ iv = .int .i64 i ∧ Hid (WrS wr W st) ∧ Hid (ParB wr gS cur S) ∧ Hid (KT W w wr) ∧ Hid (wSumG (S.drop i) i st = wSumG S 0 st0)) (fun iv _ => S.length - (intOf iv).toNat)
  case atStart => exact ⟨0, st0, Nat.zero_le _, rfl, HS0, HP0, hideP2 (KT.refl W w), hideP2 rfl⟩
  case round =>
    obtain ⟨i, st, hi, rfl, HSr, HPr, HKr, HE⟩ := hrel
    clear HS0 HP0
    by_cases hlt : i < S.length
    · obtain ⟨c0, c1, c2, c3⟩ := HPr.out.cells hlt
      have hglt := HPr.out.lt
      have nX : wr.heap.size ≠ gS := by omega
      have hWr := HSr.out.wr.lt
      have hE := HE.out
      rw [dropX S i hlt, wSumG] at hE
      have hb := HN.out
      rw [← hE] at hb
      have hb2 := Nat.le_trans (wSumG_le _ _ _) hb
      have hb1 := Nat.le_trans (wPart_le _ _) hb2
      obtain ⟨g0, g1⟩ := HG.out i hlt
      have HW := hideP2 (fun w' (h' : WrS w' W (wSign (xAt S i).minus i st)) => wpart_s w' W _ (xAt S i) h' g0 g1 hb2)
      have HE2 := hideP2 hE
      have HB1 := hideP2 hb1
      clear hE hb hb1 hb2 HE g0 g1
      generalize xAt S i = x at *
      obtain ⟨xm, xs, xu, xn⟩ := x
      simp only [partV] at HW c0 c1 c2 c3 HE2 HB1
      cases xm
      · by_cases hi0 : 0 < i
        · simp only [wSign, if_pos hi0] at HW HE2 HB1
          go_wp2_with fail
          refine (wput_s _ W st [43] (WrS.new HSr.out _) HB1.out).mono ?_
          rintro e w1 ⟨rfl, hs1, hk1⟩
          have HS1 := hideP2 hs1
          have HK1 : Hid (KT W w w1) := KT.trans (HKr.out.new (Nat.le_of_lt hWr) _) hk1
          have bx : w1.heap[wr.heap.size]? = some (.cells #[.bool false, .bool xs, .int .i64 xu, .string ⟨xn.toArray⟩] 301 (0, 0)) := hk1.kept _ _ (hb_end _ _) (okT_cells (by decide) (by decide))
          have cx := fun j => cell_of_row _ _ j _ _ _ bx
          have HP1 : Hid (ParB w1 gS cur S) := ParB.kt (ParB.kt HPr.out ((KT.refl W wr).new (Nat.le_of_lt hWr) _)) hk1
          clear hs1 hk1 c0 c1 c2 c3
          go_wp2_with fail
          refine (HW.out _ HS1.out).mono ?_
          rintro e w2 ⟨rfl, hs2, hk2⟩
          have HS2 := hideP2 hs2
          have HK2 : Hid (KT W w w2) := KT.trans HK1.out hk2
          have HP2 : Hid (ParB w2 gS cur S) := ParB.kt HP1.out hk2
          clear hs2 hk2 cx bx
          go_wp2_with fail
          go_roundw
          case rel => exact ⟨i + 1, _, by omega, by go_num, HS2, HP2, HK2, HE2⟩
          case measure => simp [intOf]; omega
        · simp only [wSign, if_neg hi0] at HW HE2 HB1
          go_wp2_with fail
          refine (HW.out _ (WrS.new HSr.out _)).mono ?_
          rintro e w2 ⟨rfl, hs2, hk2⟩
          have HS2 := hideP2 hs2
          have HK2 : Hid (KT W w w2) := KT.trans (HKr.out.new (Nat.le_of_lt hWr) _) hk2
          have HP2 : Hid (ParB w2 gS cur S) := ParB.kt (ParB.kt HPr.out ((KT.refl W wr).new (Nat.le_of_lt hWr) _)) hk2
          clear hs2 hk2 c0 c1 c2 c3
          go_wp2_with fail
          go_roundw
          case rel => exact ⟨i + 1, _, by omega, by go_num, HS2, HP2, HK2, HE2⟩
          case measure => simp [intOf]; omega
      · simp only [wSign] at HW HE2 HB1
        go_wp2_with fail
        refine (wput_s _ W st [45] (WrS.new HSr.out _) HB1.out).mono ?_
        rintro e w1 ⟨rfl, hs1, hk1⟩
        have HS1 := hideP2 hs1
        have HK1 : Hid (KT W w w1) := KT.trans (HKr.out.new (Nat.le_of_lt hWr) _) hk1
        have bx : w1.heap[wr.heap.size]? = some (.cells #[.bool true, .bool xs, .int .i64 xu, .string ⟨xn.toArray⟩] 301 (0, 0)) := hk1.kept _ _ (hb_end _ _) (okT_cells (by decide) (by decide))
        have cx := fun j => cell_of_row _ _ j _ _ _ bx
        have HP1 : Hid (ParB w1 gS cur S) := ParB.kt (ParB.kt HPr.out ((KT.refl W wr).new (Nat.le_of_lt hWr) _)) hk1
        clear hs1 hk1 c0 c1 c2 c3
        go_wp2_with fail
        refine (HW.out _ HS1.out).mono ?_
        rintro e w2 ⟨rfl, hs2, hk2⟩
        have HS2 := hideP2 hs2
        have HK2 : Hid (KT W w w2) := KT.trans HK1.out hk2
        have HP2 : Hid (ParB w2 gS cur S) := ParB.kt HP1.out hk2
        clear hs2 hk2 cx bx
        go_wp2_with fail
        go_roundw
        case rel => exact ⟨i + 1, _, by omega, by go_num, HS2, HP2, HK2, HE2⟩
        case measure => simp [intOf]; omega
    · have hE := HE.out
      rw [List.drop_eq_nil_of_le (by omega), wSumG] at hE
      have HE2 := hideP2 hE
      clear hE HE
      go_wp2_with fail
      go_end0
      rw [← HE2.out]
      exact ⟨rfl, HSr.out, HKr.out⟩
end Go.Proofs.YtnbpdffdnphbeaaGreatDoor

/- What line of the writer does: a line written anew. -/
namespace Go.Proofs.YtnbpdffdnphbeaaGreatDoor
open Go.RowKit

def wEnd (st : WSt) : WSt := (st.1 ++ [59, 10], false)
theorem wEnd_le (st : WSt) : st.1.length ≤ (wEnd st).1.length := by simp [wEnd]
theorem wend_s (w : World) (W : Nat) (st : WSt) (h : WrS w W st) (hn : (wEnd st).1.length ≤ bigW) :
    Calls Tryz.prog 158 #[.pointer (some ⟨W, 0, none⟩)] w fun e w' => e = .returned (.tuple #[]) ∧ WrS w' W (wEnd st) ∧ KT W w w' := by
  refine (endLine_s w W st.1 st.2 h.wr (by have h1 := hn; simp [wEnd, bigW] at h1; omega)).mono ?_
  rintro e w' ⟨rfl, h1, h2⟩
  exact ⟨rfl, h.step h1 h2, h2⟩
theorem ParB.new {w : World} {gS : Nat} {cur : Array Value} {S : List PPart} (h : ParB w gS cur S) (o : Obj) : ParB (w.alloc o) gS cur S := ⟨hb_new h.blk, h.row⟩

set_option maxHeartbeats 1000000 in
theorem wline_num (w : World) (W : Nat) (st : WSt) (lo hi te de : Int) (nm cc lw : Bs) (sa na : Option Addr) (sn sc nn nc : Nat) (ro : Int) (h : WrS w W st) (lo0 : 0 ≤ lo) (lo1 : lo ≤ 9999) (hi0 : 0 ≤ hi) (hi1 : hi ≤ 9999) (hn : ((wEnd (wNum hi (wPut [46, 46] (wNum lo (wPut nm (wPut [110, 117, 109] st))))))).1.length ≤ bigW) :
    Calls Tryz.prog 103 #[.pointer (some ⟨W, 0, none⟩), .agg #[.int .i64 1, .string ⟨nm.toArray⟩, .int .i64 lo, .int .i64 hi, .string ⟨cc.toArray⟩, .slice sa sn sc, .slice na nn nc, .int .i64 ro, .int .i64 te, .int .i64 de, .string ⟨lw.toArray⟩]] w fun e w' => e = .returned (.tuple #[]) ∧ WrS w' W ((wEnd (wNum hi (wPut [46, 46] (wNum lo (wPut nm (wPut [110, 117, 109] st))))))) ∧ KT W w w' := by
  have hW := h.wr.lt
  have HS0 := hideP2 h
  have HN := hideP2 hn
  have HL6 := HN
  have HL5 := hideP2 (Nat.le_trans (wEnd_le (wNum hi (wPut [46, 46] (wNum lo (wPut nm (wPut [110, 117, 109] st)))))) HL6.out)
  have HL4 := hideP2 (Nat.le_trans (wle' (Lib.itoa hi) (wPut [46, 46] (wNum lo (wPut nm (wPut [110, 117, 109] st))))) HL5.out)
  have HL3 := hideP2 (Nat.le_trans (wle' [46, 46] (wNum lo (wPut nm (wPut [110, 117, 109] st)))) HL4.out)
  have HL2 := hideP2 (Nat.le_trans (wle' (Lib.itoa lo) (wPut nm (wPut [110, 117, 109] st))) HL3.out)
  have HL1 := hideP2 (Nat.le_trans (wle' nm (wPut [110, 117, 109] st)) HL2.out)
  clear h hn
  go_enter Tryz.func103, Tryz.ntmps103
  go_wp2_with fail
  refine (wput_s _ W st [110, 117, 109] (WrS.new HS0.out _) HL1.out).mono ?_
  rintro e w1 ⟨rfl, hs1, hk1⟩
  have HS1 := hideP2 hs1
  have HK1 : Hid (KT W w w1) := (KT.trans ((KT.refl W w).new (Nat.le_of_lt hW) _) hk1)
  have bx1 : w1.heap[w.heap.size]? = some (.cells #[.int .i64 1, .string ⟨nm.toArray⟩, .int .i64 lo, .int .i64 hi, .string ⟨cc.toArray⟩, .slice sa sn sc, .slice na nn nc, .int .i64 ro, .int .i64 te, .int .i64 de, .string ⟨lw.toArray⟩] 234 (0, 0)) := hk1.kept _ _ (hb_end _ _) (okT_cells (by decide) (by decide))
  have cx1 := fun j => cell_of_row _ _ j _ _ _ bx1
  clear hs1 hk1
  go_wp2_with fail
  refine (wput_s _ W (wPut [110, 117, 109] st) nm HS1.out HL2.out).mono ?_
  rintro e w2 ⟨rfl, hs2, hk2⟩
  have HS2 := hideP2 hs2
  have HK2 : Hid (KT W w w2) := (KT.trans HK1.out hk2)
  have bx2 : w2.heap[w.heap.size]? = some (.cells #[.int .i64 1, .string ⟨nm.toArray⟩, .int .i64 lo, .int .i64 hi, .string ⟨cc.toArray⟩, .slice sa sn sc, .slice na nn nc, .int .i64 ro, .int .i64 te, .int .i64 de, .string ⟨lw.toArray⟩] 234 (0, 0)) := hk2.kept _ _ bx1 (okT_cells (by decide) (by decide))
  have cx2 := fun j => cell_of_row _ _ j _ _ _ bx2
  clear cx1 bx1
  clear hs2 hk2
  go_wp2_with fail
  refine (wnum_s _ W (wPut nm (wPut [110, 117, 109] st)) lo HS2.out HL3.out lo0 lo1).mono ?_
  rintro e w3 ⟨rfl, hs3, hk3⟩
  have HS3 := hideP2 hs3
  have HK3 : Hid (KT W w w3) := (KT.trans HK2.out hk3)
  have bx3 : w3.heap[w.heap.size]? = some (.cells #[.int .i64 1, .string ⟨nm.toArray⟩, .int .i64 lo, .int .i64 hi, .string ⟨cc.toArray⟩, .slice sa sn sc, .slice na nn nc, .int .i64 ro, .int .i64 te, .int .i64 de, .string ⟨lw.toArray⟩] 234 (0, 0)) := hk3.kept _ _ bx2 (okT_cells (by decide) (by decide))
  have cx3 := fun j => cell_of_row _ _ j _ _ _ bx3
  clear cx2 bx2
  clear hs3 hk3
  go_wp2_with fail
  refine (wput_s _ W (wNum lo (wPut nm (wPut [110, 117, 109] st))) [46, 46] HS3.out HL4.out).mono ?_
  rintro e w4 ⟨rfl, hs4, hk4⟩
  have HS4 := hideP2 hs4
  have HK4 : Hid (KT W w w4) := (KT.trans HK3.out hk4)
  have bx4 : w4.heap[w.heap.size]? = some (.cells #[.int .i64 1, .string ⟨nm.toArray⟩, .int .i64 lo, .int .i64 hi, .string ⟨cc.toArray⟩, .slice sa sn sc, .slice na nn nc, .int .i64 ro, .int .i64 te, .int .i64 de, .string ⟨lw.toArray⟩] 234 (0, 0)) := hk4.kept _ _ bx3 (okT_cells (by decide) (by decide))
  have cx4 := fun j => cell_of_row _ _ j _ _ _ bx4
  clear cx3 bx3
  clear hs4 hk4
  go_wp2_with fail
  refine (wnum_s _ W (wPut [46, 46] (wNum lo (wPut nm (wPut [110, 117, 109] st)))) hi HS4.out HL5.out hi0 hi1).mono ?_
  rintro e w5 ⟨rfl, hs5, hk5⟩
  have HS5 := hideP2 hs5
  have HK5 : Hid (KT W w w5) := (KT.trans HK4.out hk5)
  have bx5 : w5.heap[w.heap.size]? = some (.cells #[.int .i64 1, .string ⟨nm.toArray⟩, .int .i64 lo, .int .i64 hi, .string ⟨cc.toArray⟩, .slice sa sn sc, .slice na nn nc, .int .i64 ro, .int .i64 te, .int .i64 de, .string ⟨lw.toArray⟩] 234 (0, 0)) := hk5.kept _ _ bx4 (okT_cells (by decide) (by decide))
  have cx5 := fun j => cell_of_row _ _ j _ _ _ bx5
  clear cx4 bx4
  clear hs5 hk5
  go_wp2_with fail
  refine (wend_s _ W (wNum hi (wPut [46, 46] (wNum lo (wPut nm (wPut [110, 117, 109] st))))) HS5.out HL6.out).mono ?_
  rintro e w6 ⟨rfl, hs6, hk6⟩
  have HS6 := hideP2 hs6
  have HK6 : Hid (KT W w w6) := (KT.trans HK5.out hk6)
  have bx6 : w6.heap[w.heap.size]? = some (.cells #[.int .i64 1, .string ⟨nm.toArray⟩, .int .i64 lo, .int .i64 hi, .string ⟨cc.toArray⟩, .slice sa sn sc, .slice na nn nc, .int .i64 ro, .int .i64 te, .int .i64 de, .string ⟨lw.toArray⟩] 234 (0, 0)) := hk6.kept _ _ bx5 (okT_cells (by decide) (by decide))
  have cx6 := fun j => cell_of_row _ _ j _ _ _ bx6
  clear cx5 bx5
  clear hs6 hk6
  go_wp2_with fail
  first | go_end0 | ((try simp only [Exit.inBlock, Exit.then]); refine bodyPost_ret (results_none rfl _ _ _) rfl ?_)
  exact ⟨rfl, HS6.out, HK6.out⟩

set_option maxHeartbeats 1000000 in
theorem wline_flag (w : World) (W : Nat) (st : WSt) (lo hi te de : Int) (nm cc lw : Bs) (sa na : Option Addr) (sn sc nn nc : Nat) (ro : Int) (h : WrS w W st)  (hn : ((wEnd (wPut nm (wPut [102, 108, 97, 103] st)))).1.length ≤ bigW) :
    Calls Tryz.prog 103 #[.pointer (some ⟨W, 0, none⟩), .agg #[.int .i64 2, .string ⟨nm.toArray⟩, .int .i64 lo, .int .i64 hi, .string ⟨cc.toArray⟩, .slice sa sn sc, .slice na nn nc, .int .i64 ro, .int .i64 te, .int .i64 de, .string ⟨lw.toArray⟩]] w fun e w' => e = .returned (.tuple #[]) ∧ WrS w' W ((wEnd (wPut nm (wPut [102, 108, 97, 103] st)))) ∧ KT W w w' := by
  have hW := h.wr.lt
  have HS0 := hideP2 h
  have HN := hideP2 hn
  have HL3 := HN
  have HL2 := hideP2 (Nat.le_trans (wEnd_le (wPut nm (wPut [102, 108, 97, 103] st))) HL3.out)
  have HL1 := hideP2 (Nat.le_trans (wle' nm (wPut [102, 108, 97, 103] st)) HL2.out)
  clear h hn
  go_enter Tryz.func103, Tryz.ntmps103
  go_wp2_with fail
  refine (wput_s _ W st [102, 108, 97, 103] (WrS.new HS0.out _) HL1.out).mono ?_
  rintro e w1 ⟨rfl, hs1, hk1⟩
  have HS1 := hideP2 hs1
  have HK1 : Hid (KT W w w1) := (KT.trans ((KT.refl W w).new (Nat.le_of_lt hW) _) hk1)
  have bx1 : w1.heap[w.heap.size]? = some (.cells #[.int .i64 2, .string ⟨nm.toArray⟩, .int .i64 lo, .int .i64 hi, .string ⟨cc.toArray⟩, .slice sa sn sc, .slice na nn nc, .int .i64 ro, .int .i64 te, .int .i64 de, .string ⟨lw.toArray⟩] 234 (0, 0)) := hk1.kept _ _ (hb_end _ _) (okT_cells (by decide) (by decide))
  have cx1 := fun j => cell_of_row _ _ j _ _ _ bx1
  clear hs1 hk1
  go_wp2_with fail
  refine (wput_s _ W (wPut [102, 108, 97, 103] st) nm HS1.out HL2.out).mono ?_
  rintro e w2 ⟨rfl, hs2, hk2⟩
  have HS2 := hideP2 hs2
  have HK2 : Hid (KT W w w2) := (KT.trans HK1.out hk2)
  have bx2 : w2.heap[w.heap.size]? = some (.cells #[.int .i64 2, .string ⟨nm.toArray⟩, .int .i64 lo, .int .i64 hi, .string ⟨cc.toArray⟩, .slice sa sn sc, .slice na nn nc, .int .i64 ro, .int .i64 te, .int .i64 de, .string ⟨lw.toArray⟩] 234 (0, 0)) := hk2.kept _ _ bx1 (okT_cells (by decide) (by decide))
  have cx2 := fun j => cell_of_row _ _ j _ _ _ bx2
  clear cx1 bx1
  clear hs2 hk2
  go_wp2_with fail
  refine (wend_s _ W (wPut nm (wPut [102, 108, 97, 103] st)) HS2.out HL3.out).mono ?_
  rintro e w3 ⟨rfl, hs3, hk3⟩
  have HS3 := hideP2 hs3
  have HK3 : Hid (KT W w w3) := (KT.trans HK2.out hk3)
  have bx3 : w3.heap[w.heap.size]? = some (.cells #[.int .i64 2, .string ⟨nm.toArray⟩, .int .i64 lo, .int .i64 hi, .string ⟨cc.toArray⟩, .slice sa sn sc, .slice na nn nc, .int .i64 ro, .int .i64 te, .int .i64 de, .string ⟨lw.toArray⟩] 234 (0, 0)) := hk3.kept _ _ bx2 (okT_cells (by decide) (by decide))
  have cx3 := fun j => cell_of_row _ _ j _ _ _ bx3
  clear cx2 bx2
  clear hs3 hk3
  go_wp2_with fail
  first | go_end0 | ((try simp only [Exit.inBlock, Exit.then]); refine bodyPost_ret (results_none rfl _ _ _) rfl ?_)
  exact ⟨rfl, HS3.out, HK3.out⟩

set_option maxHeartbeats 1000000 in
theorem wline_over (w : World) (W : Nat) (st : WSt) (lo hi te de : Int) (nm cc lw : Bs) (sa na : Option Addr) (sn sc nn nc : Nat) (ro : Int) (h : WrS w W st)  (hn : ((wEnd (wPut lw (wPut nm (wPut [111, 118, 101, 114] st))))).1.length ≤ bigW) :
    Calls Tryz.prog 103 #[.pointer (some ⟨W, 0, none⟩), .agg #[.int .i64 4, .string ⟨nm.toArray⟩, .int .i64 lo, .int .i64 hi, .string ⟨cc.toArray⟩, .slice sa sn sc, .slice na nn nc, .int .i64 ro, .int .i64 te, .int .i64 de, .string ⟨lw.toArray⟩]] w fun e w' => e = .returned (.tuple #[]) ∧ WrS w' W ((wEnd (wPut lw (wPut nm (wPut [111, 118, 101, 114] st))))) ∧ KT W w w' := by
  have hW := h.wr.lt
  have HS0 := hideP2 h
  have HN := hideP2 hn
  have HL4 := HN
  have HL3 := hideP2 (Nat.le_trans (wEnd_le (wPut lw (wPut nm (wPut [111, 118, 101, 114] st)))) HL4.out)
  have HL2 := hideP2 (Nat.le_trans (wle' lw (wPut nm (wPut [111, 118, 101, 114] st))) HL3.out)
  have HL1 := hideP2 (Nat.le_trans (wle' nm (wPut [111, 118, 101, 114] st)) HL2.out)
  clear h hn
  go_enter Tryz.func103, Tryz.ntmps103
  go_wp2_with fail
  refine (wput_s _ W st [111, 118, 101, 114] (WrS.new HS0.out _) HL1.out).mono ?_
  rintro e w1 ⟨rfl, hs1, hk1⟩
  have HS1 := hideP2 hs1
  have HK1 : Hid (KT W w w1) := (KT.trans ((KT.refl W w).new (Nat.le_of_lt hW) _) hk1)
  have bx1 : w1.heap[w.heap.size]? = some (.cells #[.int .i64 4, .string ⟨nm.toArray⟩, .int .i64 lo, .int .i64 hi, .string ⟨cc.toArray⟩, .slice sa sn sc, .slice na nn nc, .int .i64 ro, .int .i64 te, .int .i64 de, .string ⟨lw.toArray⟩] 234 (0, 0)) := hk1.kept _ _ (hb_end _ _) (okT_cells (by decide) (by decide))
  have cx1 := fun j => cell_of_row _ _ j _ _ _ bx1
  clear hs1 hk1
  go_wp2_with fail
  refine (wput_s _ W (wPut [111, 118, 101, 114] st) nm HS1.out HL2.out).mono ?_
  rintro e w2 ⟨rfl, hs2, hk2⟩
  have HS2 := hideP2 hs2
  have HK2 : Hid (KT W w w2) := (KT.trans HK1.out hk2)
  have bx2 : w2.heap[w.heap.size]? = some (.cells #[.int .i64 4, .string ⟨nm.toArray⟩, .int .i64 lo, .int .i64 hi, .string ⟨cc.toArray⟩, .slice sa sn sc, .slice na nn nc, .int .i64 ro, .int .i64 te, .int .i64 de, .string ⟨lw.toArray⟩] 234 (0, 0)) := hk2.kept _ _ bx1 (okT_cells (by decide) (by decide))
  have cx2 := fun j => cell_of_row _ _ j _ _ _ bx2
  clear cx1 bx1
  clear hs2 hk2
  go_wp2_with fail
  refine (wput_s _ W (wPut nm (wPut [111, 118, 101, 114] st)) lw HS2.out HL3.out).mono ?_
  rintro e w3 ⟨rfl, hs3, hk3⟩
  have HS3 := hideP2 hs3
  have HK3 : Hid (KT W w w3) := (KT.trans HK2.out hk3)
  have bx3 : w3.heap[w.heap.size]? = some (.cells #[.int .i64 4, .string ⟨nm.toArray⟩, .int .i64 lo, .int .i64 hi, .string ⟨cc.toArray⟩, .slice sa sn sc, .slice na nn nc, .int .i64 ro, .int .i64 te, .int .i64 de, .string ⟨lw.toArray⟩] 234 (0, 0)) := hk3.kept _ _ bx2 (okT_cells (by decide) (by decide))
  have cx3 := fun j => cell_of_row _ _ j _ _ _ bx3
  clear cx2 bx2
  clear hs3 hk3
  go_wp2_with fail
  refine (wend_s _ W (wPut lw (wPut nm (wPut [111, 118, 101, 114] st))) HS3.out HL4.out).mono ?_
  rintro e w4 ⟨rfl, hs4, hk4⟩
  have HS4 := hideP2 hs4
  have HK4 : Hid (KT W w w4) := (KT.trans HK3.out hk4)
  have bx4 : w4.heap[w.heap.size]? = some (.cells #[.int .i64 4, .string ⟨nm.toArray⟩, .int .i64 lo, .int .i64 hi, .string ⟨cc.toArray⟩, .slice sa sn sc, .slice na nn nc, .int .i64 ro, .int .i64 te, .int .i64 de, .string ⟨lw.toArray⟩] 234 (0, 0)) := hk4.kept _ _ bx3 (okT_cells (by decide) (by decide))
  have cx4 := fun j => cell_of_row _ _ j _ _ _ bx4
  clear cx3 bx3
  clear hs4 hk4
  go_wp2_with fail
  first | go_end0 | ((try simp only [Exit.inBlock, Exit.then]); refine bodyPost_ret (results_none rfl _ _ _) rfl ?_)
  exact ⟨rfl, HS4.out, HK4.out⟩

set_option maxHeartbeats 1000000 in
theorem wline_rule (w : World) (W : Nat) (st : WSt) (lo hi te de : Int) (nm cc lw : Bs) (gS cS gN cN root : Nat) (curS curN : Array Value) (S : List PPart) (N : List PNode) (h : WrS w W st) (hp : ParB w gS curS S) (hb : NodB w gN curN N) (hS : S.length ≤ 10000) (hg : ∀ a, a < S.length → 0 ≤ (xAt S a).num ∧ (xAt S a).num ≤ 9999) (hN : GoodN N) (hroot : root < N.length) (hn : ((wEnd (wNode N N.length root (wPut kWhen (wSumG S 0 (wPut [61] (wPut cc (wPut [58] (wPut nm (wPut kRule st)))))))))).1.length ≤ bigW) :
    Calls Tryz.prog 103 #[.pointer (some ⟨W, 0, none⟩), .agg #[.int .i64 3, .string ⟨nm.toArray⟩, .int .i64 lo, .int .i64 hi, .string ⟨cc.toArray⟩, .slice (some ⟨gS, 0, none⟩) S.length cS, .slice (some ⟨gN, 0, none⟩) N.length cN, .int .i64 (root : Nat), .int .i64 te, .int .i64 de, .string ⟨lw.toArray⟩]] w fun e w' => e = .returned (.tuple #[]) ∧ WrS w' W ((wEnd (wNode N N.length root (wPut kWhen (wSumG S 0 (wPut [61] (wPut cc (wPut [58] (wPut nm (wPut kRule st)))))))))) ∧ KT W w w' := by
  have hW := h.wr.lt
  have HS0 := hideP2 h
  have HN := hideP2 hn
  have HL9 := HN
  have HL8 := hideP2 (Nat.le_trans (wEnd_le (wNode N N.length root (wPut kWhen (wSumG S 0 (wPut [61] (wPut cc (wPut [58] (wPut nm (wPut kRule st))))))))) HL9.out)
  have HL7 := hideP2 (Nat.le_trans (wNode_le N N.length root (wPut kWhen (wSumG S 0 (wPut [61] (wPut cc (wPut [58] (wPut nm (wPut kRule st)))))))) HL8.out)
  have HL6 := hideP2 (Nat.le_trans (wle' kWhen (wSumG S 0 (wPut [61] (wPut cc (wPut [58] (wPut nm (wPut kRule st))))))) HL7.out)
  have HL5 := hideP2 (Nat.le_trans (wSumG_le S 0 (wPut [61] (wPut cc (wPut [58] (wPut nm (wPut kRule st)))))) HL6.out)
  have HL4 := hideP2 (Nat.le_trans (wle' [61] (wPut cc (wPut [58] (wPut nm (wPut kRule st))))) HL5.out)
  have HL3 := hideP2 (Nat.le_trans (wle' cc (wPut [58] (wPut nm (wPut kRule st)))) HL4.out)
  have HL2 := hideP2 (Nat.le_trans (wle' [58] (wPut nm (wPut kRule st))) HL3.out)
  have HL1 := hideP2 (Nat.le_trans (wle' nm (wPut kRule st)) HL2.out)
  have HPB := hideP2 hp
  have HNB := hideP2 hb
  clear hp hb
  clear h hn
  go_enter Tryz.func103, Tryz.ntmps103
  go_wp2_with fail
  refine (wput_s _ W st kRule (WrS.new HS0.out _) HL1.out).mono ?_
  rintro e w1 ⟨rfl, hs1, hk1⟩
  have HS1 := hideP2 hs1
  have HK1 : Hid (KT W w w1) := (KT.trans ((KT.refl W w).new (Nat.le_of_lt hW) _) hk1)
  have bx1 : w1.heap[w.heap.size]? = some (.cells #[.int .i64 3, .string ⟨nm.toArray⟩, .int .i64 lo, .int .i64 hi, .string ⟨cc.toArray⟩, .slice (some ⟨gS, 0, none⟩) S.length cS, .slice (some ⟨gN, 0, none⟩) N.length cN, .int .i64 (root : Nat), .int .i64 te, .int .i64 de, .string ⟨lw.toArray⟩] 234 (0, 0)) := hk1.kept _ _ (hb_end _ _) (okT_cells (by decide) (by decide))
  have cx1 := fun j => cell_of_row _ _ j _ _ _ bx1
  have HB1 : Hid (NodB w1 gN curN N) := NodB.kt (NodB.new HNB.out _) hk1
  have HQ1 : Hid (ParB w1 gS curS S) := ParB.kt (ParB.new HPB.out _) hk1
  clear hs1 hk1
  go_wp2_with fail
  refine (wput_s _ W (wPut kRule st) nm HS1.out HL2.out).mono ?_
  rintro e w2 ⟨rfl, hs2, hk2⟩
  have HS2 := hideP2 hs2
  have HK2 : Hid (KT W w w2) := (KT.trans HK1.out hk2)
  have bx2 : w2.heap[w.heap.size]? = some (.cells #[.int .i64 3, .string ⟨nm.toArray⟩, .int .i64 lo, .int .i64 hi, .string ⟨cc.toArray⟩, .slice (some ⟨gS, 0, none⟩) S.length cS, .slice (some ⟨gN, 0, none⟩) N.length cN, .int .i64 (root : Nat), .int .i64 te, .int .i64 de, .string ⟨lw.toArray⟩] 234 (0, 0)) := hk2.kept _ _ bx1 (okT_cells (by decide) (by decide))
  have cx2 := fun j => cell_of_row _ _ j _ _ _ bx2
  clear cx1 bx1
  have HB2 : Hid (NodB w2 gN curN N) := NodB.kt HB1.out hk2
  have HQ2 : Hid (ParB w2 gS curS S) := ParB.kt HQ1.out hk2
  clear hs2 hk2
  go_wp2_with fail
  refine (wput_s _ W (wPut nm (wPut kRule st)) [58] HS2.out HL3.out).mono ?_
  rintro e w3 ⟨rfl, hs3, hk3⟩
  have HS3 := hideP2 hs3
  have HK3 : Hid (KT W w w3) := (KT.trans HK2.out hk3)
  have bx3 : w3.heap[w.heap.size]? = some (.cells #[.int .i64 3, .string ⟨nm.toArray⟩, .int .i64 lo, .int .i64 hi, .string ⟨cc.toArray⟩, .slice (some ⟨gS, 0, none⟩) S.length cS, .slice (some ⟨gN, 0, none⟩) N.length cN, .int .i64 (root : Nat), .int .i64 te, .int .i64 de, .string ⟨lw.toArray⟩] 234 (0, 0)) := hk3.kept _ _ bx2 (okT_cells (by decide) (by decide))
  have cx3 := fun j => cell_of_row _ _ j _ _ _ bx3
  clear cx2 bx2
  have HB3 : Hid (NodB w3 gN curN N) := NodB.kt HB2.out hk3
  have HQ3 : Hid (ParB w3 gS curS S) := ParB.kt HQ2.out hk3
  clear hs3 hk3
  go_wp2_with fail
  refine (wput_s _ W (wPut [58] (wPut nm (wPut kRule st))) cc HS3.out HL4.out).mono ?_
  rintro e w4 ⟨rfl, hs4, hk4⟩
  have HS4 := hideP2 hs4
  have HK4 : Hid (KT W w w4) := (KT.trans HK3.out hk4)
  have bx4 : w4.heap[w.heap.size]? = some (.cells #[.int .i64 3, .string ⟨nm.toArray⟩, .int .i64 lo, .int .i64 hi, .string ⟨cc.toArray⟩, .slice (some ⟨gS, 0, none⟩) S.length cS, .slice (some ⟨gN, 0, none⟩) N.length cN, .int .i64 (root : Nat), .int .i64 te, .int .i64 de, .string ⟨lw.toArray⟩] 234 (0, 0)) := hk4.kept _ _ bx3 (okT_cells (by decide) (by decide))
  have cx4 := fun j => cell_of_row _ _ j _ _ _ bx4
  clear cx3 bx3
  have HB4 : Hid (NodB w4 gN curN N) := NodB.kt HB3.out hk4
  have HQ4 : Hid (ParB w4 gS curS S) := ParB.kt HQ3.out hk4
  clear hs4 hk4
  go_wp2_with fail
  refine (wput_s _ W (wPut cc (wPut [58] (wPut nm (wPut kRule st)))) [61] HS4.out HL5.out).mono ?_
  rintro e w5 ⟨rfl, hs5, hk5⟩
  have HS5 := hideP2 hs5
  have HK5 : Hid (KT W w w5) := (KT.trans HK4.out hk5)
  have bx5 : w5.heap[w.heap.size]? = some (.cells #[.int .i64 3, .string ⟨nm.toArray⟩, .int .i64 lo, .int .i64 hi, .string ⟨cc.toArray⟩, .slice (some ⟨gS, 0, none⟩) S.length cS, .slice (some ⟨gN, 0, none⟩) N.length cN, .int .i64 (root : Nat), .int .i64 te, .int .i64 de, .string ⟨lw.toArray⟩] 234 (0, 0)) := hk5.kept _ _ bx4 (okT_cells (by decide) (by decide))
  have cx5 := fun j => cell_of_row _ _ j _ _ _ bx5
  clear cx4 bx4
  have HB5 : Hid (NodB w5 gN curN N) := NodB.kt HB4.out hk5
  have HQ5 : Hid (ParB w5 gS curS S) := ParB.kt HQ4.out hk5
  clear hs5 hk5
  go_wp2_with fail
  refine (wsum_s _ W gS cS curS S (wPut [61] (wPut cc (wPut [58] (wPut nm (wPut kRule st))))) HS5.out HQ5.out hS hg HL6.out).mono ?_
  rintro e w6 ⟨rfl, hs6, hk6⟩
  have HS6 := hideP2 hs6
  have HK6 : Hid (KT W w w6) := (KT.trans HK5.out hk6)
  have bx6 : w6.heap[w.heap.size]? = some (.cells #[.int .i64 3, .string ⟨nm.toArray⟩, .int .i64 lo, .int .i64 hi, .string ⟨cc.toArray⟩, .slice (some ⟨gS, 0, none⟩) S.length cS, .slice (some ⟨gN, 0, none⟩) N.length cN, .int .i64 (root : Nat), .int .i64 te, .int .i64 de, .string ⟨lw.toArray⟩] 234 (0, 0)) := hk6.kept _ _ bx5 (okT_cells (by decide) (by decide))
  have cx6 := fun j => cell_of_row _ _ j _ _ _ bx6
  clear cx5 bx5
  have HB6 : Hid (NodB w6 gN curN N) := NodB.kt HB5.out hk6
  have HQ6 : Hid (ParB w6 gS curS S) := ParB.kt HQ5.out hk6
  clear hs6 hk6
  go_wp2_with fail
  refine (wput_s _ W (wSumG S 0 (wPut [61] (wPut cc (wPut [58] (wPut nm (wPut kRule st)))))) kWhen HS6.out HL7.out).mono ?_
  rintro e w7 ⟨rfl, hs7, hk7⟩
  have HS7 := hideP2 hs7
  have HK7 : Hid (KT W w w7) := (KT.trans HK6.out hk7)
  have bx7 : w7.heap[w.heap.size]? = some (.cells #[.int .i64 3, .string ⟨nm.toArray⟩, .int .i64 lo, .int .i64 hi, .string ⟨cc.toArray⟩, .slice (some ⟨gS, 0, none⟩) S.length cS, .slice (some ⟨gN, 0, none⟩) N.length cN, .int .i64 (root : Nat), .int .i64 te, .int .i64 de, .string ⟨lw.toArray⟩] 234 (0, 0)) := hk7.kept _ _ bx6 (okT_cells (by decide) (by decide))
  have cx7 := fun j => cell_of_row _ _ j _ _ _ bx7
  clear cx6 bx6
  have HB7 : Hid (NodB w7 gN curN N) := NodB.kt HB6.out hk7
  have HQ7 : Hid (ParB w7 gS curS S) := ParB.kt HQ6.out hk7
  clear hs7 hk7
  go_wp2_with fail
  refine (node_all W gN cN curN N hN N.length _ (wPut kWhen (wSumG S 0 (wPut [61] (wPut cc (wPut [58] (wPut nm (wPut kRule st))))))) root HS7.out HB7.out hroot hroot HL8.out).mono ?_
  rintro e w8 ⟨rfl, hs8, hk8⟩
  have HS8 := hideP2 hs8
  have HK8 : Hid (KT W w w8) := (KT.trans HK7.out hk8)
  have bx8 : w8.heap[w.heap.size]? = some (.cells #[.int .i64 3, .string ⟨nm.toArray⟩, .int .i64 lo, .int .i64 hi, .string ⟨cc.toArray⟩, .slice (some ⟨gS, 0, none⟩) S.length cS, .slice (some ⟨gN, 0, none⟩) N.length cN, .int .i64 (root : Nat), .int .i64 te, .int .i64 de, .string ⟨lw.toArray⟩] 234 (0, 0)) := hk8.kept _ _ bx7 (okT_cells (by decide) (by decide))
  have cx8 := fun j => cell_of_row _ _ j _ _ _ bx8
  clear cx7 bx7
  have HB8 : Hid (NodB w8 gN curN N) := NodB.kt HB7.out hk8
  have HQ8 : Hid (ParB w8 gS curS S) := ParB.kt HQ7.out hk8
  clear hs8 hk8
  go_wp2_with fail
  refine (wend_s _ W (wNode N N.length root (wPut kWhen (wSumG S 0 (wPut [61] (wPut cc (wPut [58] (wPut nm (wPut kRule st)))))))) HS8.out HL9.out).mono ?_
  rintro e w9 ⟨rfl, hs9, hk9⟩
  have HS9 := hideP2 hs9
  have HK9 : Hid (KT W w w9) := (KT.trans HK8.out hk9)
  have bx9 : w9.heap[w.heap.size]? = some (.cells #[.int .i64 3, .string ⟨nm.toArray⟩, .int .i64 lo, .int .i64 hi, .string ⟨cc.toArray⟩, .slice (some ⟨gS, 0, none⟩) S.length cS, .slice (some ⟨gN, 0, none⟩) N.length cN, .int .i64 (root : Nat), .int .i64 te, .int .i64 de, .string ⟨lw.toArray⟩] 234 (0, 0)) := hk9.kept _ _ bx8 (okT_cells (by decide) (by decide))
  have cx9 := fun j => cell_of_row _ _ j _ _ _ bx9
  clear cx8 bx8
  have HB9 : Hid (NodB w9 gN curN N) := NodB.kt HB8.out hk9
  have HQ9 : Hid (ParB w9 gS curS S) := ParB.kt HQ8.out hk9
  clear hs9 hk9
  go_wp2_with fail
  first | go_end0 | ((try simp only [Exit.inBlock, Exit.then]); refine bodyPost_ret (results_none rfl _ _ _) rfl ?_)
  exact ⟨rfl, HS9.out, HK9.out⟩

end Go.Proofs.YtnbpdffdnphbeaaGreatDoor

/- What Text of the program's tidy gives: the lines written anew. -/
namespace Go.Proofs.YtnbpdffdnphbeaaGreatDoor
open Go.RowKit

theorem foldl_push (out : Bs) : ∀ acc : Bs, (out.map (fun b : UInt8 => (b.toNat : Int))).foldl (fun r n => r.push (UInt8.ofNat n.toNat)) (ByteArray.mk acc.toArray) = ⟨(acc ++ out).toArray⟩ := by
  induction out with
  | nil => intro acc; simp
  | cons c r ih =>
    intro acc
    simp only [List.map_cons, List.foldl_cons]
    have e : (ByteArray.mk acc.toArray).push (UInt8.ofNat ((c.toNat : Int)).toNat) = ByteArray.mk (acc ++ [c]).toArray := by
      simp [ByteArray.push]
    rw [e, ih]; simp

theorem conv_own {w : World} {B : Nat} {v : Value} {out : Bs} (h : w.ownsRow B 5 1 v out.length (bC out)) : (convert 224 9 v).run Tryz.prog w = .ok (.string ⟨out.toArray⟩) w := by
  have hcells := fun g (hv : v = .slice (some ⟨g, 0, none⟩) out.length (match v with | .slice _ _ c => c | _ => 0)) => h.cells (g := g)
  rcases h.2 with ⟨h1, h2⟩ | ⟨g, cap, cur, h1, h2, h3, h4, h5, h6, h7⟩
  · have e : out = [] := List.eq_nil_of_length_eq_zero h2
    subst e; subst h1
    rw [run_convert_bytes_string w _ _ 5 none 0 0 Tryz.underlying224 Tryz.underlying5 Tryz.underlying9]
    rfl
  · subst h1
    rw [run_convert_bytes_string w _ _ 5 _ _ _ Tryz.underlying224 Tryz.underlying5 Tryz.underlying9]
    have hb : bC out = (out.map (fun b : UInt8 => (b.toNat : Int))).map (Value.int .u8) := by simp [bC]
    have hl := run_loadCells_list (P := Tryz.prog) (w := w) ⟨g, 0, none⟩ (bC out) (fun j u hu => by
      rw [Addr.add_lit, Nat.zero_add]; exact cell_take2 h3 h7 hu)
    rw [bC_len, hb] at hl
    rw [run_bytesToString w ⟨g, 0, none⟩ out.length cap _ hl]
    have hf := foldl_push out []
    rw [List.nil_append] at hf
    rw [← hf]; rfl
end Go.Proofs.YtnbpdffdnphbeaaGreatDoor

/- What Text of the program's tidy gives: the lines written anew, one behind the other. -/
namespace Go.Proofs.YtnbpdffdnphbeaaGreatDoor
open Go.RowKit

/-- What a line becomes. -/
def wLine (x : PLine) (st : WSt) : WSt :=
  if x.kind = 1 then wEnd (wNum x.high (wPut [46, 46] (wNum x.low (wPut x.name (wPut [110, 117, 109] st)))))
  else if x.kind = 2 then wEnd (wPut x.name (wPut [102, 108, 97, 103] st))
  else if x.kind = 3 then wEnd (wNode x.nd x.nd.length x.root.toNat (wPut kWhen (wSumG x.sum 0 (wPut [61] (wPut x.conc (wPut [58] (wPut x.name (wPut kRule st))))))))
  else wEnd (wPut x.lower (wPut x.name (wPut [111, 118, 101, 114] st)))

theorem wLine_le (x : PLine) (st : WSt) : st.1.length ≤ (wLine x st).1.length := by
  unfold wLine
  split
  · exact Nat.le_trans (wle' _ _) (Nat.le_trans (wle' _ _) (Nat.le_trans (wle' _ _) (Nat.le_trans (wle' _ _) (Nat.le_trans (wle' _ _) (wEnd_le _)))))
  · split
    · exact Nat.le_trans (wle' _ _) (Nat.le_trans (wle' _ _) (wEnd_le _))
    · split
      · exact Nat.le_trans (wle' _ _) (Nat.le_trans (wle' _ _) (Nat.le_trans (wle' _ _) (Nat.le_trans (wle' _ _) (Nat.le_trans (wle' _ _) (Nat.le_trans (wSumG_le _ _ _) (Nat.le_trans (wle' _ _) (Nat.le_trans (wNode_le _ _ _ _) (wEnd_le _))))))))
      · exact Nat.le_trans (wle' _ _) (Nat.le_trans (wle' _ _) (Nat.le_trans (wle' _ _) (wEnd_le _)))

/-- A line that the writer can write: its numbers are small, its nodes good. -/
structure GoodP (x : PLine) : Prop where
  kinds : x.kind = 1 ∨ x.kind = 2 ∨ x.kind = 3 ∨ x.kind = 4
  lo0 : 0 ≤ x.low
  lo1 : x.low ≤ 9999
  hi0 : 0 ≤ x.high
  hi1 : x.high ≤ 9999
  sums : ∀ a, a < x.sum.length → 0 ≤ (xAt x.sum a).num ∧ (xAt x.sum a).num ≤ 9999
  sumN : x.sum.length ≤ 10000
  nodes : GoodN x.nd
  rule : x.kind = 3 → 0 < x.sum.length ∧ 0 ≤ x.root ∧ x.root < (x.nd.length : Int)

/-- A line's rows, as blocks that are known. -/
structure LineB (w : World) (x : LX) : Prop where
  s1 : ∃ a n c, x.2.1 = .slice a n c
  s2 : ∃ a n c, x.2.2 = .slice a n c
  sum : 0 < x.1.sum.length → ∃ g c cur, x.2.1 = .slice (some ⟨g, 0, none⟩) x.1.sum.length c ∧ ParB w g cur x.1.sum
  nod : 0 < x.1.nd.length → ∃ g c cur, x.2.2 = .slice (some ⟨g, 0, none⟩) x.1.nd.length c ∧ NodB w g cur x.1.nd

theorem LineB.kt {w w' : World} {W : Nat} {x : LX} (h : LineB w x) (hk : KT W w w') : LineB w' x :=
  ⟨h.s1, h.s2, fun h0 => let ⟨g, c, cur, e, p⟩ := h.sum h0; ⟨g, c, cur, e, p.kt hk⟩, fun h0 => let ⟨g, c, cur, e, p⟩ := h.nod h0; ⟨g, c, cur, e, p.kt hk⟩⟩

theorem LineB.of_rows {w : World} {B : Nat} {x : LX} (h : LineRows w B x.2.1 x.2.2 x.1) : LineB w x := by
  refine ⟨own_slice h.1, own_slice h.2, fun h0 => ?_, fun h0 => ?_⟩
  · rcases h.1.2 with ⟨_, h2⟩ | ⟨g, cap, cur, h1, _, h3, _, _, _, h7⟩
    · omega
    · exact ⟨g, cap, cur, h1, h3, h7⟩
  · rcases h.2.2 with ⟨_, h2⟩ | ⟨g, cap, cur, h1, _, h3, _, _, _, h7⟩
    · omega
    · exact ⟨g, cap, cur, h1, h3, h7⟩

theorem wline_s (w : World) (W : Nat) (st : WSt) (x : LX) (h : WrS w W st) (hg : GoodP x.1) (hb : LineB w x) (hn : (wLine x.1 st).1.length ≤ bigW) :
    Calls Tryz.prog 103 #[.pointer (some ⟨W, 0, none⟩), lineV x.2.1 x.2.2 x.1] w fun e w' => e = .returned (.tuple #[]) ∧ WrS w' W (wLine x.1 st) ∧ KT W w w' := by
  obtain ⟨⟨k, nm, lo, hi, cc, S, N, ro, te, de, lw⟩, sv, nv⟩ := x
  obtain ⟨sa, sn, sc, e1⟩ := hb.s1
  obtain ⟨na, nn, nc, e2⟩ := hb.s2
  simp only at e1 e2
  simp only [lineV, wLine] at hn ⊢
  have hk := hg.kinds
  simp only at hk
  by_cases k1 : k = 1
  · subst k1 e1 e2; simp only [if_true] at hn ⊢
    exact wline_num w W st lo hi te de nm cc lw sa na sn sc nn nc ro h hg.lo0 hg.lo1 hg.hi0 hg.hi1 hn
  rw [if_neg k1] at hn ⊢
  by_cases k2 : k = 2
  · subst k2 e1 e2; simp only [if_true] at hn ⊢
    exact wline_flag w W st lo hi te de nm cc lw sa na sn sc nn nc ro h hn
  rw [if_neg k2] at hn ⊢
  by_cases k3 : k = 3
  · subst k3; simp only [if_true] at hn ⊢
    obtain ⟨hs0, hr0, hr1⟩ := hg.rule rfl
    simp only at hs0 hr0 hr1
    obtain ⟨gS, cS, curS, f1, hp⟩ := hb.sum hs0
    obtain ⟨gN, cN, curN, f2, hq⟩ := hb.nod (by show 0 < N.length; omega)
    simp only at f1 f2 hp hq
    subst f1 f2
    obtain ⟨root, rfl⟩ := Int.eq_ofNat_of_zero_le hr0
    rw [Int.toNat_natCast] at hn ⊢
    exact wline_rule w W st lo hi te de nm cc lw gS cS gN cN root curS curN S N h hp hq hg.sumN hg.sums hg.nodes (by omega) hn
  · rw [if_neg k3] at hn ⊢
    have k4 : k = 4 := by omega
    subst k4 e1 e2
    exact wline_over w W st lo hi te de nm cc lw sa na sn sc nn nc ro h hn

def lz : LX := (⟨0, [], 0, 0, [], [], [], 0, 0, 0, []⟩, (.slice none 0 0, .slice none 0 0))
def lAt (ls : List LX) (i : Nat) : LX := ls.getD i lz

structure LinB (w : World) (gl : Nat) (cur : Array Value) (ls : List LX) : Prop where
  blk : w.heap[gl]? = some (.cells cur 234 (0, 0))
  row : cur.toList.take (ls.length * 11) = flatL ls

theorem LinB.kt {w w' : World} {W gl : Nat} {cur : Array Value} {ls : List LX} (h : LinB w gl cur ls) (hk : KT W w w') : LinB w' gl cur ls := ⟨hk.kept _ _ h.blk (okT_cells (by decide) (by decide)), h.row⟩
theorem LinB.lt {w : World} {gl : Nat} {cur : Array Value} {ls : List LX} (h : LinB w gl cur ls) : gl < w.heap.size := by
  rcases Nat.lt_or_ge gl w.heap.size with h1 | h1
  · exact h1
  · have h2 := h.blk; rw [Array.getElem?_eq_none h1] at h2; cases h2

theorem flatL_get (ls : List LX) : ∀ i, i < ls.length → ∀ j, j < 11 → (flatL ls)[i * 11 + j]? = (lineC (lAt ls i))[j]? := by
  induction ls with
  | nil => intro i h; simp at h
  | cons t r ih =>
    intro i h j hj
    have e : flatL (t :: r) = lineC t ++ flatL r := by simp [flatL]
    have hl : (lineC t).length = 11 := rfl
    cases i with
    | zero => rw [e, List.getElem?_append_left (by rw [hl]; omega)]; simp [lAt]
    | succ i =>
      rw [e, List.getElem?_append_right (by rw [hl]; omega), hl, show (i + 1) * 11 + j - 11 = i * 11 + j by omega, ih i (by simpa using h) j hj]
      simp [lAt]

theorem LinB.cell {w : World} {gl : Nat} {cur : Array Value} {ls : List LX} (h : LinB w gl cur ls) {a : Nat} (ha : a < ls.length) (j : Nat) (hj : j < 11) {u : Value} (hu : (lineC (lAt ls a))[j]? = some u) : w.cell? ⟨gl, a * 11 + j, none⟩ = some u :=
  cell_take2 h.blk h.row ((flatL_get ls a ha j hj).trans hu)

def textG2 : List LX → WSt → WSt
  | [], st => st
  | x :: r, st => textG2 r (wLine x.1 st)
theorem textG2_le (ls : List LX) : ∀ st, st.1.length ≤ (textG2 ls st).1.length := by
  induction ls with
  | nil => intro st; exact Nat.le_refl _
  | cons x r ih => intro st; rw [textG2]; exact Nat.le_trans (wLine_le _ _) (ih _)

theorem dropL (ls : List LX) (k : Nat) (h : k < ls.length) : ls.drop k = lAt ls k :: ls.drop (k + 1) := by
  rw [List.drop_eq_getElem_cons h]; simp [lAt, List.getD, h]
theorem lAt_mem {ls : List LX} {k : Nat} (h : k < ls.length) : lAt ls k ∈ ls := by simp [lAt, List.getD, h]

set_option maxHeartbeats 1000000 in
theorem Text_some (w : World) (gl cap : Nat) (cur : Array Value) (ls : List LX) (hL : LinB w gl cur ls) (hlen : ls.length ≤ 10000) (hg : ∀ x ∈ ls, GoodP x.1) (hb : ∀ x ∈ ls, LineB w x) (htab : Tab w) (hgl : ∃ g, Tryz.prog.globalNamed "internal/strconv.uint64pow10" = some g ∧ g < w.heap.size) (hn : (textG2 ls ([], false)).1.length ≤ bigW) :
    Calls Tryz.prog 61 #[.slice (some ⟨gl, 0, none⟩) ls.length cap] w fun e w' => e = .returned (.string ⟨(textG2 ls ([], false)).1.toArray⟩) ∧ Below w.heap.size w w' := by
  have HL0 := hideP2 hL
  have HGd := hideP2 hg
  have HBd := hideP2 hb
  have HN := hideP2 hn
  have hk0 : KT w.heap.size w (w.alloc (wrObj (.slice none 0 0) false)) := (KT.refl _ w).new (Nat.le_refl _) _
  have hw0 : WrS (w.alloc (wrObj (.slice none 0 0) false)) w.heap.size ([], false) :=
    ⟨⟨.slice none 0 0, hb_end _ _, World.ownsRow_nil _ _ _ _⟩, htab.below hgl hk0.below, hgl⟩
  have HW0 := hideP2 hw0
  have HK0 := hideP2 hk0
  generalize hWW : w.heap.size = W at *
  have HWW := hideP2 hWW
  clear hL hg hb hn hw0 hk0 htab hgl
  go_enter Tryz.func61, Tryz.ntmps61
  go_wp2_with fail
  go_loopw [9] (fun iv wr => ∃ (i : Nat) (st : WSt), i ≤ ls.length ∧ iv = .int .i64 i ∧ Hid (WrS wr W st) ∧ Hid (LinB wr gl cur ls) ∧ Hid (∀ x ∈ ls, LineB wr x) ∧ Hid (KT W w wr) ∧ Hid (textG2 (ls.drop i) st = textG2 ls ([], false))) (fun iv _ => ls.length - (intOf iv).toNat)
  case atStart => exact ⟨0, ([], false), Nat.zero_le _, rfl, HW0, hideP2 (HL0.out.kt HK0.out), hideP2 (fun x hx => (HBd.out x hx).kt HK0.out), HK0, hideP2 rfl⟩
  case round =>
    obtain ⟨i, st, hi, rfl, HSr, HLr, HBr, HKr, HE⟩ := hrel
    clear HW0 HK0 HL0 HBd
    have hWr := HSr.out.wr.lt
    by_cases hlt : i < ls.length
    · have hx := fun j hj (u : Value) hu => HLr.out.cell hlt j hj (u := u) hu
      have hglt := HLr.out.lt
      have nX : wr.heap.size ≠ gl := by omega
      have hE := HE.out
      rw [dropL ls i hlt, textG2] at hE
      have hb := HN.out
      rw [← hE] at hb
      have hb2 := Nat.le_trans (textG2_le _ _) hb
      have hmem := lAt_mem hlt
      have HLi := hideP2 (fun w' (h' : WrS w' W st) (hB : LineB w' (lAt ls i)) => wline_s w' W st (lAt ls i) h' (HGd.out _ hmem) hB hb2)
      have hBi := HBr.out _ hmem
      obtain ⟨sa, sn, sc, e1⟩ := hBi.s1
      obtain ⟨na, nn, nc, e2⟩ := hBi.s2
      have HBi := hideP2 hBi
      have HE2 := hideP2 hE
      have c0 := hx 0 (by omega) _ rfl
      have c1 := hx 1 (by omega) _ rfl
      have c2 := hx 2 (by omega) _ rfl
      have c3 := hx 3 (by omega) _ rfl
      have c4 := hx 4 (by omega) _ rfl
      have c5 := hx 5 (by omega) _ rfl
      have c6 := hx 6 (by omega) _ rfl
      have c7 := hx 7 (by omega) _ rfl
      have c8 := hx 8 (by omega) _ rfl
      have c9 := hx 9 (by omega) _ rfl
      have c10 := hx 10 (by omega) _ rfl
      clear hE hb hb2 HE hx hBi
      generalize lAt ls i = x at *
      obtain ⟨⟨k, nm, lo, hi', cc, S, N, ro, te, de, lw⟩, sv, nv⟩ := x
      simp only at e1 e2 c0 c1 c2 c3 c4 c5 c6 c7 c8 c9 c10
      subst e1 e2
      simp only [lineV] at HLi
      rw [Nat.add_zero] at c0
      clear hmem
      go_wp2_with fail
      refine (HLi.out _ (WrS.new HSr.out _) (HBi.out.kt ((KT.refl W wr).new (Nat.le_of_lt hWr) _))).mono ?_
      rintro e w1 ⟨rfl, hs1, hk1⟩
      have hk : KT W wr w1 := KT.trans ((KT.refl W wr).new (Nat.le_of_lt hWr) _) hk1
      have HS1 := hideP2 hs1
      have HL1 := hideP2 (HLr.out.kt hk)
      have HB1 : Hid (∀ x ∈ ls, LineB w1 x) := fun x hx => (HBr.out x hx).kt hk
      have HK1 : Hid (KT W w w1) := HKr.out.trans hk
      clear hs1 hk1 hk c0 c1 c2 c3 c4 c5 c6 c7 c8 c9 c10
      go_wp2_with fail
      go_roundw
      case rel => exact ⟨i + 1, _, by omega, by go_num, HS1, HL1, HB1, HK1, HE2⟩
      case measure => simp [intOf]; omega
    · have hE := HE.out
      rw [List.drop_eq_nil_of_le (by omega), textG2] at hE
      have HE2 := hideP2 hE
      obtain ⟨ov, hwb, hown⟩ := HSr.out.wr
      obtain ⟨c0, _, _⟩ := wr_cells hwb
      have hcv := conv_own hown
      obtain ⟨oa, on, oc, rfl⟩ := own_slice hown
      clear hE HE hwb hown
      go_wp2_with fail
      go_ret
      rw [← HE2.out]
      exact ⟨rfl, HKr.out.below⟩
end Go.Proofs.YtnbpdffdnphbeaaGreatDoor

/- What Tidy of the program gives, if what is plain holds of the text. -/
namespace Go.Proofs.YtnbpdffdnphbeaaGreatDoor
open Go.RowKit

def textL2 : List PLine → WSt → WSt
  | [], st => st
  | x :: r, st => textL2 r (wLine x st)
theorem textG2_map (ls : List LX) : ∀ st, textG2 ls st = textL2 (ls.map Prod.fst) st := by
  induction ls with
  | nil => intro st; rfl
  | cons x r ih => intro st; rw [textG2, List.map_cons, textL2, ih]

/-- What is plain of a text of at most 4000 bytes: the reader fails just where the document's form does, and what is written is the document's text. -/
structure PureT (n : Nat) (l : Bs) : Prop where
  fails : (readB l).2.2 = true → 0 ≤ formB l
  reads : (readB l).2.2 = false → formB l < 0
  good : (readB l).2.2 = false → ∀ x ∈ (readB l).1, GoodP x
  many : (readB l).1.length ≤ 10000
  text : (readB l).2.2 = false → (textL2 (readB l).1 ([], false)).1 = tidyT n l
  short : (tidyT n l).length ≤ bigW
  goodR : formB l < 0 → ∀ p ∈ linesB (toksAt l 0), goodL n (segT (toksAt l 0) p)

theorem Text_none (w : World) : Calls Tryz.prog 61 #[.slice none 0 0] w fun e w' => e = .returned (.string ⟨#[]⟩) ∧ Below w.heap.size w w' := by
  have hcv : ∀ w : World, (convert 224 9 (.slice none 0 0)).run Tryz.prog w = .ok (.string ⟨#[]⟩) w := fun w => conv_own (B := 0) (out := []) (World.ownsRow_nil w 0 5 1)
  go_enter Tryz.func61, Tryz.ntmps61
  go_wp2_with fail
  go_loop [9] (fun iv => iv = .int .i64 0) (fun _ => 0)
  case atStart => rfl
  case round =>
    obtain rfl := hrel
    go_wp2_with fail
    go_ret
    exact ⟨rfl, (Below.refl _ _).alloc (Nat.le_refl _) _⟩

theorem tidyB_long {n : Nat} {l : Bs} (h : 4000 < l.length) : tidyB n l = ([], 1) := by unfold tidyB; rw [if_pos h]
theorem tidyB_form {n : Nat} {l : Bs} (h : ¬ 4000 < l.length) (h2 : 0 ≤ formB l) : tidyB n l = ([], 2) := by unfold tidyB; rw [if_neg h, if_pos h2]
theorem tidyB_ok {n : Nat} {l : Bs} (h : ¬ 4000 < l.length) (h2 : formB l < 0) : tidyB n l = (tidyT n l, 0) := by unfold tidyB; rw [if_neg h, if_neg (by omega)]

def PowVar (w : World) : Prop := Tab w ∧ ∃ g, Tryz.prog.globalNamed "internal/strconv.uint64pow10" = some g ∧ g < w.heap.size

set_option maxHeartbeats 1000000 in
theorem StTidy_err (l : Bs) (w : World) (k : Int) (hk : k = 1 ∨ k = 2) (p : Int) (hR : Calls Tryz.prog 60 #[.string ⟨l.toArray⟩] w fun e w' => e = .returned (readV (.slice none 0 0) k p) ∧ Below w.heap.size w w') :
    Calls Tryz.prog 24 #[.string ⟨l.toArray⟩] w fun e w' => e = .returned (.tuple #[.string ⟨#[]⟩, .int .i64 k]) ∧ Below w.heap.size w w' := by
  have HR := hideP2 hR
  have e1 : (k != 0) = true := by rcases hk with rfl | rfl <;> rfl
  clear hR hk
  go_enter Tryz.func24, Tryz.ntmps24
  go_wp2_with fail
  refine HR.out.mono ?_
  rintro e w1 ⟨rfl, hb⟩
  have HB := hideP2 hb
  have hs := hb.size
  clear hb HR
  unfold readV
  go_wp2_with fail
  go_region_held3 (fun w' => w'.cell? ⟨w1.heap.size, 1, none⟩ = some (.int .i64 k)) (go_keep) (fail)
  go_wp2_with fail
  go_ret2
  exact ⟨rfl, (HB.out.alloc hs _).drew⟩

set_option maxHeartbeats 1000000 in
theorem StTidy_any (n : Nat) (l : Bs) (w : World) (hmax : l.length ≤ maxLen) (hv : PowVar w) (hp : l.length ≤ 4000 → PureT n l) :
    Calls Tryz.prog 24 #[.string ⟨l.toArray⟩] w fun e w' => e = .returned (.tuple #[.string ⟨(tidyB n l).1.toArray⟩, .int .i64 (tidyB n l).2]) ∧ Below w.heap.size w w' := by
  by_cases hl : 4000 < l.length
  · rw [tidyB_long hl]
    exact StTidy_err l w 1 (.inl rfl) 0 (BookRead_long l w hmax hl)
  · have hP := hp (by omega)
    have hR := BookRead_any l w (by omega)
    cases hf : (readB l).2.2
    · rw [tidyB_ok hl (hP.reads hf)]
      have hgood := hP.good hf
      have htext := hP.text hf
      have hshort := hP.short
      have hmany := hP.many
      have HR := hideP2 hR
      have HRI : Hid (∀ w' e, ReadIs w w' l e → ∃ lv ls, e = .returned (readV lv 0 0) ∧ ls.map Prod.fst = (readB l).1 ∧ LinesM w' w.heap.size lv ls) := by
        intro w' e h; unfold ReadIs at h; rw [hf] at h; exact h
      generalize readB l = F at *
      generalize tidyT n l = T at *
      have HG := hideP2 hgood
      have HT := hideP2 htext
      have HSh := hideP2 hshort
      have HMn := hideP2 hmany
      have HV := hideP2 hv
      clear hR hP hp hgood htext hshort hmany hv hf
      go_enter Tryz.func24, Tryz.ntmps24
      go_wp2_with fail
      refine HR.out.mono ?_
      rintro e w1 ⟨hri, hb⟩
      obtain ⟨lv, ls, rfl, hmap, hown, hrows⟩ := HRI.out _ _ hri
      have HB := hideP2 hb
      have hs := hb.size
      obtain ⟨la, ln, lc, rfl⟩ := own_slice hown
      have hG2 : ∀ x ∈ ls, GoodP x.1 := fun x hx => HG.out _ (by rw [← hmap]; exact List.mem_map.2 ⟨x, hx, rfl⟩)
      have hT2 : (textG2 ls ([], false)).1 = T := by rw [textG2_map, hmap]; exact HT.out
      have hLn : ls.length ≤ 10000 := by have h9 := congrArg List.length hmap; rw [List.length_map] at h9; rw [h9]; exact HMn.out
      have hcall : ∀ o : Obj, Calls Tryz.prog 61 #[.slice la ln lc] (w1.alloc o) fun e w' => e = .returned (.string ⟨T.toArray⟩) ∧ Below (w1.alloc o).heap.size (w1.alloc o) w' := by
        intro o
        have hbel : Below w.heap.size w (w1.alloc o) := HB.out.alloc hs o
        obtain ⟨htab, g, hg1, hg2⟩ := HV.out
        have hsz : w.heap.size ≤ (w1.alloc o).heap.size := hbel.size
        rcases hown.2 with ⟨k1, k2⟩ | ⟨gl, cap, cur, k1, _, k3, _, _, _, k7⟩
        · have e0 : ls = [] := List.eq_nil_of_length_eq_zero k2
          subst e0
          cases k1
          rw [← hT2]; exact Text_none _
        · cases k1
          rw [← hT2]
          refine Text_some (w1.alloc o) gl _ cur ls ⟨hb_new k3, k7⟩ hLn hG2 (fun x hx => LineB.of_rows ⟨(hrows x hx).1.alloc _, (hrows x hx).2.alloc _⟩) (htab.below ⟨g, hg1, hg2⟩ hbel) ⟨g, hg1, by omega⟩ (by rw [hT2]; exact HSh.out)
      have HCl := hideP2 hcall
      clear hb hri hown hrows hG2 hT2 hLn hcall hmap HR HRI HG HT HSh HMn HV
      unfold readV
      go_wp2_with fail
      refine (HCl.out _).mono ?_
      rintro e w2 ⟨rfl, hb2⟩
      have HB2 : Hid (Below w.heap.size w w2) := (HB.out.alloc hs _).trans (hb2.mono (by simp; omega))
      clear hb2 HCl
      go_wp2_with fail
      go_ret2
      exact ⟨rfl, HB2.out⟩
    · rw [tidyB_form hl (hP.fails hf)]
      refine StTidy_err l w 2 (.inr rfl) (cur (toP l) (readB l).2.1).p (hR.mono ?_)
      rintro e w' ⟨h1, h2⟩
      unfold ReadIs at h1
      rw [hf] at h1
      exact ⟨h1, h2⟩
end Go.Proofs.YtnbpdffdnphbeaaGreatDoor
