/- What part and sum of the writer do. -/
import Derived.Test.YtnbpdffdnphbeaaDoorWnode2
namespace Go.Proofs.YtnbpdffdnphbeaaDoor
open Go.RowKit

set_option maxHeartbeats 1000000 in
theorem wpart_star (w : World) (W : Nat) (st : WSt) (xm : Bool) (xu : Int) (xn : Bs) (h : WrS w W st) (h0 : 0 ≤ xu) (h1 : xu ≤ 9999) (hn : (wPut xn (wPut [42] (wNum xu st))).1.length ≤ bigW) :
    Calls Tryd.prog 102 #[.pointer (some ⟨W, 0, none⟩), .agg #[.bool xm, .bool true, .int .i64 xu, .string ⟨xn.toArray⟩]] w fun e w' => e = .returned (.tuple #[]) ∧ WrS w' W (wPut xn (wPut [42] (wNum xu st))) ∧ KT W w w' := by
  have hW := h.wr.lt
  have HS0 := hideP2 h
  have HN := hideP2 hn
  clear h hn
  go_enter Tryd.func102, Tryd.ntmps102
  go_wp2_with fail
  refine (wnum_s _ W st xu (WrS.new HS0.out _) (wle _ _ (wle _ _ HN.out)) h0 h1).mono ?_
  rintro e w1 ⟨rfl, hs1, hk1⟩
  have HS1 := hideP2 hs1
  have HK1 : Hid (KT W w w1) := (KT.trans ((KT.refl W w).new (Nat.le_of_lt hW) _) hk1)
  have bx1 : w1.heap[w.heap.size]? = some (.cells #[.bool xm, .bool true, .int .i64 xu, .string ⟨xn.toArray⟩] 106 (0, 0)) := hk1.kept _ _ (hb_end _ _) (okT_cells (by decide) (by decide))
  have cx1 := fun j => cell_of_row _ _ j _ _ _ bx1
  clear hs1 hk1
  go_wp2_with fail
  refine (wput_s _ W (wNum xu st) [42] HS1.out (wle _ _ HN.out)).mono ?_
  rintro e w2 ⟨rfl, hs2, hk2⟩
  have HS2 := hideP2 hs2
  have HK2 : Hid (KT W w w2) := (KT.trans HK1.out hk2)
  have bx2 : w2.heap[w.heap.size]? = some (.cells #[.bool xm, .bool true, .int .i64 xu, .string ⟨xn.toArray⟩] 106 (0, 0)) := hk2.kept _ _ bx1 (okT_cells (by decide) (by decide))
  have cx2 := fun j => cell_of_row _ _ j _ _ _ bx2
  clear cx1 bx1
  clear hs2 hk2
  go_wp2_with fail
  refine (wput_s _ W (wPut [42] (wNum xu st)) xn HS2.out HN.out).mono ?_
  rintro e w3 ⟨rfl, hs3, hk3⟩
  have HS3 := hideP2 hs3
  have HK3 : Hid (KT W w w3) := (KT.trans HK2.out hk3)
  have bx3 : w3.heap[w.heap.size]? = some (.cells #[.bool xm, .bool true, .int .i64 xu, .string ⟨xn.toArray⟩] 106 (0, 0)) := hk3.kept _ _ bx2 (okT_cells (by decide) (by decide))
  have cx3 := fun j => cell_of_row _ _ j _ _ _ bx3
  clear cx2 bx2
  clear hs3 hk3
  go_wp2_with fail
  first | go_end0 | ((try simp only [Exit.inBlock, Exit.then]); refine bodyPost_ret (results_none rfl _ _ _) rfl ?_)
  exact ⟨rfl, HS3.out, HK3.out⟩

set_option maxHeartbeats 1000000 in
theorem wpart_num (w : World) (W : Nat) (st : WSt) (xm : Bool) (xu : Int) (xn : Bs) (h : WrS w W st) (he : xn.isEmpty = true) (h0 : 0 ≤ xu) (h1 : xu ≤ 9999) (hn : (wNum xu st).1.length ≤ bigW) :
    Calls Tryd.prog 102 #[.pointer (some ⟨W, 0, none⟩), .agg #[.bool xm, .bool false, .int .i64 xu, .string ⟨xn.toArray⟩]] w fun e w' => e = .returned (.tuple #[]) ∧ WrS w' W (wNum xu st) ∧ KT W w w' := by
  have hW := h.wr.lt
  have HS0 := hideP2 h
  have HN := hideP2 hn
  clear h hn
  go_enter Tryd.func102, Tryd.ntmps102
  go_wp2_with fail
  refine (wnum_s _ W st xu (WrS.new HS0.out _) HN.out h0 h1).mono ?_
  rintro e w1 ⟨rfl, hs1, hk1⟩
  have HS1 := hideP2 hs1
  have HK1 : Hid (KT W w w1) := (KT.trans ((KT.refl W w).new (Nat.le_of_lt hW) _) hk1)
  have bx1 : w1.heap[w.heap.size]? = some (.cells #[.bool xm, .bool false, .int .i64 xu, .string ⟨xn.toArray⟩] 106 (0, 0)) := hk1.kept _ _ (hb_end _ _) (okT_cells (by decide) (by decide))
  have cx1 := fun j => cell_of_row _ _ j _ _ _ bx1
  clear hs1 hk1
  go_wp2_with fail
  first | go_end0 | ((try simp only [Exit.inBlock, Exit.then]); refine bodyPost_ret (results_none rfl _ _ _) rfl ?_)
  exact ⟨rfl, HS1.out, HK1.out⟩

set_option maxHeartbeats 1000000 in
theorem wpart_name (w : World) (W : Nat) (st : WSt) (xm : Bool) (xu : Int) (xn : Bs) (h : WrS w W st) (he : xn.isEmpty = false) (hn : (wPut xn st).1.length ≤ bigW) :
    Calls Tryd.prog 102 #[.pointer (some ⟨W, 0, none⟩), .agg #[.bool xm, .bool false, .int .i64 xu, .string ⟨xn.toArray⟩]] w fun e w' => e = .returned (.tuple #[]) ∧ WrS w' W (wPut xn st) ∧ KT W w w' := by
  have hW := h.wr.lt
  have HS0 := hideP2 h
  have HN := hideP2 hn
  clear h hn
  go_enter Tryd.func102, Tryd.ntmps102
  go_wp2_with fail
  refine (wput_s _ W st xn (WrS.new HS0.out _) HN.out).mono ?_
  rintro e w1 ⟨rfl, hs1, hk1⟩
  have HS1 := hideP2 hs1
  have HK1 : Hid (KT W w w1) := (KT.trans ((KT.refl W w).new (Nat.le_of_lt hW) _) hk1)
  have bx1 : w1.heap[w.heap.size]? = some (.cells #[.bool xm, .bool false, .int .i64 xu, .string ⟨xn.toArray⟩] 106 (0, 0)) := hk1.kept _ _ (hb_end _ _) (okT_cells (by decide) (by decide))
  have cx1 := fun j => cell_of_row _ _ j _ _ _ bx1
  clear hs1 hk1
  go_wp2_with fail
  first | go_end0 | ((try simp only [Exit.inBlock, Exit.then]); refine bodyPost_ret (results_none rfl _ _ _) rfl ?_)
  exact ⟨rfl, HS1.out, HK1.out⟩

def wPart (x : PPart) (st : WSt) : WSt :=
  match x.starred with
  | true => wPut x.name (wPut [42] (wNum x.num st))
  | false => match x.name.isEmpty with
    | true => wNum x.num st
    | false => wPut x.name st

theorem wpart_s (w : World) (W : Nat) (st : WSt) (x : PPart) (h : WrS w W st) (h0 : 0 ≤ x.num) (h1 : x.num ≤ 9999) (hn : (wPart x st).1.length ≤ bigW) :
    Calls Tryd.prog 102 #[.pointer (some ⟨W, 0, none⟩), partV x] w fun e w' => e = .returned (.tuple #[]) ∧ WrS w' W (wPart x st) ∧ KT W w w' := by
  obtain ⟨xm, xs, xu, xn⟩ := x
  simp only [partV, wPart] at *
  cases xs
  · cases he : xn.isEmpty
    · simp only [he] at hn ⊢; exact wpart_name w W st xm xu xn h he hn
    · simp only [he] at hn ⊢; exact wpart_num w W st xm xu xn h he h0 h1 hn
  · simp only at hn ⊢; exact wpart_star w W st xm xu xn h h0 h1 hn

theorem wPart_le (x : PPart) (st : WSt) : st.1.length ≤ (wPart x st).1.length := by
  unfold wPart
  split
  · exact Nat.le_trans (wle' _ _) (Nat.le_trans (wle' _ _) (wle' _ _))
  · split <;> exact wle' _ _

/-- The mark ahead of a part. -/
def wSign (m : Bool) (i : Nat) (st : WSt) : WSt := match m with | true => wPut [45] st | false => if 0 < i then wPut [43] st else st
theorem wSign_le (m : Bool) (i : Nat) (st : WSt) : st.1.length ≤ (wSign m i st).1.length := by
  unfold wSign; split
  · exact wle' _ _
  · split
    · exact wle' _ _
    · exact Nat.le_refl _

def wSumG : List PPart → Nat → WSt → WSt
  | [], _, st => st
  | x :: r, i, st => wSumG r (i + 1) (wPart x (wSign x.minus i st))
theorem wSumG_le (l : List PPart) : ∀ i st, st.1.length ≤ (wSumG l i st).1.length := by
  induction l with
  | nil => intro i st; exact Nat.le_refl _
  | cons x r ih => intro i st; rw [wSumG]; exact Nat.le_trans (wSign_le _ _ _) (Nat.le_trans (wPart_le _ _) (ih _ _))

def xz : PPart := ⟨false, false, 0, []⟩
def xAt (S : List PPart) (i : Nat) : PPart := S.getD i xz

structure ParB (w : World) (gS : Nat) (cur : Array Value) (S : List PPart) : Prop where
  blk : w.heap[gS]? = some (.cells cur 106 (0, 0))
  row : cur.toList.take (S.length * 4) = flatS S

theorem ParB.kt {w w' : World} {W gS : Nat} {cur : Array Value} {S : List PPart} (h : ParB w gS cur S) (hk : KT W w w') : ParB w' gS cur S := ⟨hk.kept _ _ h.blk (okT_cells (by decide) (by decide)), h.row⟩

theorem flatS_get (S : List PPart) : ∀ i, i < S.length → ∀ j, j < 4 → (flatS S)[i * 4 + j]? = (partC (xAt S i))[j]? := by
  induction S with
  | nil => intro i h; simp at h
  | cons t r ih =>
    intro i h j hj
    have e : flatS (t :: r) = partC t ++ flatS r := by simp [flatS]
    have hl : (partC t).length = 4 := rfl
    cases i with
    | zero => rw [e, List.getElem?_append_left (by rw [hl]; omega)]; simp [xAt]
    | succ i =>
      rw [e, List.getElem?_append_right (by rw [hl]; omega), hl, show (i + 1) * 4 + j - 4 = i * 4 + j by omega, ih i (by simpa using h) j hj]
      simp [xAt]

theorem ParB.cells {w : World} {gS : Nat} {cur : Array Value} {S : List PPart} (h : ParB w gS cur S) {a : Nat} (ha : a < S.length) :
    w.cell? ⟨gS, a * 4, none⟩ = some (.bool (xAt S a).minus) ∧ w.cell? ⟨gS, a * 4 + 1, none⟩ = some (.bool (xAt S a).starred) ∧ w.cell? ⟨gS, a * 4 + 2, none⟩ = some (.int .i64 (xAt S a).num) ∧ w.cell? ⟨gS, a * 4 + 3, none⟩ = some (.string ⟨(xAt S a).name.toArray⟩) := by
  have hg := fun j (hj : j < 4) => flatS_get S a ha j hj
  exact ⟨cell_take2 h.blk h.row (hg 0 (by omega)), cell_take2 h.blk h.row (hg 1 (by omega)), cell_take2 h.blk h.row (hg 2 (by omega)), cell_take2 h.blk h.row (hg 3 (by omega))⟩

theorem ParB.lt {w : World} {gS : Nat} {cur : Array Value} {S : List PPart} (h : ParB w gS cur S) : gS < w.heap.size := by
  rcases Nat.lt_or_ge gS w.heap.size with h1 | h1
  · exact h1
  · have h2 := h.blk; rw [Array.getElem?_eq_none h1] at h2; cases h2

theorem dropX (S : List PPart) (k : Nat) (h : k < S.length) : S.drop k = xAt S k :: S.drop (k + 1) := by
  rw [List.drop_eq_getElem_cons h]; simp [xAt, List.getD, h]

set_option maxHeartbeats 1000000 in
theorem wsum_s (w : World) (W gS cap : Nat) (cur : Array Value) (S : List PPart) (st0 : WSt) (h : WrS w W st0) (hp : ParB w gS cur S) (hS : S.length ≤ 10000) (hg : ∀ a, a < S.length → 0 ≤ (xAt S a).num ∧ (xAt S a).num ≤ 9999) (hn : (wSumG S 0 st0).1.length ≤ bigW) :
    Calls Tryd.prog 79 #[.pointer (some ⟨W, 0, none⟩), .slice (some ⟨gS, 0, none⟩) S.length cap] w fun e w' => e = .returned (.tuple #[]) ∧ WrS w' W (wSumG S 0 st0) ∧ KT W w w' := by
  have HS0 := hideP2 h
  have HP0 := hideP2 hp
  have HG := hideP2 hg
  have HN := hideP2 hn
  clear h hp hg hn
  go_enter Tryd.func79, Tryd.ntmps79
  go_wp2_with fail
  go_loopw [8] (fun iv wr => ∃ (i : Nat) (st : WSt), i ≤ S.length ∧ iv = .int .i64 i ∧ Hid (WrS wr W st) ∧ Hid (ParB wr gS cur S) ∧ Hid (KT W w wr) ∧ Hid (wSumG (S.drop i) i st = wSumG S 0 st0)) (fun iv _ => S.length - (intOf iv).toNat)
  case atStart => exact ⟨0, st0, Nat.zero_le _, rfl, HS0, HP0, hideP2 (KT.refl W w), hideP2 rfl⟩
  case round =>
    obtain ⟨i, st, hi, rfl, HSr, HPr, HKr, HE⟩ := hrel
    clear HS0 HP0
    by_cases hlt : i < S.length
    · obtain ⟨c0, c1, c2, c3⟩ := HPr.out.cells hlt
      have hglt := HPr.out.lt
      have nX : wr.heap.size ≠ gS := by omega
      have hWr := HSr.out.wr.lt
      have hE := HE.out
      rw [dropX S i hlt, wSumG] at hE
      have hb := HN.out
      rw [← hE] at hb
      have hb2 := Nat.le_trans (wSumG_le _ _ _) hb
      have hb1 := Nat.le_trans (wPart_le _ _) hb2
      obtain ⟨g0, g1⟩ := HG.out i hlt
      have HW := hideP2 (fun w' (h' : WrS w' W (wSign (xAt S i).minus i st)) => wpart_s w' W _ (xAt S i) h' g0 g1 hb2)
      have HE2 := hideP2 hE
      have HB1 := hideP2 hb1
      clear hE hb hb1 hb2 HE g0 g1
      generalize xAt S i = x at *
      obtain ⟨xm, xs, xu, xn⟩ := x
      simp only [partV] at HW c0 c1 c2 c3 HE2 HB1
      cases xm
      · by_cases hi0 : 0 < i
        · simp only [wSign, if_pos hi0] at HW HE2 HB1
          go_wp2_with fail
          refine (wput_s _ W st [43] (WrS.new HSr.out _) HB1.out).mono ?_
          rintro e w1 ⟨rfl, hs1, hk1⟩
          have HS1 := hideP2 hs1
          have HK1 : Hid (KT W w w1) := KT.trans (HKr.out.new (Nat.le_of_lt hWr) _) hk1
          have bx : w1.heap[wr.heap.size]? = some (.cells #[.bool false, .bool xs, .int .i64 xu, .string ⟨xn.toArray⟩] 106 (0, 0)) := hk1.kept _ _ (hb_end _ _) (okT_cells (by decide) (by decide))
          have cx := fun j => cell_of_row _ _ j _ _ _ bx
          have HP1 : Hid (ParB w1 gS cur S) := ParB.kt (ParB.kt HPr.out ((KT.refl W wr).new (Nat.le_of_lt hWr) _)) hk1
          clear hs1 hk1 c0 c1 c2 c3
          go_wp2_with fail
          refine (HW.out _ HS1.out).mono ?_
          rintro e w2 ⟨rfl, hs2, hk2⟩
          have HS2 := hideP2 hs2
          have HK2 : Hid (KT W w w2) := KT.trans HK1.out hk2
          have HP2 : Hid (ParB w2 gS cur S) := ParB.kt HP1.out hk2
          clear hs2 hk2 cx bx
          go_wp2_with fail
          go_roundw
          case rel => exact ⟨i + 1, _, by omega, by go_num, HS2, HP2, HK2, HE2⟩
          case measure => simp [intOf]; omega
        · simp only [wSign, if_neg hi0] at HW HE2 HB1
          go_wp2_with fail
          refine (HW.out _ (WrS.new HSr.out _)).mono ?_
          rintro e w2 ⟨rfl, hs2, hk2⟩
          have HS2 := hideP2 hs2
          have HK2 : Hid (KT W w w2) := KT.trans (HKr.out.new (Nat.le_of_lt hWr) _) hk2
          have HP2 : Hid (ParB w2 gS cur S) := ParB.kt (ParB.kt HPr.out ((KT.refl W wr).new (Nat.le_of_lt hWr) _)) hk2
          clear hs2 hk2 c0 c1 c2 c3
          go_wp2_with fail
          go_roundw
          case rel => exact ⟨i + 1, _, by omega, by go_num, HS2, HP2, HK2, HE2⟩
          case measure => simp [intOf]; omega
      · simp only [wSign] at HW HE2 HB1
        go_wp2_with fail
        refine (wput_s _ W st [45] (WrS.new HSr.out _) HB1.out).mono ?_
        rintro e w1 ⟨rfl, hs1, hk1⟩
        have HS1 := hideP2 hs1
        have HK1 : Hid (KT W w w1) := KT.trans (HKr.out.new (Nat.le_of_lt hWr) _) hk1
        have bx : w1.heap[wr.heap.size]? = some (.cells #[.bool true, .bool xs, .int .i64 xu, .string ⟨xn.toArray⟩] 106 (0, 0)) := hk1.kept _ _ (hb_end _ _) (okT_cells (by decide) (by decide))
        have cx := fun j => cell_of_row _ _ j _ _ _ bx
        have HP1 : Hid (ParB w1 gS cur S) := ParB.kt (ParB.kt HPr.out ((KT.refl W wr).new (Nat.le_of_lt hWr) _)) hk1
        clear hs1 hk1 c0 c1 c2 c3
        go_wp2_with fail
        refine (HW.out _ HS1.out).mono ?_
        rintro e w2 ⟨rfl, hs2, hk2⟩
        have HS2 := hideP2 hs2
        have HK2 : Hid (KT W w w2) := KT.trans HK1.out hk2
        have HP2 : Hid (ParB w2 gS cur S) := ParB.kt HP1.out hk2
        clear hs2 hk2 cx bx
        go_wp2_with fail
        go_roundw
        case rel => exact ⟨i + 1, _, by omega, by go_num, HS2, HP2, HK2, HE2⟩
        case measure => simp [intOf]; omega
    · have hE := HE.out
      rw [List.drop_eq_nil_of_le (by omega), wSumG] at hE
      have HE2 := hideP2 hE
      clear hE HE
      go_wp2_with fail
      go_end0
      rw [← HE2.out]
      exact ⟨rfl, HSr.out, HKr.out⟩
end Go.Proofs.YtnbpdffdnphbeaaDoor
