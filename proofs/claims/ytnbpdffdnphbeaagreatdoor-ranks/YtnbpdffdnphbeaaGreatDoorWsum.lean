/- What part and sum of the writer do. -/
import Derived.Test.YtnbpdffdnphbeaaGreatDoorWnode
namespace Go.Proofs.YtnbpdffdnphbeaaGreatDoor
open Go.RowKit

set_option maxHeartbeats 1000000 in
theorem wpart_star (w : World) (W : Nat) (st : WSt) (xm : Bool) (xu : Int) (xn : Bs) (h : WrS w W st) (h0 : 0 ≤ xu) (h1 : xu ≤ 9999) (hn : (wPut xn (wPut [42] (wNum xu st))).1.length ≤ bigW) :
    Calls Tryz.prog 215 #[.pointer (some ⟨W, 0, none⟩), .agg #[.bool xm, .bool true, .int .i64 xu, .string ⟨xn.toArray⟩]] w fun e w' => e = .returned (.tuple #[]) ∧ WrS w' W (wPut xn (wPut [42] (wNum xu st))) ∧ KT W w w' := by
  have hW := h.wr.lt
  have HS0 := hideP2 h
  have HN := hideP2 hn
  clear h hn
  go_enter Tryz.func215, Tryz.ntmps215
  go_wp2_with fail
  refine (wnum_s _ W st xu (WrS.new HS0.out _) (wle _ _ (wle _ _ HN.out)) h0 h1).mono ?_
  rintro e w1 ⟨rfl, hs1, hk1⟩
  have HS1 := hideP2 hs1
  have HK1 : Hid (KT W w w1) := (KT.trans ((KT.refl W w).new (Nat.le_of_lt hW) _) hk1)
  have bx1 : w1.heap[w.heap.size]? = some (.cells #[.bool xm, .bool true, .int .i64 xu, .string ⟨xn.toArray⟩] 301 (0, 0)) := hk1.kept _ _ (hb_end _ _) (okT_cells (by decide) (by decide))
  have cx1 := fun j => cell_of_row _ _ j _ _ _ bx1
  clear hs1 hk1
  go_wp2_with fail
  refine (wput_s _ W (wNum xu st) [42] HS1.out (wle _ _ HN.out)).mono ?_
  rintro e w2 ⟨rfl, hs2, hk2⟩
  have HS2 := hideP2 hs2
  have HK2 : Hid (KT W w w2) := (KT.trans HK1.out hk2)
  have bx2 : w2.heap[w.heap.size]? = some (.cells #[.bool xm, .bool true, .int .i64 xu, .string ⟨xn.toArray⟩] 301 (0, 0)) := hk2.kept _ _ bx1 (okT_cells (by decide) (by decide))
  have cx2 := fun j => cell_of_row _ _ j _ _ _ bx2
  clear cx1 bx1
  clear hs2 hk2
  go_wp2_with fail
  refine (wput_s _ W (wPut [42] (wNum xu st)) xn HS2.out HN.out).mono ?_
  rintro e w3 ⟨rfl, hs3, hk3⟩
  have HS3 := hideP2 hs3
  have HK3 : Hid (KT W w w3) := (KT.trans HK2.out hk3)
  have bx3 : w3.heap[w.heap.size]? = some (.cells #[.bool xm, .bool true, .int .i64 xu, .string ⟨xn.toArray⟩] 301 (0, 0)) := hk3.kept _ _ bx2 (okT_cells (by decide) (by decide))
  have cx3 := fun j => cell_of_row _ _ j _ _ _ bx3
  clear cx2 bx2
  clear hs3 hk3
  go_wp2_with fail
  first | go_end0 | ((try simp only [Exit.inBlock, Exit.then]); refine bodyPost_ret (results_none rfl _ _ _) rfl ?_)
  exact ⟨rfl, HS3.out, HK3.out⟩

set_option maxHeartbeats 1000000 in
theorem wpart_num (w : World) (W : Nat) (st : WSt) (xm : Bool) (xu : Int) (xn : Bs) (h : WrS w W st) (he : xn.isEmpty = true) (h0 : 0 ≤ xu) (h1 : xu ≤ 9999) (hn : (wNum xu st).1.length ≤ bigW) :
    Calls Tryz.prog 215 #[.pointer (some ⟨W, 0, none⟩), .agg #[.bool xm, .bool false, .int .i64 xu, .string ⟨xn.toArray⟩]] w fun e w' => e = .returned (.tuple #[]) ∧ WrS w' W (wNum xu st) ∧ KT W w w' := by
  have hW := h.wr.lt
  have HS0 := hideP2 h
  have HN := hideP2 hn
  clear h hn
  go_enter Tryz.func215, Tryz.ntmps215
  go_wp2_with fail
  refine (wnum_s _ W st xu (WrS.new HS0.out _) HN.out h0 h1).mono ?_
  rintro e w1 ⟨rfl, hs1, hk1⟩
  have HS1 := hideP2 hs1
  have HK1 : Hid (KT W w w1) := (KT.trans ((KT.refl W w).new (Nat.le_of_lt hW) _) hk1)
  have bx1 : w1.heap[w.heap.size]? = some (.cells #[.bool xm, .bool false, .int .i64 xu, .string ⟨xn.toArray⟩] 301 (0, 0)) := hk1.kept _ _ (hb_end _ _) (okT_cells (by decide) (by decide))
  have cx1 := fun j => cell_of_row _ _ j _ _ _ bx1
  clear hs1 hk1
  go_wp2_with fail
  first | go_end0 | ((try simp only [Exit.inBlock, Exit.then]); refine bodyPost_ret (results_none rfl _ _ _) rfl ?_)
  exact ⟨rfl, HS1.out, HK1.out⟩

set_option maxHeartbeats 1000000 in
theorem wpart_name (w : World) (W : Nat) (st : WSt) (xm : Bool) (xu : Int) (xn : Bs) (h : WrS w W st) (he : xn.isEmpty = false) (hn : (wPut xn st).1.length ≤ bigW) :
    Calls Tryz.prog 215 #[.pointer (some ⟨W, 0, none⟩), .agg #[.bool xm, .bool false, .int .i64 xu, .string ⟨xn.toArray⟩]] w fun e w' => e = .returned (.tuple #[]) ∧ WrS w' W (wPut xn st) ∧ KT W w w' := by
  have hW := h.wr.lt
  have HS0 := hideP2 h
  have HN := hideP2 hn
  clear h hn
  go_enter Tryz.func215, Tryz.ntmps215
  go_wp2_with fail
  refine (wput_s _ W st xn (WrS.new HS0.out _) HN.out).mono ?_
  rintro e w1 ⟨rfl, hs1, hk1⟩
  have HS1 := hideP2 hs1
  have HK1 : Hid (KT W w w1) := (KT.trans ((KT.refl W w).new (Nat.le_of_lt hW) _) hk1)
  have bx1 : w1.heap[w.heap.size]? = some (.cells #[.bool xm, .bool false, .int .i64 xu, .string ⟨xn.toArray⟩] 301 (0, 0)) := hk1.kept _ _ (hb_end _ _) (okT_cells (by decide) (by decide))
  have cx1 := fun j => cell_of_row _ _ j _ _ _ bx1
  clear hs1 hk1
  go_wp2_with fail
  first | go_end0 | ((try simp only [Exit.inBlock, Exit.then]); refine bodyPost_ret (results_none rfl _ _ _) rfl ?_)
  exact ⟨rfl, HS1.out, HK1.out⟩

def wPart (x : PPart) (st : WSt) : WSt :=
  match x.starred with
  | true => wPut x.name (wPut [42] (wNum x.num st))
  | false => match x.name.isEmpty with
    | true => wNum x.num st
    | false => wPut x.name st

theorem wpart_s (w : World) (W : Nat) (st : WSt) (x : PPart) (h : WrS w W st) (h0 : 0 ≤ x.num) (h1 : x.num ≤ 9999) (hn : (wPart x st).1.length ≤ bigW) :
    Calls Tryz.prog 215 #[.pointer (some ⟨W, 0, none⟩), partV x] w fun e w' => e = .returned (.tuple #[]) ∧ WrS w' W (wPart x st) ∧ KT W w w' := by
  obtain ⟨xm, xs, xu, xn⟩ := x
  simp only [partV, wPart] at *
  cases xs
  · cases he : xn.isEmpty
    · simp only [he] at hn ⊢; exact wpart_name w W st xm xu xn h he hn
    · simp only [he] at hn ⊢; exact wpart_num w W st xm xu xn h he h0 h1 hn
  · simp only at hn ⊢; exact wpart_star w W st xm xu xn h h0 h1 hn

theorem wPart_le (x : PPart) (st : WSt) : st.1.length ≤ (wPart x st).1.length := by
  unfold wPart
  split
  · exact Nat.le_trans (wle' _ _) (Nat.le_trans (wle' _ _) (wle' _ _))
  · split <;> exact wle' _ _

/-- The mark ahead of a part. -/
def wSign (m : Bool) (i : Nat) (st : WSt) : WSt := match m with | true => wPut [45] st | false => if 0 < i then wPut [43] st else st
theorem wSign_le (m : Bool) (i : Nat) (st : WSt) : st.1.length ≤ (wSign m i st).1.length := by
  unfold wSign; split
  · exact wle' _ _
  · split
    · exact wle' _ _
    · exact Nat.le_refl _

def wSumG : List PPart → Nat → WSt → WSt
  | [], _, st => st
  | x :: r, i, st => wSumG r (i + 1) (wPart x (wSign x.minus i st))
theorem wSumG_le (l : List PPart) : ∀ i st, st.1.length ≤ (wSumG l i st).1.length := by
  induction l with
  | nil => intro i st; exact Nat.le_refl _
  | cons x r ih => intro i st; rw [wSumG]; exact Nat.le_trans (wSign_le _ _ _) (Nat.le_trans (wPart_le _ _) (ih _ _))

def xz : PPart := ⟨false, false, 0, []⟩
def xAt (S : List PPart) (i : Nat) : PPart := S.getD i xz

structure ParB (w : World) (gS : Nat) (cur : Array Value) (S : List PPart) : Prop where
  blk : w.heap[gS]? = some (.cells cur 301 (0, 0))
  row : cur.toList.take (S.length * 4) = flatS S

theorem ParB.kt {w w' : World} {W gS : Nat} {cur : Array Value} {S : List PPart} (h : ParB w gS cur S) (hk : KT W w w') : ParB w' gS cur S := ⟨hk.kept _ _ h.blk (okT_cells (by decide) (by decide)), h.row⟩

theorem flatS_get (S : List PPart) : ∀ i, i < S.length → ∀ j, j < 4 → (flatS S)[i * 4 + j]? = (partC (xAt S i))[j]? := by
  induction S with
  | nil => intro i h; simp at h
  | cons t r ih =>
    intro i h j hj
    have e : flatS (t :: r) = partC t ++ flatS r := by simp [flatS]
    have hl : (partC t).length = 4 := rfl
    cases i with
    | zero => rw [e, List.getElem?_append_left (by rw [hl]; omega)]; simp [xAt]
    | succ i =>
      rw [e, List.getElem?_append_right (by rw [hl]; omega), hl, show (i + 1) * 4 + j - 4 = i * 4 + j by omega, ih i (by simpa using h) j hj]
      simp [xAt]

theorem ParB.cells {w : World} {gS : Nat} {cur : Array Value} {S : List PPart} (h : ParB w gS cur S) {a : Nat} (ha : a < S.length) :
    w.cell? ⟨gS, a * 4, none⟩ = some (.bool (xAt S a).minus) ∧ w.cell? ⟨gS, a * 4 + 1, none⟩ = some (.bool (xAt S a).starred) ∧ w.cell? ⟨gS, a * 4 + 2, none⟩ = some (.int .i64 (xAt S a).num) ∧ w.cell? ⟨gS, a * 4 + 3, none⟩ = some (.string ⟨(xAt S a).name.toArray⟩) := by
  have hg := fun j (hj : j < 4) => flatS_get S a ha j hj
  exact ⟨cell_take2 h.blk h.row (hg 0 (by omega)), cell_take2 h.blk h.row (hg 1 (by omega)), cell_take2 h.blk h.row (hg 2 (by omega)), cell_take2 h.blk h.row (hg 3 (by omega))⟩

theorem ParB.lt {w : World} {gS : Nat} {cur : Array Value} {S : List PPart} (h : ParB w gS cur S) : gS < w.heap.size := by
  rcases Nat.lt_or_ge gS w.heap.size with h1 | h1
  · exact h1
  · have h2 := h.blk; rw [Array.getElem?_eq_none h1] at h2; cases h2

theorem dropX (S : List PPart) (k : Nat) (h : k < S.length) : S.drop k = xAt S k :: S.drop (k + 1) := by
  rw [List.drop_eq_getElem_cons h]; simp [xAt, List.getD, h]

set_option maxHeartbeats 1000000 in
theorem wsum_s (w : World) (W gS cap : Nat) (cur : Array Value) (S : List PPart) (st0 : WSt) (h : WrS w W st0) (hp : ParB w gS cur S) (hS : S.length ≤ 10000) (hg : ∀ a, a < S.length → 0 ≤ (xAt S a).num ∧ (xAt S a).num ≤ 9999) (hn : (wSumG S 0 st0).1.length ≤ bigW) :
    Calls Tryz.prog 156 #[.pointer (some ⟨W, 0, none⟩), .slice (some ⟨gS, 0, none⟩) S.length cap] w fun e w' => e = .returned (.tuple #[]) ∧ WrS w' W (wSumG S 0 st0) ∧ KT W w w' := by
  have HS0 := hideP2 h
  have HP0 := hideP2 hp
  have HG := hideP2 hg
  have HN := hideP2 hn
  clear h hp hg hn
  go_enter Tryz.func156, Tryz.ntmps156
  go_wp2_with fail
  go_loopw [8] (fun iv wr => ∃ (i : Nat) (st : WSt), i ≤ S.length ∧ iv = .int .i64 i ∧ Hid (WrS wr W st) ∧ Hid (ParB wr gS cur S) ∧ Hid (KT W w wr) ∧ Hid (wSumG (S.drop i) i st = wSumG S 0 st0)) (fun iv _ => S.length - (intOf iv).toNat)
  case atStart => exact ⟨0, st0, Nat.zero_le _, rfl, HS0, HP0, hideP2 (KT.refl W w), hideP2 rfl⟩
  case round =>
    obtain ⟨i, st, hi, rfl, HSr, HPr, HKr, HE⟩ := hrel
    clear HS0 HP0
    by_cases hlt : i < S.length
    · obtain ⟨c0, c1, c2, c3⟩ := HPr.out.cells hlt
      have hglt := HPr.out.lt
      have nX : wr.heap.size ≠ gS := by omega
      have hWr := HSr.out.wr.lt
      have hE := HE.out
      rw [dropX S i hlt, wSumG] at hE
      have hb := HN.out
      rw [← hE] at hb
      have hb2 := Nat.le_trans (wSumG_le _ _ _) hb
      have hb1 := Nat.le_trans (wPart_le _ _) hb2
      obtain ⟨g0, g1⟩ := HG.out i hlt
      have HW := hideP2 (fun w' (h' : WrS w' W (wSign (xAt S i).minus i st)) => wpart_s w' W _ (xAt S i) h' g0 g1 hb2)
      have HE2 := hideP2 hE
      have HB1 := hideP2 hb1
      clear hE hb hb1 hb2 HE g0 g1
      generalize xAt S i = x at *
      obtain ⟨xm, xs, xu, xn⟩ := x
      simp only [partV] at HW c0 c1 c2 c3 HE2 HB1
      cases xm
      · by_cases hi0 : 0 < i
        · simp only [wSign, if_pos hi0] at HW HE2 HB1
          go_wp2_with fail
          refine (wput_s _ W st [43] (WrS.new HSr.out _) HB1.out).mono ?_
          rintro e w1 ⟨rfl, hs1, hk1⟩
          have HS1 := hideP2 hs1
          have HK1 : Hid (KT W w w1) := KT.trans (HKr.out.new (Nat.le_of_lt hWr) _) hk1
          have bx : w1.heap[wr.heap.size]? = some (.cells #[.bool false, .bool xs, .int .i64 xu, .string ⟨xn.toArray⟩] 301 (0, 0)) := hk1.kept _ _ (hb_end _ _) (okT_cells (by decide) (by decide))
          have cx := fun j => cell_of_row _ _ j _ _ _ bx
          have HP1 : Hid (ParB w1 gS cur S) := ParB.kt (ParB.kt HPr.out ((KT.refl W wr).new (Nat.le_of_lt hWr) _)) hk1
          clear hs1 hk1 c0 c1 c2 c3
          go_wp2_with fail
          refine (HW.out _ HS1.out).mono ?_
          rintro e w2 ⟨rfl, hs2, hk2⟩
          have HS2 := hideP2 hs2
          have HK2 : Hid (KT W w w2) := KT.trans HK1.out hk2
          have HP2 : Hid (ParB w2 gS cur S) := ParB.kt HP1.out hk2
          clear hs2 hk2 cx bx
          go_wp2_with fail
          go_roundw
          case rel => exact ⟨i + 1, _, by omega, by go_num, HS2, HP2, HK2, HE2⟩
          case measure => simp [intOf]; omega
        · simp only [wSign, if_neg hi0] at HW HE2 HB1
          go_wp2_with fail
          refine (HW.out _ (WrS.new HSr.out _)).mono ?_
          rintro e w2 ⟨rfl, hs2, hk2⟩
          have HS2 := hideP2 hs2
          have HK2 : Hid (KT W w w2) := KT.trans (HKr.out.new (Nat.le_of_lt hWr) _) hk2
          have HP2 : Hid (ParB w2 gS cur S) := ParB.kt (ParB.kt HPr.out ((KT.refl W wr).new (Nat.le_of_lt hWr) _)) hk2
          clear hs2 hk2 c0 c1 c2 c3
          go_wp2_with fail
          go_roundw
          case rel => exact ⟨i + 1, _, by omega, by go_num, HS2, HP2, HK2, HE2⟩
          case measure => simp [intOf]; omega
      · simp only [wSign] at HW HE2 HB1
        go_wp2_with fail
        refine (wput_s _ W st [45] (WrS.new HSr.out _) HB1.out).mono ?_
        rintro e w1 ⟨rfl, hs1, hk1⟩
        have HS1 := hideP2 hs1
        have HK1 : Hid (KT W w w1) := KT.trans (HKr.out.new (Nat.le_of_lt hWr) _) hk1
        have bx : w1.heap[wr.heap.size]? = some (.cells #[.bool true, .bool xs, .int .i64 xu, .string ⟨xn.toArray⟩] 301 (0, 0)) := hk1.kept _ _ (hb_end _ _) (okT_cells (by decide) (by decide))
        have cx := fun j => cell_of_row _ _ j _ _ _ bx
        have HP1 : Hid (ParB w1 gS cur S) := ParB.kt (ParB.kt HPr.out ((KT.refl W wr).new (Nat.le_of_lt hWr) _)) hk1
        clear hs1 hk1 c0 c1 c2 c3
        go_wp2_with fail
        refine (HW.out _ HS1.out).mono ?_
        rintro e w2 ⟨rfl, hs2, hk2⟩
        have HS2 := hideP2 hs2
        have HK2 : Hid (KT W w w2) := KT.trans HK1.out hk2
        have HP2 : Hid (ParB w2 gS cur S) := ParB.kt HP1.out hk2
        clear hs2 hk2 cx bx
        go_wp2_with fail
        go_roundw
        case rel => exact ⟨i + 1, _, by omega, by go_num, HS2, HP2, HK2, HE2⟩
        case measure => simp [intOf]; omega
    · have hE := HE.out
      rw [List.drop_eq_nil_of_le (by omega), wSumG] at hE
      have HE2 := hideP2 hE
      clear hE HE
      go_wp2_with fail
      go_end0
      rw [← HE2.out]
      exact ⟨rfl, HSr.out, HKr.out⟩
end Go.Proofs.YtnbpdffdnphbeaaGreatDoor

/- What line of the writer does: a line written anew. -/
namespace Go.Proofs.YtnbpdffdnphbeaaGreatDoor
open Go.RowKit

def wEnd (st : WSt) : WSt := (st.1 ++ [59, 10], false)
theorem wEnd_le (st : WSt) : st.1.length ≤ (wEnd st).1.length := by simp [wEnd]
theorem wend_s (w : World) (W : Nat) (st : WSt) (h : WrS w W st) (hn : (wEnd st).1.length ≤ bigW) :
    Calls Tryz.prog 158 #[.pointer (some ⟨W, 0, none⟩)] w fun e w' => e = .returned (.tuple #[]) ∧ WrS w' W (wEnd st) ∧ KT W w w' := by
  refine (endLine_s w W st.1 st.2 h.wr (by have h1 := hn; simp [wEnd, bigW] at h1; omega)).mono ?_
  rintro e w' ⟨rfl, h1, h2⟩
  exact ⟨rfl, h.step h1 h2, h2⟩
theorem ParB.new {w : World} {gS : Nat} {cur : Array Value} {S : List PPart} (h : ParB w gS cur S) (o : Obj) : ParB (w.alloc o) gS cur S := ⟨hb_new h.blk, h.row⟩

set_option maxHeartbeats 1000000 in
theorem wline_num (w : World) (W : Nat) (st : WSt) (lo hi te de : Int) (nm cc lw : Bs) (sa na : Option Addr) (sn sc nn nc : Nat) (ro : Int) (h : WrS w W st) (lo0 : 0 ≤ lo) (lo1 : lo ≤ 9999) (hi0 : 0 ≤ hi) (hi1 : hi ≤ 9999) (hn : ((wEnd (wNum hi (wPut [46, 46] (wNum lo (wPut nm (wPut [110, 117, 109] st))))))).1.length ≤ bigW) :
    Calls Tryz.prog 103 #[.pointer (some ⟨W, 0, none⟩), .agg #[.int .i64 1, .string ⟨nm.toArray⟩, .int .i64 lo, .int .i64 hi, .string ⟨cc.toArray⟩, .slice sa sn sc, .slice na nn nc, .int .i64 ro, .int .i64 te, .int .i64 de, .string ⟨lw.toArray⟩]] w fun e w' => e = .returned (.tuple #[]) ∧ WrS w' W ((wEnd (wNum hi (wPut [46, 46] (wNum lo (wPut nm (wPut [110, 117, 109] st))))))) ∧ KT W w w' := by
  have hW := h.wr.lt
  have HS0 := hideP2 h
  have HN := hideP2 hn
  have HL6 := HN
  have HL5 := hideP2 (Nat.le_trans (wEnd_le (wNum hi (wPut [46, 46] (wNum lo (wPut nm (wPut [110, 117, 109] st)))))) HL6.out)
  have HL4 := hideP2 (Nat.le_trans (wle' (Lib.itoa hi) (wPut [46, 46] (wNum lo (wPut nm (wPut [110, 117, 109] st))))) HL5.out)
  have HL3 := hideP2 (Nat.le_trans (wle' [46, 46] (wNum lo (wPut nm (wPut [110, 117, 109] st)))) HL4.out)
  have HL2 := hideP2 (Nat.le_trans (wle' (Lib.itoa lo) (wPut nm (wPut [110, 117, 109] st))) HL3.out)
  have HL1 := hideP2 (Nat.le_trans (wle' nm (wPut [110, 117, 109] st)) HL2.out)
  clear h hn
  go_enter Tryz.func103, Tryz.ntmps103
  go_wp2_with fail
  refine (wput_s _ W st [110, 117, 109] (WrS.new HS0.out _) HL1.out).mono ?_
  rintro e w1 ⟨rfl, hs1, hk1⟩
  have HS1 := hideP2 hs1
  have HK1 : Hid (KT W w w1) := (KT.trans ((KT.refl W w).new (Nat.le_of_lt hW) _) hk1)
  have bx1 : w1.heap[w.heap.size]? = some (.cells #[.int .i64 1, .string ⟨nm.toArray⟩, .int .i64 lo, .int .i64 hi, .string ⟨cc.toArray⟩, .slice sa sn sc, .slice na nn nc, .int .i64 ro, .int .i64 te, .int .i64 de, .string ⟨lw.toArray⟩] 234 (0, 0)) := hk1.kept _ _ (hb_end _ _) (okT_cells (by decide) (by decide))
  have cx1 := fun j => cell_of_row _ _ j _ _ _ bx1
  clear hs1 hk1
  go_wp2_with fail
  refine (wput_s _ W (wPut [110, 117, 109] st) nm HS1.out HL2.out).mono ?_
  rintro e w2 ⟨rfl, hs2, hk2⟩
  have HS2 := hideP2 hs2
  have HK2 : Hid (KT W w w2) := (KT.trans HK1.out hk2)
  have bx2 : w2.heap[w.heap.size]? = some (.cells #[.int .i64 1, .string ⟨nm.toArray⟩, .int .i64 lo, .int .i64 hi, .string ⟨cc.toArray⟩, .slice sa sn sc, .slice na nn nc, .int .i64 ro, .int .i64 te, .int .i64 de, .string ⟨lw.toArray⟩] 234 (0, 0)) := hk2.kept _ _ bx1 (okT_cells (by decide) (by decide))
  have cx2 := fun j => cell_of_row _ _ j _ _ _ bx2
  clear cx1 bx1
  clear hs2 hk2
  go_wp2_with fail
  refine (wnum_s _ W (wPut nm (wPut [110, 117, 109] st)) lo HS2.out HL3.out lo0 lo1).mono ?_
  rintro e w3 ⟨rfl, hs3, hk3⟩
  have HS3 := hideP2 hs3
  have HK3 : Hid (KT W w w3) := (KT.trans HK2.out hk3)
  have bx3 : w3.heap[w.heap.size]? = some (.cells #[.int .i64 1, .string ⟨nm.toArray⟩, .int .i64 lo, .int .i64 hi, .string ⟨cc.toArray⟩, .slice sa sn sc, .slice na nn nc, .int .i64 ro, .int .i64 te, .int .i64 de, .string ⟨lw.toArray⟩] 234 (0, 0)) := hk3.kept _ _ bx2 (okT_cells (by decide) (by decide))
  have cx3 := fun j => cell_of_row _ _ j _ _ _ bx3
  clear cx2 bx2
  clear hs3 hk3
  go_wp2_with fail
  refine (wput_s _ W (wNum lo (wPut nm (wPut [110, 117, 109] st))) [46, 46] HS3.out HL4.out).mono ?_
  rintro e w4 ⟨rfl, hs4, hk4⟩
  have HS4 := hideP2 hs4
  have HK4 : Hid (KT W w w4) := (KT.trans HK3.out hk4)
  have bx4 : w4.heap[w.heap.size]? = some (.cells #[.int .i64 1, .string ⟨nm.toArray⟩, .int .i64 lo, .int .i64 hi, .string ⟨cc.toArray⟩, .slice sa sn sc, .slice na nn nc, .int .i64 ro, .int .i64 te, .int .i64 de, .string ⟨lw.toArray⟩] 234 (0, 0)) := hk4.kept _ _ bx3 (okT_cells (by decide) (by decide))
  have cx4 := fun j => cell_of_row _ _ j _ _ _ bx4
  clear cx3 bx3
  clear hs4 hk4
  go_wp2_with fail
  refine (wnum_s _ W (wPut [46, 46] (wNum lo (wPut nm (wPut [110, 117, 109] st)))) hi HS4.out HL5.out hi0 hi1).mono ?_
  rintro e w5 ⟨rfl, hs5, hk5⟩
  have HS5 := hideP2 hs5
  have HK5 : Hid (KT W w w5) := (KT.trans HK4.out hk5)
  have bx5 : w5.heap[w.heap.size]? = some (.cells #[.int .i64 1, .string ⟨nm.toArray⟩, .int .i64 lo, .int .i64 hi, .string ⟨cc.toArray⟩, .slice sa sn sc, .slice na nn nc, .int .i64 ro, .int .i64 te, .int .i64 de, .string ⟨lw.toArray⟩] 234 (0, 0)) := hk5.kept _ _ bx4 (okT_cells (by decide) (by decide))
  have cx5 := fun j => cell_of_row _ _ j _ _ _ bx5
  clear cx4 bx4
  clear hs5 hk5
  go_wp2_with fail
  refine (wend_s _ W (wNum hi (wPut [46, 46] (wNum lo (wPut nm (wPut [110, 117, 109] st))))) HS5.out HL6.out).mono ?_
  rintro e w6 ⟨rfl, hs6, hk6⟩
  have HS6 := hideP2 hs6
  have HK6 : Hid (KT W w w6) := (KT.trans HK5.out hk6)
  have bx6 : w6.heap[w.heap.size]? = some (.cells #[.int .i64 1, .string ⟨nm.toArray⟩, .int .i64 lo, .int .i64 hi, .string ⟨cc.toArray⟩, .slice sa sn sc, .slice na nn nc, .int .i64 ro, .int .i64 te, .int .i64 de, .string ⟨lw.toArray⟩] 234 (0, 0)) := hk6.kept _ _ bx5 (okT_cells (by decide) (by decide))
  have cx6 := fun j => cell_of_row _ _ j _ _ _ bx6
  clear cx5 bx5
  clear hs6 hk6
  go_wp2_with fail
  first | go_end0 | ((try simp only [Exit.inBlock, Exit.then]); refine bodyPost_ret (results_none rfl _ _ _) rfl ?_)
  exact ⟨rfl, HS6.out, HK6.out⟩

set_option maxHeartbeats 1000000 in
theorem wline_flag (w : World) (W : Nat) (st : WSt) (lo hi te de : Int) (nm cc lw : Bs) (sa na : Option Addr) (sn sc nn nc : Nat) (ro : Int) (h : WrS w W st)  (hn : ((wEnd (wPut nm (wPut [102, 108, 97, 103] st)))).1.length ≤ bigW) :
    Calls Tryz.prog 103 #[.pointer (some ⟨W, 0, none⟩), .agg #[.int .i64 2, .string ⟨nm.toArray⟩, .int .i64 lo, .int .i64 hi, .string ⟨cc.toArray⟩, .slice sa sn sc, .slice na nn nc, .int .i64 ro, .int .i64 te, .int .i64 de, .string ⟨lw.toArray⟩]] w fun e w' => e = .returned (.tuple #[]) ∧ WrS w' W ((wEnd (wPut nm (wPut [102, 108, 97, 103] st)))) ∧ KT W w w' := by
  have hW := h.wr.lt
  have HS0 := hideP2 h
  have HN := hideP2 hn
  have HL3 := HN
  have HL2 := hideP2 (Nat.le_trans (wEnd_le (wPut nm (wPut [102, 108, 97, 103] st))) HL3.out)
  have HL1 := hideP2 (Nat.le_trans (wle' nm (wPut [102, 108, 97, 103] st)) HL2.out)
  clear h hn
  go_enter Tryz.func103, Tryz.ntmps103
  go_wp2_with fail
  refine (wput_s _ W st [102, 108, 97, 103] (WrS.new HS0.out _) HL1.out).mono ?_
  rintro e w1 ⟨rfl, hs1, hk1⟩
  have HS1 := hideP2 hs1
  have HK1 : Hid (KT W w w1) := (KT.trans ((KT.refl W w).new (Nat.le_of_lt hW) _) hk1)
  have bx1 : w1.heap[w.heap.size]? = some (.cells #[.int .i64 2, .string ⟨nm.toArray⟩, .int .i64 lo, .int .i64 hi, .string ⟨cc.toArray⟩, .slice sa sn sc, .slice na nn nc, .int .i64 ro, .int .i64 te, .int .i64 de, .string ⟨lw.toArray⟩] 234 (0, 0)) := hk1.kept _ _ (hb_end _ _) (okT_cells (by decide) (by decide))
  have cx1 := fun j => cell_of_row _ _ j _ _ _ bx1
  clear hs1 hk1
  go_wp2_with fail
  refine (wput_s _ W (wPut [102, 108, 97, 103] st) nm HS1.out HL2.out).mono ?_
  rintro e w2 ⟨rfl, hs2, hk2⟩
  have HS2 := hideP2 hs2
  have HK2 : Hid (KT W w w2) := (KT.trans HK1.out hk2)
  have bx2 : w2.heap[w.heap.size]? = some (.cells #[.int .i64 2, .string ⟨nm.toArray⟩, .int .i64 lo, .int .i64 hi, .string ⟨cc.toArray⟩, .slice sa sn sc, .slice na nn nc, .int .i64 ro, .int .i64 te, .int .i64 de, .string ⟨lw.toArray⟩] 234 (0, 0)) := hk2.kept _ _ bx1 (okT_cells (by decide) (by decide))
  have cx2 := fun j => cell_of_row _ _ j _ _ _ bx2
  clear cx1 bx1
  clear hs2 hk2
  go_wp2_with fail
  refine (wend_s _ W (wPut nm (wPut [102, 108, 97, 103] st)) HS2.out HL3.out).mono ?_
  rintro e w3 ⟨rfl, hs3, hk3⟩
  have HS3 := hideP2 hs3
  have HK3 : Hid (KT W w w3) := (KT.trans HK2.out hk3)
  have bx3 : w3.heap[w.heap.size]? = some (.cells #[.int .i64 2, .string ⟨nm.toArray⟩, .int .i64 lo, .int .i64 hi, .string ⟨cc.toArray⟩, .slice sa sn sc, .slice na nn nc, .int .i64 ro, .int .i64 te, .int .i64 de, .string ⟨lw.toArray⟩] 234 (0, 0)) := hk3.kept _ _ bx2 (okT_cells (by decide) (by decide))
  have cx3 := fun j => cell_of_row _ _ j _ _ _ bx3
  clear cx2 bx2
  clear hs3 hk3
  go_wp2_with fail
  first | go_end0 | ((try simp only [Exit.inBlock, Exit.then]); refine bodyPost_ret (results_none rfl _ _ _) rfl ?_)
  exact ⟨rfl, HS3.out, HK3.out⟩

set_option maxHeartbeats 1000000 in
theorem wline_over (w : World) (W : Nat) (st : WSt) (lo hi te de : Int) (nm cc lw : Bs) (sa na : Option Addr) (sn sc nn nc : Nat) (ro : Int) (h : WrS w W st)  (hn : ((wEnd (wPut lw (wPut nm (wPut [111, 118, 101, 114] st))))).1.length ≤ bigW) :
    Calls Tryz.prog 103 #[.pointer (some ⟨W, 0, none⟩), .agg #[.int .i64 4, .string ⟨nm.toArray⟩, .int .i64 lo, .int .i64 hi, .string ⟨cc.toArray⟩, .slice sa sn sc, .slice na nn nc, .int .i64 ro, .int .i64 te, .int .i64 de, .string ⟨lw.toArray⟩]] w fun e w' => e = .returned (.tuple #[]) ∧ WrS w' W ((wEnd (wPut lw (wPut nm (wPut [111, 118, 101, 114] st))))) ∧ KT W w w' := by
  have hW := h.wr.lt
  have HS0 := hideP2 h
  have HN := hideP2 hn
  have HL4 := HN
  have HL3 := hideP2 (Nat.le_trans (wEnd_le (wPut lw (wPut nm (wPut [111, 118, 101, 114] st)))) HL4.out)
  have HL2 := hideP2 (Nat.le_trans (wle' lw (wPut nm (wPut [111, 118, 101, 114] st))) HL3.out)
  have HL1 := hideP2 (Nat.le_trans (wle' nm (wPut [111, 118, 101, 114] st)) HL2.out)
  clear h hn
  go_enter Tryz.func103, Tryz.ntmps103
  go_wp2_with fail
  refine (wput_s _ W st [111, 118, 101, 114] (WrS.new HS0.out _) HL1.out).mono ?_
  rintro e w1 ⟨rfl, hs1, hk1⟩
  have HS1 := hideP2 hs1
  have HK1 : Hid (KT W w w1) := (KT.trans ((KT.refl W w).new (Nat.le_of_lt hW) _) hk1)
  have bx1 : w1.heap[w.heap.size]? = some (.cells #[.int .i64 4, .string ⟨nm.toArray⟩, .int .i64 lo, .int .i64 hi, .string ⟨cc.toArray⟩, .slice sa sn sc, .slice na nn nc, .int .i64 ro, .int .i64 te, .int .i64 de, .string ⟨lw.toArray⟩] 234 (0, 0)) := hk1.kept _ _ (hb_end _ _) (okT_cells (by decide) (by decide))
  have cx1 := fun j => cell_of_row _ _ j _ _ _ bx1
  clear hs1 hk1
  go_wp2_with fail
  refine (wput_s _ W (wPut [111, 118, 101, 114] st) nm HS1.out HL2.out).mono ?_
  rintro e w2 ⟨rfl, hs2, hk2⟩
  have HS2 := hideP2 hs2
  have HK2 : Hid (KT W w w2) := (KT.trans HK1.out hk2)
  have bx2 : w2.heap[w.heap.size]? = some (.cells #[.int .i64 4, .string ⟨nm.toArray⟩, .int .i64 lo, .int .i64 hi, .string ⟨cc.toArray⟩, .slice sa sn sc, .slice na nn nc, .int .i64 ro, .int .i64 te, .int .i64 de, .string ⟨lw.toArray⟩] 234 (0, 0)) := hk2.kept _ _ bx1 (okT_cells (by decide) (by decide))
  have cx2 := fun j => cell_of_row _ _ j _ _ _ bx2
  clear cx1 bx1
  clear hs2 hk2
  go_wp2_with fail
  refine (wput_s _ W (wPut nm (wPut [111, 118, 101, 114] st)) lw HS2.out HL3.out).mono ?_
  rintro e w3 ⟨rfl, hs3, hk3⟩
  have HS3 := hideP2 hs3
  have HK3 : Hid (KT W w w3) := (KT.trans HK2.out hk3)
  have bx3 : w3.heap[w.heap.size]? = some (.cells #[.int .i64 4, .string ⟨nm.toArray⟩, .int .i64 lo, .int .i64 hi, .string ⟨cc.toArray⟩, .slice sa sn sc, .slice na nn nc, .int .i64 ro, .int .i64 te, .int .i64 de, .string ⟨lw.toArray⟩] 234 (0, 0)) := hk3.kept _ _ bx2 (okT_cells (by decide) (by decide))
  have cx3 := fun j => cell_of_row _ _ j _ _ _ bx3
  clear cx2 bx2
  clear hs3 hk3
  go_wp2_with fail
  refine (wend_s _ W (wPut lw (wPut nm (wPut [111, 118, 101, 114] st))) HS3.out HL4.out).mono ?_
  rintro e w4 ⟨rfl, hs4, hk4⟩
  have HS4 := hideP2 hs4
  have HK4 : Hid (KT W w w4) := (KT.trans HK3.out hk4)
  have bx4 : w4.heap[w.heap.size]? = some (.cells #[.int .i64 4, .string ⟨nm.toArray⟩, .int .i64 lo, .int .i64 hi, .string ⟨cc.toArray⟩, .slice sa sn sc, .slice na nn nc, .int .i64 ro, .int .i64 te, .int .i64 de, .string ⟨lw.toArray⟩] 234 (0, 0)) := hk4.kept _ _ bx3 (okT_cells (by decide) (by decide))
  have cx4 := fun j => cell_of_row _ _ j _ _ _ bx4
  clear cx3 bx3
  clear hs4 hk4
  go_wp2_with fail
  first | go_end0 | ((try simp only [Exit.inBlock, Exit.then]); refine bodyPost_ret (results_none rfl _ _ _) rfl ?_)
  exact ⟨rfl, HS4.out, HK4.out⟩

set_option maxHeartbeats 1000000 in
theorem wline_rule (w : World) (W : Nat) (st : WSt) (lo hi te de : Int) (nm cc lw : Bs) (gS cS gN cN root : Nat) (curS curN : Array Value) (S : List PPart) (N : List PNode) (h : WrS w W st) (hp : ParB w gS curS S) (hb : NodB w gN curN N) (hS : S.length ≤ 10000) (hg : ∀ a, a < S.length → 0 ≤ (xAt S a).num ∧ (xAt S a).num ≤ 9999) (hN : GoodN N) (hroot : root < N.length) (hn : ((wEnd (wNode N N.length root (wPut kWhen (wSumG S 0 (wPut [61] (wPut cc (wPut [58] (wPut nm (wPut kRule st)))))))))).1.length ≤ bigW) :
    Calls Tryz.prog 103 #[.pointer (some ⟨W, 0, none⟩), .agg #[.int .i64 3, .string ⟨nm.toArray⟩, .int .i64 lo, .int .i64 hi, .string ⟨cc.toArray⟩, .slice (some ⟨gS, 0, none⟩) S.length cS, .slice (some ⟨gN, 0, none⟩) N.length cN, .int .i64 (root : Nat), .int .i64 te, .int .i64 de, .string ⟨lw.toArray⟩]] w fun e w' => e = .returned (.tuple #[]) ∧ WrS w' W ((wEnd (wNode N N.length root (wPut kWhen (wSumG S 0 (wPut [61] (wPut cc (wPut [58] (wPut nm (wPut kRule st)))))))))) ∧ KT W w w' := by
  have hW := h.wr.lt
  have HS0 := hideP2 h
  have HN := hideP2 hn
  have HL9 := HN
  have HL8 := hideP2 (Nat.le_trans (wEnd_le (wNode N N.length root (wPut kWhen (wSumG S 0 (wPut [61] (wPut cc (wPut [58] (wPut nm (wPut kRule st))))))))) HL9.out)
  have HL7 := hideP2 (Nat.le_trans (wNode_le N N.length root (wPut kWhen (wSumG S 0 (wPut [61] (wPut cc (wPut [58] (wPut nm (wPut kRule st)))))))) HL8.out)
  have HL6 := hideP2 (Nat.le_trans (wle' kWhen (wSumG S 0 (wPut [61] (wPut cc (wPut [58] (wPut nm (wPut kRule st))))))) HL7.out)
  have HL5 := hideP2 (Nat.le_trans (wSumG_le S 0 (wPut [61] (wPut cc (wPut [58] (wPut nm (wPut kRule st)))))) HL6.out)
  have HL4 := hideP2 (Nat.le_trans (wle' [61] (wPut cc (wPut [58] (wPut nm (wPut kRule st))))) HL5.out)
  have HL3 := hideP2 (Nat.le_trans (wle' cc (wPut [58] (wPut nm (wPut kRule st)))) HL4.out)
  have HL2 := hideP2 (Nat.le_trans (wle' [58] (wPut nm (wPut kRule st))) HL3.out)
  have HL1 := hideP2 (Nat.le_trans (wle' nm (wPut kRule st)) HL2.out)
  have HPB := hideP2 hp
  have HNB := hideP2 hb
  clear hp hb
  clear h hn
  go_enter Tryz.func103, Tryz.ntmps103
  go_wp2_with fail
  refine (wput_s _ W st kRule (WrS.new HS0.out _) HL1.out).mono ?_
  rintro e w1 ⟨rfl, hs1, hk1⟩
  have HS1 := hideP2 hs1
  have HK1 : Hid (KT W w w1) := (KT.trans ((KT.refl W w).new (Nat.le_of_lt hW) _) hk1)
  have bx1 : w1.heap[w.heap.size]? = some (.cells #[.int .i64 3, .string ⟨nm.toArray⟩, .int .i64 lo, .int .i64 hi, .string ⟨cc.toArray⟩, .slice (some ⟨gS, 0, none⟩) S.length cS, .slice (some ⟨gN, 0, none⟩) N.length cN, .int .i64 (root : Nat), .int .i64 te, .int .i64 de, .string ⟨lw.toArray⟩] 234 (0, 0)) := hk1.kept _ _ (hb_end _ _) (okT_cells (by decide) (by decide))
  have cx1 := fun j => cell_of_row _ _ j _ _ _ bx1
  have HB1 : Hid (NodB w1 gN curN N) := NodB.kt (NodB.new HNB.out _) hk1
  have HQ1 : Hid (ParB w1 gS curS S) := ParB.kt (ParB.new HPB.out _) hk1
  clear hs1 hk1
  go_wp2_with fail
  refine (wput_s _ W (wPut kRule st) nm HS1.out HL2.out).mono ?_
  rintro e w2 ⟨rfl, hs2, hk2⟩
  have HS2 := hideP2 hs2
  have HK2 : Hid (KT W w w2) := (KT.trans HK1.out hk2)
  have bx2 : w2.heap[w.heap.size]? = some (.cells #[.int .i64 3, .string ⟨nm.toArray⟩, .int .i64 lo, .int .i64 hi, .string ⟨cc.toArray⟩, .slice (some ⟨gS, 0, none⟩) S.length cS, .slice (some ⟨gN, 0, none⟩) N.length cN, .int .i64 (root : Nat), .int .i64 te, .int .i64 de, .string ⟨lw.toArray⟩] 234 (0, 0)) := hk2.kept _ _ bx1 (okT_cells (by decide) (by decide))
  have cx2 := fun j => cell_of_row _ _ j _ _ _ bx2
  clear cx1 bx1
  have HB2 : Hid (NodB w2 gN curN N) := NodB.kt HB1.out hk2
  have HQ2 : Hid (ParB w2 gS curS S) := ParB.kt HQ1.out hk2
  clear hs2 hk2
  go_wp2_with fail
  refine (wput_s _ W (wPut nm (wPut kRule st)) [58] HS2.out HL3.out).mono ?_
  rintro e w3 ⟨rfl, hs3, hk3⟩
  have HS3 := hideP2 hs3
  have HK3 : Hid (KT W w w3) := (KT.trans HK2.out hk3)
  have bx3 : w3.heap[w.heap.size]? = some (.cells #[.int .i64 3, .string ⟨nm.toArray⟩, .int .i64 lo, .int .i64 hi, .string ⟨cc.toArray⟩, .slice (some ⟨gS, 0, none⟩) S.length cS, .slice (some ⟨gN, 0, none⟩) N.length cN, .int .i64 (root : Nat), .int .i64 te, .int .i64 de, .string ⟨lw.toArray⟩] 234 (0, 0)) := hk3.kept _ _ bx2 (okT_cells (by decide) (by decide))
  have cx3 := fun j => cell_of_row _ _ j _ _ _ bx3
  clear cx2 bx2
  have HB3 : Hid (NodB w3 gN curN N) := NodB.kt HB2.out hk3
  have HQ3 : Hid (ParB w3 gS curS S) := ParB.kt HQ2.out hk3
  clear hs3 hk3
  go_wp2_with fail
  refine (wput_s _ W (wPut [58] (wPut nm (wPut kRule st))) cc HS3.out HL4.out).mono ?_
  rintro e w4 ⟨rfl, hs4, hk4⟩
  have HS4 := hideP2 hs4
  have HK4 : Hid (KT W w w4) := (KT.trans HK3.out hk4)
  have bx4 : w4.heap[w.heap.size]? = some (.cells #[.int .i64 3, .string ⟨nm.toArray⟩, .int .i64 lo, .int .i64 hi, .string ⟨cc.toArray⟩, .slice (some ⟨gS, 0, none⟩) S.length cS, .slice (some ⟨gN, 0, none⟩) N.length cN, .int .i64 (root : Nat), .int .i64 te, .int .i64 de, .string ⟨lw.toArray⟩] 234 (0, 0)) := hk4.kept _ _ bx3 (okT_cells (by decide) (by decide))
  have cx4 := fun j => cell_of_row _ _ j _ _ _ bx4
  clear cx3 bx3
  have HB4 : Hid (NodB w4 gN curN N) := NodB.kt HB3.out hk4
  have HQ4 : Hid (ParB w4 gS curS S) := ParB.kt HQ3.out hk4
  clear hs4 hk4
  go_wp2_with fail
  refine (wput_s _ W (wPut cc (wPut [58] (wPut nm (wPut kRule st)))) [61] HS4.out HL5.out).mono ?_
  rintro e w5 ⟨rfl, hs5, hk5⟩
  have HS5 := hideP2 hs5
  have HK5 : Hid (KT W w w5) := (KT.trans HK4.out hk5)
  have bx5 : w5.heap[w.heap.size]? = some (.cells #[.int .i64 3, .string ⟨nm.toArray⟩, .int .i64 lo, .int .i64 hi, .string ⟨cc.toArray⟩, .slice (some ⟨gS, 0, none⟩) S.length cS, .slice (some ⟨gN, 0, none⟩) N.length cN, .int .i64 (root : Nat), .int .i64 te, .int .i64 de, .string ⟨lw.toArray⟩] 234 (0, 0)) := hk5.kept _ _ bx4 (okT_cells (by decide) (by decide))
  have cx5 := fun j => cell_of_row _ _ j _ _ _ bx5
  clear cx4 bx4
  have HB5 : Hid (NodB w5 gN curN N) := NodB.kt HB4.out hk5
  have HQ5 : Hid (ParB w5 gS curS S) := ParB.kt HQ4.out hk5
  clear hs5 hk5
  go_wp2_with fail
  refine (wsum_s _ W gS cS curS S (wPut [61] (wPut cc (wPut [58] (wPut nm (wPut kRule st))))) HS5.out HQ5.out hS hg HL6.out).mono ?_
  rintro e w6 ⟨rfl, hs6, hk6⟩
  have HS6 := hideP2 hs6
  have HK6 : Hid (KT W w w6) := (KT.trans HK5.out hk6)
  have bx6 : w6.heap[w.heap.size]? = some (.cells #[.int .i64 3, .string ⟨nm.toArray⟩, .int .i64 lo, .int .i64 hi, .string ⟨cc.toArray⟩, .slice (some ⟨gS, 0, none⟩) S.length cS, .slice (some ⟨gN, 0, none⟩) N.length cN, .int .i64 (root : Nat), .int .i64 te, .int .i64 de, .string ⟨lw.toArray⟩] 234 (0, 0)) := hk6.kept _ _ bx5 (okT_cells (by decide) (by decide))
  have cx6 := fun j => cell_of_row _ _ j _ _ _ bx6
  clear cx5 bx5
  have HB6 : Hid (NodB w6 gN curN N) := NodB.kt HB5.out hk6
  have HQ6 : Hid (ParB w6 gS curS S) := ParB.kt HQ5.out hk6
  clear hs6 hk6
  go_wp2_with fail
  refine (wput_s _ W (wSumG S 0 (wPut [61] (wPut cc (wPut [58] (wPut nm (wPut kRule st)))))) kWhen HS6.out HL7.out).mono ?_
  rintro e w7 ⟨rfl, hs7, hk7⟩
  have HS7 := hideP2 hs7
  have HK7 : Hid (KT W w w7) := (KT.trans HK6.out hk7)
  have bx7 : w7.heap[w.heap.size]? = some (.cells #[.int .i64 3, .string ⟨nm.toArray⟩, .int .i64 lo, .int .i64 hi, .string ⟨cc.toArray⟩, .slice (some ⟨gS, 0, none⟩) S.length cS, .slice (some ⟨gN, 0, none⟩) N.length cN, .int .i64 (root : Nat), .int .i64 te, .int .i64 de, .string ⟨lw.toArray⟩] 234 (0, 0)) := hk7.kept _ _ bx6 (okT_cells (by decide) (by decide))
  have cx7 := fun j => cell_of_row _ _ j _ _ _ bx7
  clear cx6 bx6
  have HB7 : Hid (NodB w7 gN curN N) := NodB.kt HB6.out hk7
  have HQ7 : Hid (ParB w7 gS curS S) := ParB.kt HQ6.out hk7
  clear hs7 hk7
  go_wp2_with fail
  refine (node_all W gN cN curN N hN N.length _ (wPut kWhen (wSumG S 0 (wPut [61] (wPut cc (wPut [58] (wPut nm (wPut kRule st))))))) root HS7.out HB7.out hroot hroot HL8.out).mono ?_
  rintro e w8 ⟨rfl, hs8, hk8⟩
  have HS8 := hideP2 hs8
  have HK8 : Hid (KT W w w8) := (KT.trans HK7.out hk8)
  have bx8 : w8.heap[w.heap.size]? = some (.cells #[.int .i64 3, .string ⟨nm.toArray⟩, .int .i64 lo, .int .i64 hi, .string ⟨cc.toArray⟩, .slice (some ⟨gS, 0, none⟩) S.length cS, .slice (some ⟨gN, 0, none⟩) N.length cN, .int .i64 (root : Nat), .int .i64 te, .int .i64 de, .string ⟨lw.toArray⟩] 234 (0, 0)) := hk8.kept _ _ bx7 (okT_cells (by decide) (by decide))
  have cx8 := fun j => cell_of_row _ _ j _ _ _ bx8
  clear cx7 bx7
  have HB8 : Hid (NodB w8 gN curN N) := NodB.kt HB7.out hk8
  have HQ8 : Hid (ParB w8 gS curS S) := ParB.kt HQ7.out hk8
  clear hs8 hk8
  go_wp2_with fail
  refine (wend_s _ W (wNode N N.length root (wPut kWhen (wSumG S 0 (wPut [61] (wPut cc (wPut [58] (wPut nm (wPut kRule st)))))))) HS8.out HL9.out).mono ?_
  rintro e w9 ⟨rfl, hs9, hk9⟩
  have HS9 := hideP2 hs9
  have HK9 : Hid (KT W w w9) := (KT.trans HK8.out hk9)
  have bx9 : w9.heap[w.heap.size]? = some (.cells #[.int .i64 3, .string ⟨nm.toArray⟩, .int .i64 lo, .int .i64 hi, .string ⟨cc.toArray⟩, .slice (some ⟨gS, 0, none⟩) S.length cS, .slice (some ⟨gN, 0, none⟩) N.length cN, .int .i64 (root : Nat), .int .i64 te, .int .i64 de, .string ⟨lw.toArray⟩] 234 (0, 0)) := hk9.kept _ _ bx8 (okT_cells (by decide) (by decide))
  have cx9 := fun j => cell_of_row _ _ j _ _ _ bx9
  clear cx8 bx8
  have HB9 : Hid (NodB w9 gN curN N) := NodB.kt HB8.out hk9
  have HQ9 : Hid (ParB w9 gS curS S) := ParB.kt HQ8.out hk9
  clear hs9 hk9
  go_wp2_with fail
  first | go_end0 | ((try simp only [Exit.inBlock, Exit.then]); refine bodyPost_ret (results_none rfl _ _ _) rfl ?_)
  exact ⟨rfl, HS9.out, HK9.out⟩

end Go.Proofs.YtnbpdffdnphbeaaGreatDoor
