/- What more of the small functions of the program's check answer of lines that lie in memory. -/
import Derived.Test.YtnbpdffdnphbeaaGreatPCheck
namespace Go.Proofs.YtnbpdffdnphbeaaGreat
open Go.RowKit

theorem cntK_drop (k : Int) (ls : List PLine) (i : Nat) (h : i < ls.length) : cntK k (ls.drop i) = (if (lA ls i).kind = k then 1 else 0) + cntK k (ls.drop (i + 1)) := by
  rw [List.drop_eq_getElem_cons h, cntK]; simp [lA, List.getD, h]
theorem cntK_le (k : Int) (ls : List PLine) : cntK k ls ≤ ls.length := by
  induction ls with
  | nil => exact Nat.le_refl _
  | cons x r ih => rw [cntK, List.length_cons]; split <;> omega
theorem findG_drop (p : PLine → Bool) (ls : List PLine) (i : Nat) (h : i < ls.length) : findG p (ls.drop i) i = if p (lA ls i) then i else findG p (ls.drop (i + 1)) (i + 1) := by
  rw [List.drop_eq_getElem_cons h, findG]; simp [lA, List.getD, h]
theorem fs_len (ls : List LX) : (fs ls).length = ls.length := by simp

set_option maxHeartbeats 1000000 in
theorem isConclusion_s (w : World) (a : Option Addr) (c : Nat) (ls : List LX) (nm : Bs) (h : LinV w a ls) :
    Calls Tryz.prog 80 #[.slice a ls.length c, .string ⟨nm.toArray⟩] w fun e w' => e = .returned (.bool (isCon (fs ls) nm)) ∧ Below w.heap.size w w' := by
  have HL := hideP2 h
  have hfew := h.few
  clear h
  go_enter Tryz.func80, Tryz.ntmps80
  go_wp2_with fail
  go_loopw [9] (fun iv wr => ∃ (i : Nat), i ≤ ls.length ∧ iv = .int .i64 i ∧ Hid (Below w.heap.size w wr) ∧ Hid (((fs ls).drop i).any (isC nm) = isCon (fs ls) nm)) (fun iv _ => ls.length - (intOf iv).toNat)
  case atStart => exact ⟨0, Nat.zero_le _, rfl, hideP2 (Below.refl _ _), hideP2 rfl⟩
  case round =>
    obtain ⟨i, hi, rfl, HB, HE⟩ := hrel
    by_cases hlt : i < ls.length
    · obtain ⟨gl, sa, sn, sc, na, nn, nc, rfl, hgl, ⟨c0, c1, c2, c3, c4, c5, c6, c7, c8, c9, c10⟩, _, _⟩ := (HL.out.below HB.out (Nat.le_refl _)).line hlt
      have hE := HE.out
      rw [any_drop _ pl0 _ i (by simpa using hlt), show (fs ls).getD i pl0 = lA (fs ls) i from rfl, fs_get] at hE
      have HE2 := hideP2 hE
      have hsz := HB.out.size
      clear HE hE
      generalize (lAt ls i).1 = x at *
      obtain ⟨kd, n1, lo, hi', cc, S, N, ro, te, de, lw⟩ := x
      simp only at c0 c1 c2 c3 c4 c5 c6 c7 c8 c9 c10
      by_cases k1 : kd = 3
      · by_cases k2 : cc = nm
        · have HE3 : Hid (isCon (fs ls) nm = true) := by have := HE2.out; unfold Hid; rw [← this]; simp [isC, k1, k2]
          have b1 : (kd == 3) = true := by simpa using k1
          have b2 : (cc == nm) = true := by simpa using k2
          clear HE2 k1 k2
          go_wp2_with fail
          go_ret
          exact ⟨ret_bool HE3.out.symm, HB.out.alloc hsz _⟩
        · have HE3 : Hid (((fs ls).drop (i + 1)).any (isC nm) = isCon (fs ls) nm) := by have := HE2.out; unfold Hid; rw [← this]; simp [isC, k2]
          have b1 : (kd == 3) = true := by simpa using k1
          have b2 : (cc == nm) = false := by simpa using k2
          clear HE2 k1 k2
          go_wp2_with fail
          go_roundw
          case rel => exact ⟨i + 1, by omega, by go_num, hideP2 (HB.out.alloc hsz _), HE3⟩
          case measure => simp [intOf]; omega
      · have HE3 : Hid (((fs ls).drop (i + 1)).any (isC nm) = isCon (fs ls) nm) := by have := HE2.out; unfold Hid; rw [← this]; simp [isC, k1]
        have b1 : (kd == 3) = false := by simpa using k1
        clear HE2 k1
        go_wp2_with fail
        go_roundw
        case rel => exact ⟨i + 1, by omega, by go_num, hideP2 (HB.out.alloc hsz _), HE3⟩
        case measure => simp [intOf]; omega
    · have HE3 : Hid (isCon (fs ls) nm = false) := by have := HE.out; rw [List.drop_eq_nil_of_le (by simp; omega)] at this; exact this.symm
      clear HE
      go_wp2_with fail
      go_ret
      exact ⟨ret_bool HE3.out.symm, HB.out⟩

set_option maxHeartbeats 1000000 in
theorem countKind_s (w : World) (a : Option Addr) (c : Nat) (ls : List LX) (k : Int) (h : LinV w a ls) :
    Calls Tryz.prog 47 #[.slice a ls.length c, .int .i64 k] w fun e w' => e = .returned (.int .i64 (cntK k (fs ls))) ∧ Below w.heap.size w w' := by
  have HL := hideP2 h
  have hfew := h.few
  clear h
  go_enter Tryz.func47, Tryz.ntmps47
  go_wp2_with fail
  go_loopw [5, 10] (fun nv iv wr => ∃ (i n : Nat), i ≤ ls.length ∧ n ≤ i ∧ nv = .int .i64 n ∧ iv = .int .i64 i ∧ Hid (Below w.heap.size w wr) ∧ Hid (n + cntK k ((fs ls).drop i) = cntK k (fs ls))) (fun _ iv _ => ls.length - (intOf iv).toNat)
  case atStart => exact ⟨0, 0, Nat.zero_le _, Nat.le_refl _, rfl, rfl, hideP2 (Below.refl _ _), hideP2 (by simp)⟩
  case round =>
    obtain ⟨i, n, hi, hn, rfl, rfl, HB, HE⟩ := hrel
    by_cases hlt : i < ls.length
    · obtain ⟨gl, sa, sn, sc, na, nn, nc, rfl, hgl, ⟨c0, c1, c2, c3, c4, c5, c6, c7, c8, c9, c10⟩, _, _⟩ := (HL.out.below HB.out (Nat.le_refl _)).line hlt
      have hE := HE.out
      rw [cntK_drop _ _ i (by simpa using hlt), fs_get] at hE
      have HE2 := hideP2 hE
      have hsz := HB.out.size
      clear HE hE
      generalize (lAt ls i).1 = x at *
      obtain ⟨kd, n1, lo, hi', cc, S, N, ro, te, de, lw⟩ := x
      simp only at c0 c1 c2 c3 c4 c5 c6 c7 c8 c9 c10
      by_cases k1 : kd = k
      · have HE3 : Hid (n + 1 + cntK k ((fs ls).drop (i + 1)) = cntK k (fs ls)) := by have := HE2.out; rw [if_pos k1] at this; unfold Hid; omega
        have b1 : (kd == k) = true := by simpa using k1
        clear HE2 k1
        go_wp2_with fail
        go_roundw
        case rel => exact ⟨i + 1, n + 1, by omega, by omega, by go_num, by go_num, hideP2 (HB.out.alloc hsz _), HE3⟩
        case measure => simp [intOf]; omega
      · have HE3 : Hid (n + cntK k ((fs ls).drop (i + 1)) = cntK k (fs ls)) := by have := HE2.out; rw [if_neg k1] at this; unfold Hid; omega
        have b1 : (kd == k) = false := by simpa using k1
        clear HE2 k1
        go_wp2_with fail
        go_roundw
        case rel => exact ⟨i + 1, n, by omega, by omega, rfl, by go_num, hideP2 (HB.out.alloc hsz _), HE3⟩
        case measure => simp [intOf]; omega
    · have HE3 : Hid (n = cntK k (fs ls)) := by have := HE.out; rw [List.drop_eq_nil_of_le (by simp; omega)] at this; exact this
      clear HE
      go_wp2_with fail
      go_ret
      exact ⟨ret_int (by rw [HE3.out]), HB.out⟩

set_option maxHeartbeats 1000000 in
theorem findRule_s (w : World) (a : Option Addr) (c : Nat) (ls : List LX) (nm : Bs) (h : LinV w a ls) :
    Calls Tryz.prog 83 #[.slice a ls.length c, .string ⟨nm.toArray⟩] w fun e w' => e = .returned (.int .i64 (findR (fs ls) nm)) ∧ Below w.heap.size w w' := by
  have HL := hideP2 h
  have hfew := h.few
  clear h
  go_enter Tryz.func83, Tryz.ntmps83
  go_wp2_with fail
  go_loopw [9] (fun iv wr => ∃ (i : Nat), i ≤ ls.length ∧ iv = .int .i64 i ∧ Hid (Below w.heap.size w wr) ∧ Hid (findG (isL 3 nm) ((fs ls).drop i) i = findR (fs ls) nm)) (fun iv _ => ls.length - (intOf iv).toNat)
  case atStart => exact ⟨0, Nat.zero_le _, rfl, hideP2 (Below.refl _ _), hideP2 rfl⟩
  case round =>
    obtain ⟨i, hi, rfl, HB, HE⟩ := hrel
    by_cases hlt : i < ls.length
    · obtain ⟨gl, sa, sn, sc, na, nn, nc, rfl, hgl, ⟨c0, c1, c2, c3, c4, c5, c6, c7, c8, c9, c10⟩, _, _⟩ := (HL.out.below HB.out (Nat.le_refl _)).line hlt
      have hE := HE.out
      rw [findG_drop _ _ i (by simpa using hlt), fs_get] at hE
      have HE2 := hideP2 hE
      have hsz := HB.out.size
      clear HE hE
      generalize (lAt ls i).1 = x at *
      obtain ⟨kd, n1, lo, hi', cc, S, N, ro, te, de, lw⟩ := x
      simp only at c0 c1 c2 c3 c4 c5 c6 c7 c8 c9 c10
      by_cases k1 : kd = 3
      · by_cases k2 : n1 = nm
        · have HE3 : Hid (findR (fs ls) nm = i) := by have := HE2.out; unfold Hid; rw [← this]; simp [isL, k1, k2]
          have b1 : (kd == 3) = true := by simpa using k1
          have b2 : (n1 == nm) = true := by simpa using k2
          clear HE2 k1 k2
          go_wp2_with fail
          go_ret
          exact ⟨ret_int (by rw [HE3.out]), HB.out.alloc hsz _⟩
        · have HE3 : Hid (findG (isL 3 nm) ((fs ls).drop (i + 1)) (i + 1) = findR (fs ls) nm) := by have := HE2.out; unfold Hid; rw [← this]; simp [isL, k2]
          have b1 : (kd == 3) = true := by simpa using k1
          have b2 : (n1 == nm) = false := by simpa using k2
          clear HE2 k1 k2
          go_wp2_with fail
          go_roundw
          case rel => exact ⟨i + 1, by omega, by go_num, hideP2 (HB.out.alloc hsz _), HE3⟩
          case measure => simp [intOf]; omega
      · have HE3 : Hid (findG (isL 3 nm) ((fs ls).drop (i + 1)) (i + 1) = findR (fs ls) nm) := by have := HE2.out; unfold Hid; rw [← this]; simp [isL, k1]
        have b1 : (kd == 3) = false := by simpa using k1
        clear HE2 k1
        go_wp2_with fail
        go_roundw
        case rel => exact ⟨i + 1, by omega, by go_num, hideP2 (HB.out.alloc hsz _), HE3⟩
        case measure => simp [intOf]; omega
    · have HE3 : Hid (findR (fs ls) nm = ls.length) := by have := HE.out; rw [List.drop_eq_nil_of_le (by simp; omega)] at this; unfold Hid; rw [← this]; simp only [findG]; omega
      clear HE
      go_wp2_with fail
      go_ret
      exact ⟨ret_int (by rw [HE3.out]), HB.out⟩

theorem limit_s (k : Int) (w : World) : Calls Tryz.prog 48 #[.int .i64 k] w fun e w' => e = .returned (.int .i64 (limP k)) ∧ w' = w := by
  by_cases h1 : k = 1
  · subst h1
    go_enter Tryz.func48, Tryz.ntmps48
    go_wp2_with fail
    go_ret; exact ⟨rfl, rfl⟩
  · by_cases h2 : k = 2
    · subst h2
      go_enter Tryz.func48, Tryz.ntmps48
      go_wp2_with fail
      go_ret; exact ⟨rfl, rfl⟩
    · by_cases h3 : k = 3
      · subst h3
        go_enter Tryz.func48, Tryz.ntmps48
        go_wp2_with fail
        go_ret; exact ⟨rfl, rfl⟩
      · by_cases h4 : k = 4
        · subst h4
          go_enter Tryz.func48, Tryz.ntmps48
          go_wp2_with fail
          go_ret; exact ⟨rfl, rfl⟩
        · have HR : Hid (limP k = 0) := by unfold Hid limP; rw [if_neg h1, if_neg h2, if_neg h3, if_neg h4]
          have b1 : (k == 1) = false := by simpa using h1
          have b2 : (k == 2) = false := by simpa using h2
          have b3 : (k == 3) = false := by simpa using h3
          have b4 : (k == 4) = false := by simpa using h4
          clear h1 h2 h3 h4
          go_enter Tryz.func48, Tryz.ntmps48
          go_wp2_with fail
          go_ret; exact ⟨ret_int HR.out.symm, rfl⟩

/-- Parts lie in memory, behind a slice's pointer. -/
structure ParV (w : World) (a : Option Addr) (S : List PPart) : Prop where
  blk : 0 < S.length → ∃ g cur, a = some ⟨g, 0, none⟩ ∧ ParB w g cur S
  few : S.length ≤ maxLen
theorem ParV.below {w w' : World} {B : Nat} {a : Option Addr} {S : List PPart} (h : ParV w a S) (hb : Below B w w') (hB : w.heap.size ≤ B) : ParV w' a S :=
  ⟨fun h0 => let ⟨g, cur, e, p⟩ := h.blk h0; ⟨g, cur, e, p.below hb hB⟩, h.few⟩
/-- Nodes lie in memory, behind a slice's pointer. -/
structure NodV (w : World) (a : Option Addr) (N : List PNode) : Prop where
  blk : 0 < N.length → ∃ g cur, a = some ⟨g, 0, none⟩ ∧ NodB w g cur N
  few : N.length ≤ maxLen
theorem NodV.below {w w' : World} {B : Nat} {a : Option Addr} {N : List PNode} (h : NodV w a N) (hb : Below B w w') (hB : w.heap.size ≤ B) : NodV w' a N :=
  ⟨fun h0 => let ⟨g, cur, e, p⟩ := h.blk h0; ⟨g, cur, e, p.below hb hB⟩, h.few⟩
end Go.Proofs.YtnbpdffdnphbeaaGreat

/- What the program's check asks of a line's names: those of inputs, sums and guards. -/
namespace Go.Proofs.YtnbpdffdnphbeaaGreat
open Go.RowKit

/-- What a call answers from a world on: a value, and all that was there is as it was. -/
def Ans (f : FuncId) (args : Array Value) (w : World) (v : Value) : Prop := ∀ w', Below w.heap.size w w' → Calls Tryz.prog f args w' fun e w'' => e = .returned v ∧ Below w'.heap.size w' w''
theorem Ans.at {f : FuncId} {args : Array Value} {w : World} {v : Value} (h : Ans f args w v) {w' : World} (hb : Below w.heap.size w w') : Ans f args w' v := fun w'' h2 => h w'' (hb.trans (h2.mono hb.size))

theorem hasLine_a {w : World} {a : Option Addr} {ls : List LX} (h : LinV w a ls) (c : Nat) (k : Int) (nm : Bs) : Ans 79 #[.slice a ls.length c, .int .i64 k, .string ⟨nm.toArray⟩] w (.bool (hasL (fs ls) k nm)) :=
  fun w' hb => hasLine_s w' a c ls k nm (h.below hb (Nat.le_refl _))
theorem hasLine_t {w : World} {a : Option Addr} {ls : List LX} (h : LinV w a ls) (c : Nat) (k : Int) (nm : Bs) (i : Nat) (hi : i < ls.length) : Ans 79 #[.slice a i c, .int .i64 k, .string ⟨nm.toArray⟩] w (.bool (hasL ((fs ls).take i) k nm)) := by
  have := hasLine_a (h.take i) c k nm
  rw [List.length_take, Nat.min_eq_left (by omega), show fs (ls.take i) = (fs ls).take i from List.map_take ..] at this
  exact this
theorem isCon_a {w : World} {a : Option Addr} {ls : List LX} (h : LinV w a ls) (c : Nat) (nm : Bs) : Ans 80 #[.slice a ls.length c, .string ⟨nm.toArray⟩] w (.bool (isCon (fs ls) nm)) :=
  fun w' hb => isConclusion_s w' a c ls nm (h.below hb (Nat.le_refl _))
theorem findRule_a {w : World} {a : Option Addr} {ls : List LX} (h : LinV w a ls) (c : Nat) (nm : Bs) : Ans 83 #[.slice a ls.length c, .string ⟨nm.toArray⟩] w (.int .i64 (findR (fs ls) nm)) :=
  fun w' hb => findRule_s w' a c ls nm (h.below hb (Nat.le_refl _))

theorem isSummand_s (w : World) (a : Option Addr) (n c : Nat) (nm : Bs) (p q : Bool) (h1 : Ans 79 #[.slice a n c, .int .i64 1, .string ⟨nm.toArray⟩] w (.bool p)) (h2 : Ans 80 #[.slice a n c, .string ⟨nm.toArray⟩] w (.bool q)) :
    Calls Tryz.prog 81 #[.slice a n c, .string ⟨nm.toArray⟩] w fun e w' => e = .returned (.bool (p || q)) ∧ Below w.heap.size w w' := by
  have H1 := hideP2 h1
  have H2 := hideP2 h2
  clear h1 h2
  cases p
  · go_enter Tryz.func81, Tryz.ntmps81
    go_wp2_with fail
    refine (H1.out _ (Below.refl _ _)).mono ?_
    rintro e w1 ⟨rfl, hb1⟩
    have HB1 := hideP2 hb1
    clear hb1
    go_wp2_with fail
    refine (H2.out _ HB1.out).mono ?_
    rintro e w2 ⟨rfl, hb2⟩
    have HB2 : Hid (Below w.heap.size w w2) := HB1.out.trans (hb2.mono HB1.out.size)
    clear hb2
    go_wp2_with fail
    go_ret
    exact ⟨rfl, HB2.out⟩
  · go_enter Tryz.func81, Tryz.ntmps81
    go_wp2_with fail
    refine (H1.out _ (Below.refl _ _)).mono ?_
    rintro e w1 ⟨rfl, hb1⟩
    have HB1 := hideP2 hb1
    clear hb1
    go_wp2_with fail
    go_ret
    exact ⟨rfl, HB1.out⟩
theorem isSummand_a {w : World} {a : Option Addr} {ls : List LX} (h : LinV w a ls) (c : Nat) (nm : Bs) : Ans 81 #[.slice a ls.length c, .string ⟨nm.toArray⟩] w (.bool (sumOk (fs ls) nm)) :=
  fun w' hb => isSummand_s w' a ls.length c nm _ _ ((hasLine_a h c 1 nm).at hb) ((isCon_a h c nm).at hb)

theorem size_alloc {w w1 : World} {o : Obj} (h : Below (w.alloc o).heap.size (w.alloc o) w1) : Below w.heap.size w w1 := ((Below.refl _ _).alloc (Nat.le_refl _) o).trans (h.mono (Nat.le_of_lt (lt_end _ _)))
theorem own_row {w w1 : World} {cs : Array Value} {T : TypeId} {fz : Nat × Nat} (h : Below (w.alloc (.cells cs T fz)).heap.size (w.alloc (.cells cs T fz)) w1) (j : Nat) : w1.cell? ⟨w.heap.size, j, none⟩ = cs[j]? := by
  have h1 : w1.heap[w.heap.size]? = some (.cells cs T fz) := by rw [h.block _ (lt_end _ _)]; exact hb_end _ _
  simp only [World.cell?, h1]; rfl

set_option maxHeartbeats 1000000 in
theorem isNodeKnown_s (w : World) (a : Option Addr) (c : Nat) (ls : List LX) (x : PNode) (h : LinV w a ls) :
    Calls Tryz.prog 82 #[.slice a ls.length c, nodeV x] w fun e w' => e = .returned (.bool (nodeOk (fs ls) x)) ∧ Below w.heap.size w w' := by
  obtain ⟨kd, le, ri, nm, mk, ot, nu⟩ := x
  have HC := hideP2 (isCon_a h c nm)
  have HF := hideP2 (hasLine_a h c 2 nm)
  have HN := hideP2 (hasLine_a h c 1 nm)
  have HO := hideP2 (hasLine_a h c 1 ot)
  have hfew := h.few
  clear h
  unfold nodeV
  by_cases k5 : kd = 5
  · have HR : Hid (nodeOk (fs ls) ⟨kd, le, ri, nm, mk, ot, nu⟩ = isCon (fs ls) nm) := by unfold Hid nodeOk; rw [if_pos k5]
    have b5 : (kd == 5) = true := by simpa using k5
    clear k5 HF HN HO
    go_enter Tryz.func82, Tryz.ntmps82
    go_wp2_with fail
    refine (HC.out _ ((Below.refl _ _).alloc (Nat.le_refl _) _)).mono ?_
    rintro e w1 ⟨rfl, hb1⟩
    have HB1 : Hid (Below w.heap.size w w1) := size_alloc hb1
    clear hb1
    go_wp2_with fail
    go_ret
    exact ⟨ret_bool HR.out.symm, HB1.out⟩
  have b5 : (kd == 5) = false := by simpa using k5
  by_cases k6 : kd = 6
  · have HR : Hid (nodeOk (fs ls) ⟨kd, le, ri, nm, mk, ot, nu⟩ = hasL (fs ls) 2 nm) := by unfold Hid nodeOk; rw [if_neg k5, if_pos k6]
    have b6 : (kd == 6) = true := by simpa using k6
    clear k5 k6 HC HN HO
    go_enter Tryz.func82, Tryz.ntmps82
    go_wp2_with fail
    refine (HF.out _ ((Below.refl _ _).alloc (Nat.le_refl _) _)).mono ?_
    rintro e w1 ⟨rfl, hb1⟩
    have HB1 : Hid (Below w.heap.size w w1) := size_alloc hb1
    clear hb1
    go_wp2_with fail
    go_ret
    exact ⟨ret_bool HR.out.symm, HB1.out⟩
  have b6 : (kd == 6) = false := by simpa using k6
  by_cases k7 : kd = 7
  · have HR : Hid (nodeOk (fs ls) ⟨kd, le, ri, nm, mk, ot, nu⟩ = ((decide (ot = []) || hasL (fs ls) 1 ot) && hasL (fs ls) 1 nm)) := by unfold Hid nodeOk; rw [if_neg k5, if_neg k6, if_pos k7]
    have b7 : (kd == 7) = true := by simpa using k7
    clear k5 k6 HC HF
    generalize hasL (fs ls) 1 ot = p at *
    generalize hasL (fs ls) 1 nm = q at *
    by_cases ko : ot = []
    · have HR2 : Hid (nodeOk (fs ls) ⟨kd, le, ri, nm, mk, ot, nu⟩ = q) := by unfold Hid; rw [HR.out, decide_eq_true ko]; rfl
      have bo : (ot == []) = true := by simpa using ko
      clear HR ko k7
      go_enter Tryz.func82, Tryz.ntmps82
      go_wp2_with fail
      refine (HN.out _ ((Below.refl _ _).alloc (Nat.le_refl _) _)).mono ?_
      rintro e w1 ⟨rfl, hb1⟩
      have HB1 : Hid (Below w.heap.size w w1) := size_alloc hb1
      clear hb1
      go_wp2_with fail
      go_ret
      exact ⟨ret_bool HR2.out.symm, HB1.out⟩
    · have HR2 : Hid (nodeOk (fs ls) ⟨kd, le, ri, nm, mk, ot, nu⟩ = (p && q)) := by unfold Hid; rw [HR.out, decide_eq_false ko]; rfl
      have bo : (ot == []) = false := by simpa using ko
      clear HR ko k7
      cases p
      · go_enter Tryz.func82, Tryz.ntmps82
        go_wp2_with fail
        refine (HO.out _ ((Below.refl _ _).alloc (Nat.le_refl _) _)).mono ?_
        rintro e w1 ⟨rfl, hb1⟩
        have HB1 : Hid (Below w.heap.size w w1) := size_alloc hb1
        clear hb1
        go_wp2_with fail
        go_ret
        exact ⟨ret_bool HR2.out.symm, HB1.out⟩
      · go_enter Tryz.func82, Tryz.ntmps82
        go_wp2_with fail
        refine (HO.out _ ((Below.refl _ _).alloc (Nat.le_refl _) _)).mono ?_
        rintro e w1 ⟨rfl, hb1⟩
        have HB1 : Hid (Below w.heap.size w w1) := size_alloc hb1
        have q1 := own_row hb1
        clear hb1
        go_wp2_with fail
        refine (HN.out _ HB1.out).mono ?_
        rintro e w2 ⟨rfl, hb2⟩
        have HB2 : Hid (Below w.heap.size w w2) := HB1.out.trans (hb2.mono HB1.out.size)
        clear hb2
        go_wp2_with fail
        go_ret
        exact ⟨ret_bool HR2.out.symm, HB2.out⟩
  · have HR : Hid (nodeOk (fs ls) ⟨kd, le, ri, nm, mk, ot, nu⟩ = true) := by unfold Hid nodeOk; rw [if_neg k5, if_neg k6, if_neg k7]
    have b7 : (kd == 7) = false := by simpa using k7
    clear k5 k6 k7 HC HF HN HO
    go_enter Tryz.func82, Tryz.ntmps82
    go_wp2_with fail
    go_ret
    exact ⟨ret_bool HR.out.symm, (Below.refl _ _).alloc (Nat.le_refl _) _⟩
theorem isNodeKnown_a {w : World} {a : Option Addr} {ls : List LX} (h : LinV w a ls) (c : Nat) (x : PNode) : Ans 82 #[.slice a ls.length c, nodeV x] w (.bool (nodeOk (fs ls) x)) :=
  fun w' hb => isNodeKnown_s w' a c ls x (h.below hb (Nat.le_refl _))

set_option maxHeartbeats 1000000 in
theorem inputError_s (w : World) (a : Option Addr) (c : Nat) (ls : List LX) (i : Nat) (hi : i < ls.length) (hc : ls.length ≤ c) (h : LinV w a ls) :
    Calls Tryz.prog 51 #[.slice a ls.length c, .int .i64 i] w fun e w' => e = .returned (.int .i64 (inpE (fs ls) i)) ∧ Below w.heap.size w w' := by
  have hfew := h.few
  have HR : Hid (inpE (fs ls) i = if hasL ((fs ls).take i) 1 (lAt ls i).1.name || (hasL ((fs ls).take i) 2 (lAt ls i).1.name || isCon (fs ls) (lAt ls i).1.name) then 4 else 0) := by unfold Hid inpE; rw [fs_get]
  have H1 := hideP2 (hasLine_t h c 1 (lAt ls i).1.name i hi)
  have H2 := hideP2 (hasLine_t h c 2 (lAt ls i).1.name i hi)
  have H3 := hideP2 (isCon_a h c (lAt ls i).1.name)
  obtain ⟨gl, sa, sn, sc, na, nn, nc, rfl, hgl, ⟨c0, c1, c2, c3, c4, c5, c6, c7, c8, c9, c10⟩, _, _⟩ := h.line hi
  clear h c0 c2 c3 c4 c5 c6 c7 c8 c9 c10
  generalize (lAt ls i).1.name = nm at *
  generalize hasL ((fs ls).take i) 1 nm = p at *
  generalize hasL ((fs ls).take i) 2 nm = q at *
  generalize isCon (fs ls) nm = r at *
  cases p
  · cases q
    · go_enter Tryz.func51, Tryz.ntmps51
      go_wp2_with fail
      refine (H1.out _ (Below.refl _ _)).mono ?_
      rintro e w1 ⟨rfl, hb1⟩
      have HB1 := hideP2 hb1
      clear hb1
      go_wp2_with fail
      refine (H2.out _ HB1.out).mono ?_
      rintro e w2 ⟨rfl, hb2⟩
      have HB2 : Hid (Below w.heap.size w w2) := HB1.out.trans (hb2.mono HB1.out.size)
      clear hb2
      go_wp2_with fail
      refine (H3.out _ HB2.out).mono ?_
      rintro e w3 ⟨rfl, hb3⟩
      have HB3 : Hid (Below w.heap.size w w3) := HB2.out.trans (hb3.mono HB2.out.size)
      clear hb3
      cases r
      · go_wp2_with fail
        go_ret
        exact ⟨ret_int HR.out.symm, HB3.out⟩
      · go_wp2_with fail
        go_ret
        exact ⟨ret_int HR.out.symm, HB3.out⟩
    · go_enter Tryz.func51, Tryz.ntmps51
      go_wp2_with fail
      refine (H1.out _ (Below.refl _ _)).mono ?_
      rintro e w1 ⟨rfl, hb1⟩
      have HB1 := hideP2 hb1
      clear hb1
      go_wp2_with fail
      refine (H2.out _ HB1.out).mono ?_
      rintro e w2 ⟨rfl, hb2⟩
      have HB2 : Hid (Below w.heap.size w w2) := HB1.out.trans (hb2.mono HB1.out.size)
      clear hb2
      go_wp2_with fail
      go_ret
      exact ⟨ret_int HR.out.symm, HB2.out⟩
  · go_enter Tryz.func51, Tryz.ntmps51
    go_wp2_with fail
    refine (H1.out _ (Below.refl _ _)).mono ?_
    rintro e w1 ⟨rfl, hb1⟩
    have HB1 := hideP2 hb1
    clear hb1
    go_wp2_with fail
    go_ret
    exact ⟨ret_int HR.out.symm, HB1.out⟩
end Go.Proofs.YtnbpdffdnphbeaaGreat
