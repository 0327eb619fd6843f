/- What Text of the program's tidy gives: the lines written anew. -/
import Derived.Test.YtnbpdffdnphbeaaGreatDoorWsum
namespace Go.Proofs.YtnbpdffdnphbeaaGreatDoor
open Go.RowKit

theorem foldl_push (out : Bs) : ∀ acc : Bs, (out.map (fun b : UInt8 => (b.toNat : Int))).foldl (fun r n => r.push (UInt8.ofNat n.toNat)) (ByteArray.mk acc.toArray) = ⟨(acc ++ out).toArray⟩ := by
  induction out with
  | nil => intro acc; simp
  | cons c r ih =>
    intro acc
    simp only [List.map_cons, List.foldl_cons]
    have e : (ByteArray.mk acc.toArray).push (UInt8.ofNat ((c.toNat : Int)).toNat) = ByteArray.mk (acc ++ [c]).toArray := by
      simp [ByteArray.push]
    rw [e, ih]; simp

theorem conv_own {w : World} {B : Nat} {v : Value} {out : Bs} (h : w.ownsRow B 5 1 v out.length (bC out)) : (convert 224 9 v).run Tryz.prog w = .ok (.string ⟨out.toArray⟩) w := by
  have hcells := fun g (hv : v = .slice (some ⟨g, 0, none⟩) out.length (match v with | .slice _ _ c => c | _ => 0)) => h.cells (g := g)
  rcases h.2 with ⟨h1, h2⟩ | ⟨g, cap, cur, h1, h2, h3, h4, h5, h6, h7⟩
  · have e : out = [] := List.eq_nil_of_length_eq_zero h2
    subst e; subst h1
    rw [run_convert_bytes_string w _ _ 5 none 0 0 Tryz.underlying224 Tryz.underlying5 Tryz.underlying9]
    rfl
  · subst h1
    rw [run_convert_bytes_string w _ _ 5 _ _ _ Tryz.underlying224 Tryz.underlying5 Tryz.underlying9]
    have hb : bC out = (out.map (fun b : UInt8 => (b.toNat : Int))).map (Value.int .u8) := by simp [bC]
    have hl := run_loadCells_list (P := Tryz.prog) (w := w) ⟨g, 0, none⟩ (bC out) (fun j u hu => by
      rw [Addr.add_lit, Nat.zero_add]; exact cell_take2 h3 h7 hu)
    rw [bC_len, hb] at hl
    rw [run_bytesToString w ⟨g, 0, none⟩ out.length cap _ hl]
    have hf := foldl_push out []
    rw [List.nil_append] at hf
    rw [← hf]; rfl
end Go.Proofs.YtnbpdffdnphbeaaGreatDoor

/- What Text of the program's tidy gives: the lines written anew, one behind the other. -/
namespace Go.Proofs.YtnbpdffdnphbeaaGreatDoor
open Go.RowKit

/-- What a line becomes. -/
def wLine (x : PLine) (st : WSt) : WSt :=
  if x.kind = 1 then wEnd (wNum x.high (wPut [46, 46] (wNum x.low (wPut x.name (wPut [110, 117, 109] st)))))
  else if x.kind = 2 then wEnd (wPut x.name (wPut [102, 108, 97, 103] st))
  else if x.kind = 3 then wEnd (wNode x.nd x.nd.length x.root.toNat (wPut kWhen (wSumG x.sum 0 (wPut [61] (wPut x.conc (wPut [58] (wPut x.name (wPut kRule st))))))))
  else wEnd (wPut x.lower (wPut x.name (wPut [111, 118, 101, 114] st)))

theorem wLine_le (x : PLine) (st : WSt) : st.1.length ≤ (wLine x st).1.length := by
  unfold wLine
  split
  · exact Nat.le_trans (wle' _ _) (Nat.le_trans (wle' _ _) (Nat.le_trans (wle' _ _) (Nat.le_trans (wle' _ _) (Nat.le_trans (wle' _ _) (wEnd_le _)))))
  · split
    · exact Nat.le_trans (wle' _ _) (Nat.le_trans (wle' _ _) (wEnd_le _))
    · split
      · exact Nat.le_trans (wle' _ _) (Nat.le_trans (wle' _ _) (Nat.le_trans (wle' _ _) (Nat.le_trans (wle' _ _) (Nat.le_trans (wle' _ _) (Nat.le_trans (wSumG_le _ _ _) (Nat.le_trans (wle' _ _) (Nat.le_trans (wNode_le _ _ _ _) (wEnd_le _))))))))
      · exact Nat.le_trans (wle' _ _) (Nat.le_trans (wle' _ _) (Nat.le_trans (wle' _ _) (wEnd_le _)))

/-- A line that the writer can write: its numbers are small, its nodes good. -/
structure GoodP (x : PLine) : Prop where
  kinds : x.kind = 1 ∨ x.kind = 2 ∨ x.kind = 3 ∨ x.kind = 4
  lo0 : 0 ≤ x.low
  lo1 : x.low ≤ 9999
  hi0 : 0 ≤ x.high
  hi1 : x.high ≤ 9999
  sums : ∀ a, a < x.sum.length → 0 ≤ (xAt x.sum a).num ∧ (xAt x.sum a).num ≤ 9999
  sumN : x.sum.length ≤ 10000
  nodes : GoodN x.nd
  rule : x.kind = 3 → 0 < x.sum.length ∧ 0 ≤ x.root ∧ x.root < (x.nd.length : Int)

/-- A line's rows, as blocks that are known. -/
structure LineB (w : World) (x : LX) : Prop where
  s1 : ∃ a n c, x.2.1 = .slice a n c
  s2 : ∃ a n c, x.2.2 = .slice a n c
  sum : 0 < x.1.sum.length → ∃ g c cur, x.2.1 = .slice (some ⟨g, 0, none⟩) x.1.sum.length c ∧ ParB w g cur x.1.sum
  nod : 0 < x.1.nd.length → ∃ g c cur, x.2.2 = .slice (some ⟨g, 0, none⟩) x.1.nd.length c ∧ NodB w g cur x.1.nd

theorem LineB.kt {w w' : World} {W : Nat} {x : LX} (h : LineB w x) (hk : KT W w w') : LineB w' x :=
  ⟨h.s1, h.s2, fun h0 => let ⟨g, c, cur, e, p⟩ := h.sum h0; ⟨g, c, cur, e, p.kt hk⟩, fun h0 => let ⟨g, c, cur, e, p⟩ := h.nod h0; ⟨g, c, cur, e, p.kt hk⟩⟩

theorem LineB.of_rows {w : World} {B : Nat} {x : LX} (h : LineRows w B x.2.1 x.2.2 x.1) : LineB w x := by
  refine ⟨own_slice h.1, own_slice h.2, fun h0 => ?_, fun h0 => ?_⟩
  · rcases h.1.2 with ⟨_, h2⟩ | ⟨g, cap, cur, h1, _, h3, _, _, _, h7⟩
    · omega
    · exact ⟨g, cap, cur, h1, h3, h7⟩
  · rcases h.2.2 with ⟨_, h2⟩ | ⟨g, cap, cur, h1, _, h3, _, _, _, h7⟩
    · omega
    · exact ⟨g, cap, cur, h1, h3, h7⟩

theorem wline_s (w : World) (W : Nat) (st : WSt) (x : LX) (h : WrS w W st) (hg : GoodP x.1) (hb : LineB w x) (hn : (wLine x.1 st).1.length ≤ bigW) :
    Calls Tryz.prog 103 #[.pointer (some ⟨W, 0, none⟩), lineV x.2.1 x.2.2 x.1] w fun e w' => e = .returned (.tuple #[]) ∧ WrS w' W (wLine x.1 st) ∧ KT W w w' := by
  obtain ⟨⟨k, nm, lo, hi, cc, S, N, ro, te, de, lw⟩, sv, nv⟩ := x
  obtain ⟨sa, sn, sc, e1⟩ := hb.s1
  obtain ⟨na, nn, nc, e2⟩ := hb.s2
  simp only at e1 e2
  simp only [lineV, wLine] at hn ⊢
  have hk := hg.kinds
  simp only at hk
  by_cases k1 : k = 1
  · subst k1 e1 e2; simp only [if_true] at hn ⊢
    exact wline_num w W st lo hi te de nm cc lw sa na sn sc nn nc ro h hg.lo0 hg.lo1 hg.hi0 hg.hi1 hn
  rw [if_neg k1] at hn ⊢
  by_cases k2 : k = 2
  · subst k2 e1 e2; simp only [if_true] at hn ⊢
    exact wline_flag w W st lo hi te de nm cc lw sa na sn sc nn nc ro h hn
  rw [if_neg k2] at hn ⊢
  by_cases k3 : k = 3
  · subst k3; simp only [if_true] at hn ⊢
    obtain ⟨hs0, hr0, hr1⟩ := hg.rule rfl
    simp only at hs0 hr0 hr1
    obtain ⟨gS, cS, curS, f1, hp⟩ := hb.sum hs0
    obtain ⟨gN, cN, curN, f2, hq⟩ := hb.nod (by show 0 < N.length; omega)
    simp only at f1 f2 hp hq
    subst f1 f2
    obtain ⟨root, rfl⟩ := Int.eq_ofNat_of_zero_le hr0
    rw [Int.toNat_natCast] at hn ⊢
    exact wline_rule w W st lo hi te de nm cc lw gS cS gN cN root curS curN S N h hp hq hg.sumN hg.sums hg.nodes (by omega) hn
  · rw [if_neg k3] at hn ⊢
    have k4 : k = 4 := by omega
    subst k4 e1 e2
    exact wline_over w W st lo hi te de nm cc lw sa na sn sc nn nc ro h hn

def lz : LX := (⟨0, [], 0, 0, [], [], [], 0, 0, 0, []⟩, (.slice none 0 0, .slice none 0 0))
def lAt (ls : List LX) (i : Nat) : LX := ls.getD i lz

structure LinB (w : World) (gl : Nat) (cur : Array Value) (ls : List LX) : Prop where
  blk : w.heap[gl]? = some (.cells cur 234 (0, 0))
  row : cur.toList.take (ls.length * 11) = flatL ls

theorem LinB.kt {w w' : World} {W gl : Nat} {cur : Array Value} {ls : List LX} (h : LinB w gl cur ls) (hk : KT W w w') : LinB w' gl cur ls := ⟨hk.kept _ _ h.blk (okT_cells (by decide) (by decide)), h.row⟩
theorem LinB.lt {w : World} {gl : Nat} {cur : Array Value} {ls : List LX} (h : LinB w gl cur ls) : gl < w.heap.size := by
  rcases Nat.lt_or_ge gl w.heap.size with h1 | h1
  · exact h1
  · have h2 := h.blk; rw [Array.getElem?_eq_none h1] at h2; cases h2

theorem flatL_get (ls : List LX) : ∀ i, i < ls.length → ∀ j, j < 11 → (flatL ls)[i * 11 + j]? = (lineC (lAt ls i))[j]? := by
  induction ls with
  | nil => intro i h; simp at h
  | cons t r ih =>
    intro i h j hj
    have e : flatL (t :: r) = lineC t ++ flatL r := by simp [flatL]
    have hl : (lineC t).length = 11 := rfl
    cases i with
    | zero => rw [e, List.getElem?_append_left (by rw [hl]; omega)]; simp [lAt]
    | succ i =>
      rw [e, List.getElem?_append_right (by rw [hl]; omega), hl, show (i + 1) * 11 + j - 11 = i * 11 + j by omega, ih i (by simpa using h) j hj]
      simp [lAt]

theorem LinB.cell {w : World} {gl : Nat} {cur : Array Value} {ls : List LX} (h : LinB w gl cur ls) {a : Nat} (ha : a < ls.length) (j : Nat) (hj : j < 11) {u : Value} (hu : (lineC (lAt ls a))[j]? = some u) : w.cell? ⟨gl, a * 11 + j, none⟩ = some u :=
  cell_take2 h.blk h.row ((flatL_get ls a ha j hj).trans hu)

def textG2 : List LX → WSt → WSt
  | [], st => st
  | x :: r, st => textG2 r (wLine x.1 st)
theorem textG2_le (ls : List LX) : ∀ st, st.1.length ≤ (textG2 ls st).1.length := by
  induction ls with
  | nil => intro st; exact Nat.le_refl _
  | cons x r ih => intro st; rw [textG2]; exact Nat.le_trans (wLine_le _ _) (ih _)

theorem dropL (ls : List LX) (k : Nat) (h : k < ls.length) : ls.drop k = lAt ls k :: ls.drop (k + 1) := by
  rw [List.drop_eq_getElem_cons h]; simp [lAt, List.getD, h]
theorem lAt_mem {ls : List LX} {k : Nat} (h : k < ls.length) : lAt ls k ∈ ls := by simp [lAt, List.getD, h]

set_option maxHeartbeats 1000000 in
theorem Text_some (w : World) (gl cap : Nat) (cur : Array Value) (ls : List LX) (hL : LinB w gl cur ls) (hlen : ls.length ≤ 10000) (hg : ∀ x ∈ ls, GoodP x.1) (hb : ∀ x ∈ ls, LineB w x) (htab : Tab w) (hgl : ∃ g, Tryz.prog.globalNamed "internal/strconv.uint64pow10" = some g ∧ g < w.heap.size) (hn : (textG2 ls ([], false)).1.length ≤ bigW) :
    Calls Tryz.prog 61 #[.slice (some ⟨gl, 0, none⟩) ls.length cap] w fun e w' => e = .returned (.string ⟨(textG2 ls ([], false)).1.toArray⟩) ∧ Below w.heap.size w w' := by
  have HL0 := hideP2 hL
  have HGd := hideP2 hg
  have HBd := hideP2 hb
  have HN := hideP2 hn
  have hk0 : KT w.heap.size w (w.alloc (wrObj (.slice none 0 0) false)) := (KT.refl _ w).new (Nat.le_refl _) _
  have hw0 : WrS (w.alloc (wrObj (.slice none 0 0) false)) w.heap.size ([], false) :=
    ⟨⟨.slice none 0 0, hb_end _ _, World.ownsRow_nil _ _ _ _⟩, htab.below hgl hk0.below, hgl⟩
  have HW0 := hideP2 hw0
  have HK0 := hideP2 hk0
  generalize hWW : w.heap.size = W at *
  have HWW := hideP2 hWW
  clear hL hg hb hn hw0 hk0 htab hgl
  go_enter Tryz.func61, Tryz.ntmps61
  go_wp2_with fail
  go_loopw [9] (fun iv wr => ∃ (i : Nat) (st : WSt), i ≤ ls.length ∧ iv = .int .i64 i ∧ Hid (WrS wr W st) ∧ Hid (LinB wr gl cur ls) ∧ Hid (∀ x ∈ ls, LineB wr x) ∧ Hid (KT W w wr) ∧ Hid (textG2 (ls.drop i) st = textG2 ls ([], false))) (fun iv _ => ls.length - (intOf iv).toNat)
  case atStart => exact ⟨0, ([], false), Nat.zero_le _, rfl, HW0, hideP2 (HL0.out.kt HK0.out), hideP2 (fun x hx => (HBd.out x hx).kt HK0.out), HK0, hideP2 rfl⟩
  case round =>
    obtain ⟨i, st, hi, rfl, HSr, HLr, HBr, HKr, HE⟩ := hrel
    clear HW0 HK0 HL0 HBd
    have hWr := HSr.out.wr.lt
    by_cases hlt : i < ls.length
    · have hx := fun j hj (u : Value) hu => HLr.out.cell hlt j hj (u := u) hu
      have hglt := HLr.out.lt
      have nX : wr.heap.size ≠ gl := by omega
      have hE := HE.out
      rw [dropL ls i hlt, textG2] at hE
      have hb := HN.out
      rw [← hE] at hb
      have hb2 := Nat.le_trans (textG2_le _ _) hb
      have hmem := lAt_mem hlt
      have HLi := hideP2 (fun w' (h' : WrS w' W st) (hB : LineB w' (lAt ls i)) => wline_s w' W st (lAt ls i) h' (HGd.out _ hmem) hB hb2)
      have hBi := HBr.out _ hmem
      obtain ⟨sa, sn, sc, e1⟩ := hBi.s1
      obtain ⟨na, nn, nc, e2⟩ := hBi.s2
      have HBi := hideP2 hBi
      have HE2 := hideP2 hE
      have c0 := hx 0 (by omega) _ rfl
      have c1 := hx 1 (by omega) _ rfl
      have c2 := hx 2 (by omega) _ rfl
      have c3 := hx 3 (by omega) _ rfl
      have c4 := hx 4 (by omega) _ rfl
      have c5 := hx 5 (by omega) _ rfl
      have c6 := hx 6 (by omega) _ rfl
      have c7 := hx 7 (by omega) _ rfl
      have c8 := hx 8 (by omega) _ rfl
      have c9 := hx 9 (by omega) _ rfl
      have c10 := hx 10 (by omega) _ rfl
      clear hE hb hb2 HE hx hBi
      generalize lAt ls i = x at *
      obtain ⟨⟨k, nm, lo, hi', cc, S, N, ro, te, de, lw⟩, sv, nv⟩ := x
      simp only at e1 e2 c0 c1 c2 c3 c4 c5 c6 c7 c8 c9 c10
      subst e1 e2
      simp only [lineV] at HLi
      rw [Nat.add_zero] at c0
      clear hmem
      go_wp2_with fail
      refine (HLi.out _ (WrS.new HSr.out _) (HBi.out.kt ((KT.refl W wr).new (Nat.le_of_lt hWr) _))).mono ?_
      rintro e w1 ⟨rfl, hs1, hk1⟩
      have hk : KT W wr w1 := KT.trans ((KT.refl W wr).new (Nat.le_of_lt hWr) _) hk1
      have HS1 := hideP2 hs1
      have HL1 := hideP2 (HLr.out.kt hk)
      have HB1 : Hid (∀ x ∈ ls, LineB w1 x) := fun x hx => (HBr.out x hx).kt hk
      have HK1 : Hid (KT W w w1) := HKr.out.trans hk
      clear hs1 hk1 hk c0 c1 c2 c3 c4 c5 c6 c7 c8 c9 c10
      go_wp2_with fail
      go_roundw
      case rel => exact ⟨i + 1, _, by omega, by go_num, HS1, HL1, HB1, HK1, HE2⟩
      case measure => simp [intOf]; omega
    · have hE := HE.out
      rw [List.drop_eq_nil_of_le (by omega), textG2] at hE
      have HE2 := hideP2 hE
      obtain ⟨ov, hwb, hown⟩ := HSr.out.wr
      obtain ⟨c0, _, _⟩ := wr_cells hwb
      have hcv := conv_own hown
      obtain ⟨oa, on, oc, rfl⟩ := own_slice hown
      clear hE HE hwb hown
      go_wp2_with fail
      go_ret
      rw [← HE2.out]
      exact ⟨rfl, HKr.out.below⟩
end Go.Proofs.YtnbpdffdnphbeaaGreatDoor
