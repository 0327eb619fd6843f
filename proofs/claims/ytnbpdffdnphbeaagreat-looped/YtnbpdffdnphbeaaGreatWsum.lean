/- What part and sum of the writer do. -/
import Derived.Test.YtnbpdffdnphbeaaGreatBookRead2
import Derived.Test.YtnbpdffdnphbeaaGreatKept
import Derived.Test.YtnbpdffdnphbeaaGreatPWalk
namespace Go.Proofs.YtnbpdffdnphbeaaGreat
open Go.RowKit

def wPart (x : PPart) (st : WSt) : WSt :=
  match x.starred with
  | true => wPut x.name (wPut [42] (wNum x.num st))
  | false => match x.name.isEmpty with
    | true => wNum x.num st
    | false => wPut x.name st

theorem wPart_le (x : PPart) (st : WSt) : st.1.length ≤ (wPart x st).1.length := by
  unfold wPart
  split
  · exact Nat.le_trans (wle' _ _) (Nat.le_trans (wle' _ _) (wle' _ _))
  · split <;> exact wle' _ _

/-- The mark ahead of a part. -/
def wSign (m : Bool) (i : Nat) (st : WSt) : WSt := match m with | true => wPut [45] st | false => if 0 < i then wPut [43] st else st
theorem wSign_le (m : Bool) (i : Nat) (st : WSt) : st.1.length ≤ (wSign m i st).1.length := by
  unfold wSign; split
  · exact wle' _ _
  · split
    · exact wle' _ _
    · exact Nat.le_refl _

def wSumG : List PPart → Nat → WSt → WSt
  | [], _, st => st
  | x :: r, i, st => wSumG r (i + 1) (wPart x (wSign x.minus i st))
theorem wSumG_le (l : List PPart) : ∀ i st, st.1.length ≤ (wSumG l i st).1.length := by
  induction l with
  | nil => intro i st; exact Nat.le_refl _
  | cons x r ih => intro i st; rw [wSumG]; exact Nat.le_trans (wSign_le _ _ _) (Nat.le_trans (wPart_le _ _) (ih _ _))

def xz : PPart := ⟨false, false, 0, []⟩
def xAt (S : List PPart) (i : Nat) : PPart := S.getD i xz

structure ParB (w : World) (gS : Nat) (cur : Array Value) (S : List PPart) : Prop where
  blk : w.heap[gS]? = some (.cells cur 119 (0, 0))
  row : cur.toList.take (S.length * 4) = flatS S

theorem flatS_get (S : List PPart) : ∀ i, i < S.length → ∀ j, j < 4 → (flatS S)[i * 4 + j]? = (partC (xAt S i))[j]? := by
  induction S with
  | nil => intro i h; simp at h
  | cons t r ih =>
    intro i h j hj
    have e : flatS (t :: r) = partC t ++ flatS r := by simp [flatS]
    have hl : (partC t).length = 4 := rfl
    cases i with
    | zero => rw [e, List.getElem?_append_left (by rw [hl]; omega)]; simp [xAt]
    | succ i =>
      rw [e, List.getElem?_append_right (by rw [hl]; omega), hl, show (i + 1) * 4 + j - 4 = i * 4 + j by omega, ih i (by simpa using h) j hj]
      simp [xAt]

theorem ParB.cells {w : World} {gS : Nat} {cur : Array Value} {S : List PPart} (h : ParB w gS cur S) {a : Nat} (ha : a < S.length) :
    w.cell? ⟨gS, a * 4, none⟩ = some (.bool (xAt S a).minus) ∧ w.cell? ⟨gS, a * 4 + 1, none⟩ = some (.bool (xAt S a).starred) ∧ w.cell? ⟨gS, a * 4 + 2, none⟩ = some (.int .i64 (xAt S a).num) ∧ w.cell? ⟨gS, a * 4 + 3, none⟩ = some (.string ⟨(xAt S a).name.toArray⟩) := by
  have hg := fun j (hj : j < 4) => flatS_get S a ha j hj
  exact ⟨cell_take2 h.blk h.row (hg 0 (by omega)), cell_take2 h.blk h.row (hg 1 (by omega)), cell_take2 h.blk h.row (hg 2 (by omega)), cell_take2 h.blk h.row (hg 3 (by omega))⟩

theorem ParB.lt {w : World} {gS : Nat} {cur : Array Value} {S : List PPart} (h : ParB w gS cur S) : gS < w.heap.size := by
  rcases Nat.lt_or_ge gS w.heap.size with h1 | h1
  · exact h1
  · have h2 := h.blk; rw [Array.getElem?_eq_none h1] at h2; cases h2

theorem dropX (S : List PPart) (k : Nat) (h : k < S.length) : S.drop k = xAt S k :: S.drop (k + 1) := by
  rw [List.drop_eq_getElem_cons h]; simp [xAt, List.getD, h]

end Go.Proofs.YtnbpdffdnphbeaaGreat

/- What line of the writer does: a line written anew. -/
namespace Go.Proofs.YtnbpdffdnphbeaaGreat
open Go.RowKit

def wEnd (st : WSt) : WSt := (st.1 ++ [59, 10], false)
theorem wEnd_le (st : WSt) : st.1.length ≤ (wEnd st).1.length := by simp [wEnd]
theorem ParB.new {w : World} {gS : Nat} {cur : Array Value} {S : List PPart} (h : ParB w gS cur S) (o : Obj) : ParB (w.alloc o) gS cur S := ⟨hb_new h.blk, h.row⟩

end Go.Proofs.YtnbpdffdnphbeaaGreat

/- What Text of the program's tidy gives: the lines written anew. -/
namespace Go.Proofs.YtnbpdffdnphbeaaGreat
open Go.RowKit

theorem foldl_push (out : Bs) : ∀ acc : Bs, (out.map (fun b : UInt8 => (b.toNat : Int))).foldl (fun r n => r.push (UInt8.ofNat n.toNat)) (ByteArray.mk acc.toArray) = ⟨(acc ++ out).toArray⟩ := by
  induction out with
  | nil => intro acc; simp
  | cons c r ih =>
    intro acc
    simp only [List.map_cons, List.foldl_cons]
    have e : (ByteArray.mk acc.toArray).push (UInt8.ofNat ((c.toNat : Int)).toNat) = ByteArray.mk (acc ++ [c]).toArray := by
      simp [ByteArray.push]
    rw [e, ih]; simp

theorem conv_own {w : World} {B : Nat} {v : Value} {out : Bs} (h : w.ownsRow B 5 1 v out.length (bC out)) : (convert 45 9 v).run Tryz.prog w = .ok (.string ⟨out.toArray⟩) w := by
  have hcells := fun g (hv : v = .slice (some ⟨g, 0, none⟩) out.length (match v with | .slice _ _ c => c | _ => 0)) => h.cells (g := g)
  rcases h.2 with ⟨h1, h2⟩ | ⟨g, cap, cur, h1, h2, h3, h4, h5, h6, h7⟩
  · have e : out = [] := List.eq_nil_of_length_eq_zero h2
    subst e; subst h1
    rw [run_convert_bytes_string w _ _ 5 none 0 0 Tryz.underlying45 Tryz.underlying5 Tryz.underlying9]
    rfl
  · subst h1
    rw [run_convert_bytes_string w _ _ 5 _ _ _ Tryz.underlying45 Tryz.underlying5 Tryz.underlying9]
    have hb : bC out = (out.map (fun b : UInt8 => (b.toNat : Int))).map (Value.int .u8) := by simp [bC]
    have hl := run_loadCells_list (P := Tryz.prog) (w := w) ⟨g, 0, none⟩ (bC out) (fun j u hu => by
      rw [Addr.add_lit, Nat.zero_add]; exact cell_take2 h3 h7 hu)
    rw [bC_len, hb] at hl
    rw [run_bytesToString w ⟨g, 0, none⟩ out.length cap _ hl]
    have hf := foldl_push out []
    rw [List.nil_append] at hf
    rw [← hf]; rfl
end Go.Proofs.YtnbpdffdnphbeaaGreat

/- What Text of the program's tidy gives: the lines written anew, one behind the other. -/
namespace Go.Proofs.YtnbpdffdnphbeaaGreat
open Go.RowKit

/-- What a line becomes. -/
def wLine (x : PLine) (st : WSt) : WSt :=
  if x.kind = 1 then wEnd (wNum x.high (wPut [46, 46] (wNum x.low (wPut x.name (wPut [110, 117, 109] st)))))
  else if x.kind = 2 then wEnd (wPut x.name (wPut [102, 108, 97, 103] st))
  else if x.kind = 3 then wEnd (wNode x.nd x.nd.length x.root.toNat (wPut kWhen (wSumG x.sum 0 (wPut [61] (wPut x.conc (wPut [58] (wPut x.name (wPut kRule st))))))))
  else wEnd (wPut x.lower (wPut x.name (wPut [111, 118, 101, 114] st)))

theorem wLine_le (x : PLine) (st : WSt) : st.1.length ≤ (wLine x st).1.length := by
  unfold wLine
  split
  · exact Nat.le_trans (wle' _ _) (Nat.le_trans (wle' _ _) (Nat.le_trans (wle' _ _) (Nat.le_trans (wle' _ _) (Nat.le_trans (wle' _ _) (wEnd_le _)))))
  · split
    · exact Nat.le_trans (wle' _ _) (Nat.le_trans (wle' _ _) (wEnd_le _))
    · split
      · exact Nat.le_trans (wle' _ _) (Nat.le_trans (wle' _ _) (Nat.le_trans (wle' _ _) (Nat.le_trans (wle' _ _) (Nat.le_trans (wle' _ _) (Nat.le_trans (wSumG_le _ _ _) (Nat.le_trans (wle' _ _) (Nat.le_trans (wNode_le _ _ _ _) (wEnd_le _))))))))
      · exact Nat.le_trans (wle' _ _) (Nat.le_trans (wle' _ _) (Nat.le_trans (wle' _ _) (wEnd_le _)))

/-- A line that the writer can write: its numbers are small, its nodes good. -/
structure GoodP (x : PLine) : Prop where
  kinds : x.kind = 1 ∨ x.kind = 2 ∨ x.kind = 3 ∨ x.kind = 4
  lo0 : 0 ≤ x.low
  lo1 : x.low ≤ 9999
  hi0 : 0 ≤ x.high
  hi1 : x.high ≤ 9999
  sums : ∀ a, a < x.sum.length → 0 ≤ (xAt x.sum a).num ∧ (xAt x.sum a).num ≤ 9999
  sumN : x.sum.length ≤ 10000
  nodes : GoodN x.nd
  rule : x.kind = 3 → 0 < x.sum.length ∧ 0 ≤ x.root ∧ x.root < (x.nd.length : Int)

/-- A line's rows, as blocks that are known. -/
structure LineB (w : World) (x : LX) : Prop where
  s1 : ∃ a n c, x.2.1 = .slice a n c
  s2 : ∃ a n c, x.2.2 = .slice a n c
  sum : 0 < x.1.sum.length → ∃ g c cur, x.2.1 = .slice (some ⟨g, 0, none⟩) x.1.sum.length c ∧ ParB w g cur x.1.sum
  nod : 0 < x.1.nd.length → ∃ g c cur, x.2.2 = .slice (some ⟨g, 0, none⟩) x.1.nd.length c ∧ NodB w g cur x.1.nd

theorem LineB.of_rows {w : World} {B : Nat} {x : LX} (h : LineRows w B x.2.1 x.2.2 x.1) : LineB w x := by
  refine ⟨own_slice h.1, own_slice h.2, fun h0 => ?_, fun h0 => ?_⟩
  · rcases h.1.2 with ⟨_, h2⟩ | ⟨g, cap, cur, h1, _, h3, _, _, _, h7⟩
    · omega
    · exact ⟨g, cap, cur, h1, h3, h7⟩
  · rcases h.2.2 with ⟨_, h2⟩ | ⟨g, cap, cur, h1, _, h3, _, _, _, h7⟩
    · omega
    · exact ⟨g, cap, cur, h1, h3, h7⟩

def lz : LX := (⟨0, [], 0, 0, [], [], [], 0, 0, 0, []⟩, (.slice none 0 0, .slice none 0 0))
def lAt (ls : List LX) (i : Nat) : LX := ls.getD i lz

structure LinB (w : World) (gl : Nat) (cur : Array Value) (ls : List LX) : Prop where
  blk : w.heap[gl]? = some (.cells cur 83 (0, 0))
  row : cur.toList.take (ls.length * 11) = flatL ls

theorem LinB.lt {w : World} {gl : Nat} {cur : Array Value} {ls : List LX} (h : LinB w gl cur ls) : gl < w.heap.size := by
  rcases Nat.lt_or_ge gl w.heap.size with h1 | h1
  · exact h1
  · have h2 := h.blk; rw [Array.getElem?_eq_none h1] at h2; cases h2

theorem flatL_get (ls : List LX) : ∀ i, i < ls.length → ∀ j, j < 11 → (flatL ls)[i * 11 + j]? = (lineC (lAt ls i))[j]? := by
  induction ls with
  | nil => intro i h; simp at h
  | cons t r ih =>
    intro i h j hj
    have e : flatL (t :: r) = lineC t ++ flatL r := by simp [flatL]
    have hl : (lineC t).length = 11 := rfl
    cases i with
    | zero => rw [e, List.getElem?_append_left (by rw [hl]; omega)]; simp [lAt]
    | succ i =>
      rw [e, List.getElem?_append_right (by rw [hl]; omega), hl, show (i + 1) * 11 + j - 11 = i * 11 + j by omega, ih i (by simpa using h) j hj]
      simp [lAt]

theorem LinB.cell {w : World} {gl : Nat} {cur : Array Value} {ls : List LX} (h : LinB w gl cur ls) {a : Nat} (ha : a < ls.length) (j : Nat) (hj : j < 11) {u : Value} (hu : (lineC (lAt ls a))[j]? = some u) : w.cell? ⟨gl, a * 11 + j, none⟩ = some u :=
  cell_take2 h.blk h.row ((flatL_get ls a ha j hj).trans hu)

def textG2 : List LX → WSt → WSt
  | [], st => st
  | x :: r, st => textG2 r (wLine x.1 st)
theorem textG2_le (ls : List LX) : ∀ st, st.1.length ≤ (textG2 ls st).1.length := by
  induction ls with
  | nil => intro st; exact Nat.le_refl _
  | cons x r ih => intro st; rw [textG2]; exact Nat.le_trans (wLine_le _ _) (ih _)

theorem dropL (ls : List LX) (k : Nat) (h : k < ls.length) : ls.drop k = lAt ls k :: ls.drop (k + 1) := by
  rw [List.drop_eq_getElem_cons h]; simp [lAt, List.getD, h]
theorem lAt_mem {ls : List LX} {k : Nat} (h : k < ls.length) : lAt ls k ∈ ls := by simp [lAt, List.getD, h]

end Go.Proofs.YtnbpdffdnphbeaaGreat

/- What next of the document's answer gives: where one gets from a state by a class. -/
namespace Go.Proofs.YtnbpdffdnphbeaaGreat
open Go.RowKit

end Go.Proofs.YtnbpdffdnphbeaaGreat

/- What Form of the document's answer gives of a text: the place of what can't stand, or -1. -/
namespace Go.Proofs.YtnbpdffdnphbeaaGreat
open Go.RowKit

/-- Tokens lie in block g from place o on. -/
def SegR (w : World) (g o : Nat) (ts : List (Nat × Bs)) : Prop := ∀ i, i < ts.length →
  w.cell? ⟨g, o + i * 3, none⟩ = some (.string ⟨(ts.getD i (0, [])).2.toArray⟩) ∧ w.cell? ⟨g, o + i * 3 + 1, none⟩ = some (.int .i64 (ts.getD i (0, [])).1) ∧ w.cell? ⟨g, o + i * 3 + 2, none⟩ = some (.string ⟨(clsB (ts.getD i (0, [])).2).toArray⟩)

theorem flatR_get (ts : List (Nat × Bs)) : ∀ i, i < ts.length →
    (flatR ts)[i * 3]? = some (.string ⟨(ts.getD i (0, [])).2.toArray⟩) ∧ (flatR ts)[i * 3 + 1]? = some (.int .i64 (ts.getD i (0, [])).1) ∧ (flatR ts)[i * 3 + 2]? = some (.string ⟨(clsB (ts.getD i (0, [])).2).toArray⟩) := by
  induction ts with
  | nil => intro i h; simp at h
  | cons t r ih =>
    intro i h
    have e : flatR (t :: r) = rtok t ++ flatR r := by simp [flatR]
    cases i with
    | zero => rw [e]; simp [rtok]
    | succ i =>
      have hlen : (rtok t).length = 3 := rfl
      have hi := ih i (by simpa using h)
      rw [e]
      refine ⟨?_, ?_, ?_⟩
      · rw [List.getElem?_append_right (by rw [hlen]; omega), hlen, show (i + 1) * 3 - 3 = i * 3 by omega]; simpa using hi.1
      · rw [List.getElem?_append_right (by rw [hlen]; omega), hlen, show (i + 1) * 3 + 1 - 3 = i * 3 + 1 by omega]; simpa using hi.2.1
      · rw [List.getElem?_append_right (by rw [hlen]; omega), hlen, show (i + 1) * 3 + 2 - 3 = i * 3 + 2 by omega]; simpa using hi.2.2

theorem cell_take {w : World} {g : Nat} {cur : Array Value} {e : TypeId} {fz : Nat × Nat} {k n : Nat} {xs : List Value} {u : Value}
    (hb : w.heap[g]? = some (.cells cur e fz)) (ht : cur.toList.take n = xs) (hx : xs[k]? = some u) : w.cell? ⟨g, k, none⟩ = some u := by
  have h1 : cur.toList[k]? = some u := by
    rw [← ht, List.getElem?_take] at hx
    split at hx
    · exact hx
    · cases hx
  simp [World.cell?, hb]
  simpa using h1

end Go.Proofs.YtnbpdffdnphbeaaGreat

/- What outside, glued and when of the document's answer give of tokens that lie in memory. -/
namespace Go.Proofs.YtnbpdffdnphbeaaGreat
open Go.RowKit

theorem cat_mk (a b : Bs) : (ByteArray.mk a.toArray) ++ (ByteArray.mk b.toArray) = ⟨(a ++ b).toArray⟩ := by
  apply ByteArray.ext
  simp

end Go.Proofs.YtnbpdffdnphbeaaGreat

/- What tidied of the document's answer gives of the tokens of a guard: the text and its kind. -/
namespace Go.Proofs.YtnbpdffdnphbeaaGreat
open Go.RowKit

theorem hideP {p : Prop} (h : p) : Hid p := h

theorem SegR.drop {w : World} {g o : Nat} {ts : Toks} (h : SegR w g o ts) (k : Nat) : SegR w g (o + k * 3) (ts.drop k) := by
  intro i hi
  have hi' : k + i < ts.length := by rw [List.length_drop] at hi; omega
  obtain ⟨a, b, c⟩ := h (k + i) hi'
  have e : (ts.drop k).getD i (0, []) = ts.getD (k + i) (0, []) := by simp [List.getD]
  rw [e, show o + k * 3 + i * 3 = o + (k + i) * 3 by omega]
  exact ⟨a, b, c⟩
theorem SegR.take {w : World} {g o : Nat} {ts : Toks} (h : SegR w g o ts) (k : Nat) : SegR w g o (ts.take k) := by
  intro i hi
  rw [List.length_take] at hi
  obtain ⟨a, b, c⟩ := h i (by omega)
  have e : (ts.take k).getD i (0, []) = ts.getD i (0, []) := by simp only [List.getD, List.getElem?_take]; rw [if_pos (by omega)]
  rw [e]
  exact ⟨a, b, c⟩

theorem ret_pair {a b : ByteArray} {x y : Int} (h : a = b) (k : x = y) : Ending.returned (.tuple #[.string a, .int .i64 x]) = .returned (.tuple #[.string b, .int .i64 y]) := by rw [h, k]

end Go.Proofs.YtnbpdffdnphbeaaGreat

/- What Lines of the document's answer gives of a text: each line as a piece of the row of tokens. -/
namespace Go.Proofs.YtnbpdffdnphbeaaGreat
open Go.RowKit

/-- The cell of a line. -/
def rlineV (g cap : Nat) (p : Nat × Nat) : Value := .slice (some ⟨g, p.1 * 3, none⟩) p.2 (cap - p.1)

theorem owns_base {w : World} {b b' : Nat} {e : TypeId} {size : Nat} {v : Value} {n : Nat} {xs : List Value} (h : w.ownsRow b e size v n xs) (hb : b' ≤ b) : w.ownsRow b' e size v n xs := by
  refine ⟨h.1, ?_⟩
  rcases h.2 with h1 | ⟨g, cap, cur, h1, h2, r⟩
  · exact .inl h1
  · exact .inr ⟨g, cap, cur, h1, Nat.le_trans hb h2, r⟩

theorem SegR.below {w w' : World} {g o B : Nat} {ts : Toks} (h : SegR w g o ts) (hb : Below B w w') (hg : g < B) : SegR w' g o ts := by
  intro i hi
  obtain ⟨a, b, c⟩ := h i hi
  exact ⟨by rw [hb.cell (p := ⟨g, _, none⟩) hg]; exact a, by rw [hb.cell (p := ⟨g, _, none⟩) hg]; exact b, by rw [hb.cell (p := ⟨g, _, none⟩) hg]; exact c⟩

theorem own_block_le {w : World} {B : Nat} {e : TypeId} {size : Nat} {v : Value} {n : Nat} {xs : List Value} (hown : w.ownsRow B e size v n xs) : ∀ k, v.ownBlock = some k → B ≤ k := by
  intro k hk
  rcases hown.2 with ⟨h1, _⟩ | ⟨g, cap, cur, h1, h2, _⟩
  · rw [h1] at hk; simp [Value.ownBlock] at hk
  · rw [h1] at hk; simp [Value.ownBlock] at hk; omega

end Go.Proofs.YtnbpdffdnphbeaaGreat

/- What Tidy of the document's answer gives of a text. -/
namespace Go.Proofs.YtnbpdffdnphbeaaGreat
open Go.RowKit

theorem segT_len {ts : Toks} {p : Nat × Nat} (h : p.1 + p.2 < ts.length) : (segT ts p).length = p.2 := by
  unfold segT; rw [List.length_take, List.length_drop]; omega

theorem szT_segT (ts : Toks) (p : Nat × Nat) : szT (segT ts p) ≤ szT ts := Nat.le_trans (szT_take_le _ _) (szT_drop_le _ _)

theorem ret_pairC {a : ByteArray} {b : Bs} {x : Int} (h : a = ⟨b.toArray⟩) : Ending.returned (.tuple #[.string a, .int .i64 x]) = .returned (.tuple #[.string ⟨b.toArray⟩, .int .i64 x]) := by rw [h]

/-- Tidy's answer by the document: the text, and the error. -/
def tidyB (n : Nat) (l : Bs) : Bs × Int := if 4000 < l.length then ([], 1) else if 0 ≤ formB l then ([], 2) else (tidyT n l, 0)

end Go.Proofs.YtnbpdffdnphbeaaGreat

/- What Tidy of the program gives, if what is plain holds of the text. -/
namespace Go.Proofs.YtnbpdffdnphbeaaGreat
open Go.RowKit

def textL2 : List PLine → WSt → WSt
  | [], st => st
  | x :: r, st => textL2 r (wLine x st)
theorem textG2_map (ls : List LX) : ∀ st, textG2 ls st = textL2 (ls.map Prod.fst) st := by
  induction ls with
  | nil => intro st; rfl
  | cons x r ih => intro st; rw [textG2, List.map_cons, textL2, ih]

/-- What is plain of a text of at most 4000 bytes: the reader fails just where the document's form does, and what is written is the document's text. -/
structure PureT (n : Nat) (l : Bs) : Prop where
  fails : (readB l).2.2 = true → 0 ≤ formB l
  reads : (readB l).2.2 = false → formB l < 0
  good : (readB l).2.2 = false → ∀ x ∈ (readB l).1, GoodP x
  many : (readB l).1.length ≤ 10000
  text : (readB l).2.2 = false → (textL2 (readB l).1 ([], false)).1 = tidyT n l
  short : (tidyT n l).length ≤ bigW
  goodR : formB l < 0 → ∀ p ∈ linesB (toksAt l 0), goodL n (segT (toksAt l 0) p)

theorem tidyB_long {n : Nat} {l : Bs} (h : 4000 < l.length) : tidyB n l = ([], 1) := by unfold tidyB; rw [if_pos h]
theorem tidyB_form {n : Nat} {l : Bs} (h : ¬ 4000 < l.length) (h2 : 0 ≤ formB l) : tidyB n l = ([], 2) := by unfold tidyB; rw [if_neg h, if_pos h2]
theorem tidyB_ok {n : Nat} {l : Bs} (h : ¬ 4000 < l.length) (h2 : formB l < 0) : tidyB n l = (tidyT n l, 0) := by unfold tidyB; rw [if_neg h, if_neg (by omega)]

def PowVar (w : World) : Prop := Tab w ∧ ∃ g, Tryz.prog.globalNamed "internal/strconv.uint64pow10" = some g ∧ g < w.heap.size

end Go.Proofs.YtnbpdffdnphbeaaGreat
