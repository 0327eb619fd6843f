/- What Form of the document's answer gives of a text: the place of what can't stand, or -1. -/
import Derived.Test.YtnbpdffdnphbeaaGreatDoorTokens
import Derived.Test.YtnbpdffdnphbeaaGreatDoorLex
namespace Go.Proofs.YtnbpdffdnphbeaaGreatDoor
open Go.RowKit

/-- Tokens lie in block g from place o on. -/
def SegR (w : World) (g o : Nat) (ts : List (Nat × Bs)) : Prop := ∀ i, i < ts.length →
  w.cell? ⟨g, o + i * 3, none⟩ = some (.string ⟨(ts.getD i (0, [])).2.toArray⟩) ∧ w.cell? ⟨g, o + i * 3 + 1, none⟩ = some (.int .i64 (ts.getD i (0, [])).1) ∧ w.cell? ⟨g, o + i * 3 + 2, none⟩ = some (.string ⟨(clsB (ts.getD i (0, [])).2).toArray⟩)

theorem Folw.below {w w' : World} (h : Folw w) (hb : Below w.heap.size w w') : Folw w' := by
  have h0 : 0 < w.heap.size := by
    have := h 0 (by omega)
    rcases Nat.eq_zero_or_pos w.heap.size with h1 | h1
    · rw [World.cell?, Array.getElem?_eq_none (by simpa using h1)] at this; cases this
    · exact h1
  intro j hj
  rw [hb.cell (p := ⟨0, j, none⟩) h0]; exact h j hj

end Go.Proofs.YtnbpdffdnphbeaaGreatDoor

/- Plain functions on tokens: where a word stands outside of brackets, tokens with a blank between, what a guard becomes. -/
namespace Go.Proofs.YtnbpdffdnphbeaaGreatDoor

abbrev Toks := List (Nat × Bs)

/-- The brackets that are open behind a token. -/
def opn (cl : Bs) (op : Int) : Int := if cl = kOpen then op + 1 else if cl = kShut then op - 1 else op

def outG (word : Bs) : Toks → Nat → Int → Int → Int
  | [], _, _, at' => at'
  | t :: r, i, op, at' => outG word r (i + 1) (opn (clsB t.2) op) (if opn (clsB t.2) op = 0 ∧ clsB t.2 = word then (i : Int) else at')

/-- The last place at which a word stands outside of brackets, or -1. -/
def outB (ts : Toks) (word : Bs) : Int := outG word ts 0 0 (-1)

theorem outG_bound (word : Bs) (ts : Toks) : ∀ (i : Nat) (op at' : Int), -1 ≤ at' → at' < i → -1 ≤ outG word ts i op at' ∧ outG word ts i op at' < i + ts.length := by
  induction ts with
  | nil => intro i op a h1 h2; simp [outG]; omega
  | cons t r ih =>
    intro i op a h1 h2
    rw [outG]
    have := ih (i + 1) (opn (clsB t.2) op) (if opn (clsB t.2) op = 0 ∧ clsB t.2 = word then (i : Int) else a) (by split <;> omega) (by split <;> omega)
    simp only [List.length_cons]
    omega

theorem outB_bound (ts : Toks) (word : Bs) : -1 ≤ outB ts word ∧ outB ts word < ts.length := by
  have := outG_bound word ts 0 0 (-1) (by omega) (by omega)
  unfold outB; omega

def gluF : Bs → Nat → Toks → Bs
  | s, _, [] => s
  | s, i, t :: r => gluF ((if 0 < i then s ++ [32] else s) ++ t.2) (i + 1) r

/-- Tokens with a blank between each two. -/
def gluedB (ts : Toks) : Bs := gluF [] 0 ts

/-- How many bytes tokens and blanks between them take at most. -/
def szT : Toks → Nat
  | [] => 0
  | t :: r => t.2.length + 1 + szT r

theorem szT_append (a b : Toks) : szT (a ++ b) = szT a + szT b := by
  induction a with
  | nil => simp [szT]
  | cons t r ih => simp [szT, ih]; omega

theorem szT_take_drop (ts : Toks) (k : Nat) : szT (ts.take k) + szT (ts.drop k) = szT ts := by
  rw [← szT_append, List.take_append_drop]

theorem szT_drop_le (ts : Toks) (k : Nat) : szT (ts.drop k) ≤ szT ts := by have := szT_take_drop ts k; omega
theorem szT_take_le (ts : Toks) (k : Nat) : szT (ts.take k) ≤ szT ts := by have := szT_take_drop ts k; omega

theorem gluF_len (ts : Toks) : ∀ (s : Bs) (i : Nat), (gluF s i ts).length ≤ s.length + szT ts := by
  induction ts with
  | nil => intro s i; simp [gluF, szT]
  | cons t r ih =>
    intro s i
    rw [gluF]
    have h1 := ih ((if 0 < i then s ++ [32] else s) ++ t.2) (i + 1)
    have h2 : ((if 0 < i then s ++ [32] else s) ++ t.2).length ≤ s.length + 1 + t.2.length := by
      split <;> simp <;> omega
    simp only [szT]
    omega

def kNot : Bs := [110, 111, 116]
def kWhen : Bs := [119, 104, 101, 110]
def kRule : Bs := [114, 117, 108, 101]

/-- Text in brackets. -/
def brk (s : Bs) : Bs := [40, 32] ++ s ++ [32, 41]

/-- What a guard becomes, and its kind: 0 plain, 1 an and-text, 2 an or-text. -/
def tidG : Nat → Toks → Bs × Int
  | 0, _ => ([], 0)
  | n + 1, ts =>
    if 0 ≤ outB ts kOr then ((tidG n (ts.take (outB ts kOr).toNat)).1 ++ [32, 111, 114, 32] ++ (tidG n (ts.drop ((outB ts kOr).toNat + 1))).1, 2)
    else if 0 ≤ outB ts kAnd then
      let a := tidG n (ts.take (outB ts kAnd).toNat)
      let b := tidG n (ts.drop ((outB ts kAnd).toNat + 1))
      ((if a.2 = 2 then brk a.1 else a.1) ++ [32, 97, 110, 100, 32] ++ (if b.2 = 2 then brk b.1 else b.1), 1)
    else if clsB (ts.getD 0 (0, [])).2 = kNot then
      let a := tidG n (ts.drop 1)
      ([110, 111, 116, 32] ++ (if 0 < a.2 then brk a.1 else a.1), 0)
    else if clsB (ts.getD 0 (0, [])).2 = kOpen then tidG n ((ts.drop 1).take (ts.length - 2))
    else (gluedB ts, 0)

def whenG : Toks → Nat → Option Nat
  | [], _ => none
  | t :: r, i => if clsB t.2 = kWhen then some i else whenG r (i + 1)

/-- The place of the word when, or the last place. -/
def whenB (ts : Toks) : Int := match whenG ts 0 with | some i => (i : Int) | none => (ts.length : Int) - 1

end Go.Proofs.YtnbpdffdnphbeaaGreatDoor

/- What outside, glued and when of the document's answer give of tokens that lie in memory. -/
namespace Go.Proofs.YtnbpdffdnphbeaaGreatDoor
open Go.RowKit

theorem cat_mk (a b : Bs) : (ByteArray.mk a.toArray) ++ (ByteArray.mk b.toArray) = ⟨(a ++ b).toArray⟩ := by
  apply ByteArray.ext
  simp

end Go.Proofs.YtnbpdffdnphbeaaGreatDoor

/- Plain facts on what a guard becomes: which tokens are good for it, how long it gets. -/
namespace Go.Proofs.YtnbpdffdnphbeaaGreatDoor

/-- Tokens over which the document's way of tidying never comes to nothing. -/
def goodT : Nat → Toks → Bool
  | 0, _ => false
  | n + 1, ts =>
    if 0 ≤ outB ts kOr then goodT n (ts.take (outB ts kOr).toNat) && goodT n (ts.drop ((outB ts kOr).toNat + 1))
    else if 0 ≤ outB ts kAnd then goodT n (ts.take (outB ts kAnd).toNat) && goodT n (ts.drop ((outB ts kAnd).toNat + 1))
    else if clsB (ts.getD 0 (0, [])).2 = kNot then decide (0 < ts.length) && goodT n (ts.drop 1)
    else if clsB (ts.getD 0 (0, [])).2 = kOpen then decide (2 < ts.length) && goodT n ((ts.drop 1).take (ts.length - 2))
    else decide (0 < ts.length)

theorem szT_split (ts : Toks) (k : Nat) (h : k < ts.length) : szT (ts.take k) + 1 + szT (ts.drop (k + 1)) ≤ szT ts := by
  have h1 := szT_take_drop ts k
  rw [drop_consT ts k h, szT] at h1
  omega

theorem tidG_len (n : Nat) : ∀ ts : Toks, (tidG n ts).1.length ≤ 16 * szT ts := by
  induction n with
  | zero => intro ts; simp [tidG]
  | succ n ih =>
    intro ts
    have bo := outB_bound ts kOr
    have ba := outB_bound ts kAnd
    rw [tidG]
    split
    · have h1 := ih (ts.take (outB ts kOr).toNat); have h2 := ih (ts.drop ((outB ts kOr).toNat + 1))
      have h3 := szT_split ts (outB ts kOr).toNat (by omega)
      simp only [List.length_append, List.length_cons, List.length_nil]; omega
    · split
      · have h1 := ih (ts.take (outB ts kAnd).toNat); have h2 := ih (ts.drop ((outB ts kAnd).toNat + 1))
        have h3 := szT_split ts (outB ts kAnd).toNat (by omega)
        have h4 : ∀ (c : Prop) [Decidable c] (a : Bs), (if c then brk a else a).length ≤ a.length + 4 := by
          intro c _ a; split <;> simp [brk]
        have h5 := h4 ((tidG n (ts.take (outB ts kAnd).toNat)).2 = 2) (tidG n (ts.take (outB ts kAnd).toNat)).1
        have h6 := h4 ((tidG n (ts.drop ((outB ts kAnd).toNat + 1))).2 = 2) (tidG n (ts.drop ((outB ts kAnd).toNat + 1))).1
        simp only [List.length_append, List.length_cons, List.length_nil]; omega
      · split
        · rename_i hn
          have h1 := ih (ts.drop 1)
          have h4 : ∀ (c : Prop) [Decidable c] (a : Bs), (if c then brk a else a).length ≤ a.length + 4 := by
            intro c _ a; split <;> simp [brk]
          have h5 := h4 (0 < (tidG n (ts.drop 1)).2) (tidG n (ts.drop 1)).1
          have h0 : 0 < ts.length := by
            cases ts with
            | nil => revert hn; decide
            | cons t r => simp
          have h3 := szT_split ts 0 h0
          simp only [List.length_append, List.length_cons, List.length_nil, Nat.zero_add] at h3 ⊢; omega
        · split
          · have h1 := ih ((ts.drop 1).take (ts.length - 2))
            have h2 := szT_take_le (ts.drop 1) (ts.length - 2); have h3 := szT_drop_le ts 1
            omega
          · have := gluF_len ts [] 0; simp only [gluedB]; simp at this; omega

end Go.Proofs.YtnbpdffdnphbeaaGreatDoor

/- What tidied of the document's answer gives of the tokens of a guard: the text and its kind. -/
namespace Go.Proofs.YtnbpdffdnphbeaaGreatDoor
open Go.RowKit

theorem SegR.drop {w : World} {g o : Nat} {ts : Toks} (h : SegR w g o ts) (k : Nat) : SegR w g (o + k * 3) (ts.drop k) := by
  intro i hi
  have hi' : k + i < ts.length := by rw [List.length_drop] at hi; omega
  obtain ⟨a, b, c⟩ := h (k + i) hi'
  have e : (ts.drop k).getD i (0, []) = ts.getD (k + i) (0, []) := by simp [List.getD]
  rw [e, show o + k * 3 + i * 3 = o + (k + i) * 3 by omega]
  exact ⟨a, b, c⟩
theorem SegR.take {w : World} {g o : Nat} {ts : Toks} (h : SegR w g o ts) (k : Nat) : SegR w g o (ts.take k) := by
  intro i hi
  rw [List.length_take] at hi
  obtain ⟨a, b, c⟩ := h i (by omega)
  have e : (ts.take k).getD i (0, []) = ts.getD i (0, []) := by simp only [List.getD, List.getElem?_take]; rw [if_pos (by omega)]
  rw [e]
  exact ⟨a, b, c⟩

end Go.Proofs.YtnbpdffdnphbeaaGreatDoor
