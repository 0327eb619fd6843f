/- Plain functions on tokens: where a word stands outside of brackets, tokens with a blank between, what a guard becomes. -/
import Derived.Test.YtlfffodehppgbaaDoorLex
namespace Go.Proofs.YtlfffodehppgbaaDoor

abbrev Toks := List (Nat × Bs)

/-- The brackets that are open behind a token. -/
def opn (cl : Bs) (op : Int) : Int := if cl = kOpen then op + 1 else if cl = kShut then op - 1 else op

def outG (word : Bs) : Toks → Nat → Int → Int → Int
  | [], _, _, at' => at'
  | t :: r, i, op, at' => outG word r (i + 1) (opn (clsB t.2) op) (if opn (clsB t.2) op = 0 ∧ clsB t.2 = word then (i : Int) else at')

/-- The last place at which a word stands outside of brackets, or -1. -/
def outB (ts : Toks) (word : Bs) : Int := outG word ts 0 0 (-1)

theorem outG_bound (word : Bs) (ts : Toks) : ∀ (i : Nat) (op at' : Int), -1 ≤ at' → at' < i → -1 ≤ outG word ts i op at' ∧ outG word ts i op at' < i + ts.length := by
  induction ts with
  | nil => intro i op a h1 h2; simp [outG]; omega
  | cons t r ih =>
    intro i op a h1 h2
    rw [outG]
    have := ih (i + 1) (opn (clsB t.2) op) (if opn (clsB t.2) op = 0 ∧ clsB t.2 = word then (i : Int) else a) (by split <;> omega) (by split <;> omega)
    simp only [List.length_cons]
    omega

theorem outB_bound (ts : Toks) (word : Bs) : -1 ≤ outB ts word ∧ outB ts word < ts.length := by
  have := outG_bound word ts 0 0 (-1) (by omega) (by omega)
  unfold outB; omega

def gluF : Bs → Nat → Toks → Bs
  | s, _, [] => s
  | s, i, t :: r => gluF ((if 0 < i then s ++ [32] else s) ++ t.2) (i + 1) r

/-- Tokens with a blank between each two. -/
def gluedB (ts : Toks) : Bs := gluF [] 0 ts

/-- How many bytes tokens and blanks between them take at most. -/
def szT : Toks → Nat
  | [] => 0
  | t :: r => t.2.length + 1 + szT r

theorem szT_append (a b : Toks) : szT (a ++ b) = szT a + szT b := by
  induction a with
  | nil => simp [szT]
  | cons t r ih => simp [szT, ih]; omega

theorem szT_take_drop (ts : Toks) (k : Nat) : szT (ts.take k) + szT (ts.drop k) = szT ts := by
  rw [← szT_append, List.take_append_drop]

theorem szT_drop_le (ts : Toks) (k : Nat) : szT (ts.drop k) ≤ szT ts := by have := szT_take_drop ts k; omega
theorem szT_take_le (ts : Toks) (k : Nat) : szT (ts.take k) ≤ szT ts := by have := szT_take_drop ts k; omega

theorem gluF_len (ts : Toks) : ∀ (s : Bs) (i : Nat), (gluF s i ts).length ≤ s.length + szT ts := by
  induction ts with
  | nil => intro s i; simp [gluF, szT]
  | cons t r ih =>
    intro s i
    rw [gluF]
    have h1 := ih ((if 0 < i then s ++ [32] else s) ++ t.2) (i + 1)
    have h2 : ((if 0 < i then s ++ [32] else s) ++ t.2).length ≤ s.length + 1 + t.2.length := by
      split <;> simp <;> omega
    simp only [szT]
    omega

theorem szT_len (ts : Toks) : ts.length ≤ szT ts := by
  induction ts with
  | nil => simp [szT]
  | cons t r ih => simp [szT]; omega

def kNot : Bs := [110, 111, 116]
def kWhen : Bs := [119, 104, 101, 110]
def kRule : Bs := [114, 117, 108, 101]

/-- Text in brackets. -/
def brk (s : Bs) : Bs := [40, 32] ++ s ++ [32, 41]

/-- What a guard becomes, and its kind: 0 plain, 1 an and-text, 2 an or-text. -/
def tidG : Nat → Toks → Bs × Int
  | 0, _ => ([], 0)
  | n + 1, ts =>
    if 0 ≤ outB ts kOr then ((tidG n (ts.take (outB ts kOr).toNat)).1 ++ [32, 111, 114, 32] ++ (tidG n (ts.drop ((outB ts kOr).toNat + 1))).1, 2)
    else if 0 ≤ outB ts kAnd then
      let a := tidG n (ts.take (outB ts kAnd).toNat)
      let b := tidG n (ts.drop ((outB ts kAnd).toNat + 1))
      ((if a.2 = 2 then brk a.1 else a.1) ++ [32, 97, 110, 100, 32] ++ (if b.2 = 2 then brk b.1 else b.1), 1)
    else if clsB (ts.getD 0 (0, [])).2 = kNot then
      let a := tidG n (ts.drop 1)
      ([110, 111, 116, 32] ++ (if 0 < a.2 then brk a.1 else a.1), 0)
    else if clsB (ts.getD 0 (0, [])).2 = kOpen then tidG n ((ts.drop 1).take (ts.length - 2))
    else (gluedB ts, 0)

def whenG : Toks → Nat → Option Nat
  | [], _ => none
  | t :: r, i => if clsB t.2 = kWhen then some i else whenG r (i + 1)

/-- The place of the word when, or the last place. -/
def whenB (ts : Toks) : Int := match whenG ts 0 with | some i => (i : Int) | none => (ts.length : Int) - 1

end Go.Proofs.YtlfffodehppgbaaDoor
