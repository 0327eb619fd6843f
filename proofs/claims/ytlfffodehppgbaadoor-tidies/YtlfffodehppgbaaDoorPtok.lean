/- Plain functions: the tokens as the program lays them. -/
import Derived.Test.YtlfffodehppgbaaDoorLex4
import Derived.WalkKit
namespace Go.Proofs.YtlfffodehppgbaaDoor
open Go

def keptL : List Bs := [[110, 117, 109], [102, 108, 97, 103], [114, 117, 108, 101], [111, 118, 101, 114], [119, 104, 101, 110], [111, 114], [97, 110, 100], [110, 111, 116], [104, 97, 115], [97, 108, 119, 97, 121, 115]]
def markL : List Bs := [[58], [61], [46, 46], [59], [40], [41], [60], [60, 61], [33, 61], [62, 61], [62], [43], [45], [42]]
def isKeptB (s : Bs) : Bool := keptL.contains s
def isMarkB (s : Bs) : Bool := markL.contains s

def valF : Int → Bs → Int
  | a, [] => a
  | a, c :: r => valF (10 * a + ((c.toNat : Int) - 48)) r

/-- The kinds of the program's tokens: 1 bad, 2 a name, 3 a number, 4 a kept word or a mark. -/
def pkind (s : Bs) : Int :=
  if so (s.getD 0 0) = 1 then (if 8 < s.length then 1 else if isKeptB s = true then 4 else 2)
  else if so (s.getD 0 0) = 2 then (if 4 < s.length ∨ 1 < s.length ∧ s.getD 0 0 = 48 then 1 else 3)
  else if isMarkB s = true then 4 else 1

def pval (s : Bs) : Int := if pkind s = 3 then valF 0 s else 0

/-- The cells of a token, as the program lays it. -/
def ptok (t : Nat × Bs) : List Value := [.int .i64 (pkind t.2), .string ⟨t.2.toArray⟩, .int .i64 (pval t.2), .int .i64 t.1]
def endTok (len : Nat) : List Value := [.int .i64 0, .string ⟨#[]⟩, .int .i64 0, .int .i64 len]
def flatP (ts : Toks) : List Value := ts.flatMap ptok

theorem flatP_len (ts : Toks) : (flatP ts).length = ts.length * 4 := by
  induction ts with
  | nil => rfl
  | cons t r ih => simp [flatP, ptok] at ih ⊢; omega
theorem flatP_snoc (ts : Toks) (t : Nat × Bs) : flatP (ts ++ [t]) = flatP ts ++ ptok t := by simp [flatP]

end Go.Proofs.YtlfffodehppgbaaDoor
