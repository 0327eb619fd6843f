/- Plain functions on bytes: how a text falls into tokens, and what class each token has. Nothing of the program is named here. -/
import Derived.Laws.Strings2
import Derived.Test.YtnbpdffdnphbeaaGreatDoorProg
import Derived.WalkKit
import Derived.WalkSpells
import Derived.WalkLawsBesides
namespace Go.Proofs.YtnbpdffdnphbeaaGreatDoor

def blankI (c : Int) : Bool := c == 32 || c == 10
def letterI (c : Int) : Bool := decide (97 ≤ c) && decide (c ≤ 122)
def digitI (c : Int) : Bool := decide (48 ≤ c) && decide (c ≤ 57)
def sortI (c : Int) : Int := if 97 ≤ c ∧ c ≤ 122 then 1 else if 48 ≤ c ∧ c ≤ 57 then 2 else if c = 32 ∨ c = 10 then 3 else 0

abbrev Bs := List UInt8

theorem idx_mk (l : Bs) (k : Nat) (h : k < (ByteArray.mk l.toArray).size) : (ByteArray.mk l.toArray)[k] = l.getD k 0 := by
  have h' : k < l.length := by have h1 : k < l.toArray.size := h; simpa using h1
  have e : (ByteArray.mk l.toArray)[k] = l.toArray[k]'(by simpa using h') := rfl
  rw [e]; simp [List.getD, h']

theorem byte_eq (c d : UInt8) : (((c.toNat : Int) == (d.toNat : Int)) = true) ↔ c = d := by
  rw [beq_iff_eq]
  constructor
  · intro h; exact UInt8.toNat_inj.1 (by omega)
  · intro h; rw [h]

def amG (l s : Bs) : Nat → Nat → Nat → Bool
  | 0, _, _ => false
  | n + 1, a, i => if i = l.length ∨ l.getD i 0 = 32 then (if (l.drop a).take (i - a) = s then true else amG l s n (i + 1) (i + 1)) else amG l s n a (i + 1)

def amongB (l s : Bs) : Bool := amG l s (l.length + 1) 0 0

/-- The sort of a byte. -/
def so (c : UInt8) : Int := sortI (c.toNat : Int)

/-- How many bytes of a sort stand at the head. -/
def runL (k : Int) : Bs → Nat
  | [] => 0
  | c :: r => if so c = k then runL k r + 1 else 0

theorem runL_le (k : Int) (l : Bs) : runL k l ≤ l.length := by
  induction l with
  | nil => simp [runL]
  | cons c r ih => simp only [runL]; split <;> simp <;> omega

theorem drop_cons (l : Bs) (k : Nat) (h : k < l.length) : l.drop k = l.getD k 0 :: l.drop (k + 1) := by
  rw [List.drop_eq_getElem_cons h]; simp [List.getD, h]

theorem runL_on {k : Int} {l : Bs} {i : Nat} (h : i < l.length) (he : so (l.getD i 0) = k) : i + runL k (l.drop i) = (i + 1) + runL k (l.drop (i + 1)) := by
  rw [drop_cons l i h, runL, if_pos he]; omega
theorem runL_off {k : Int} {l : Bs} {i : Nat} (h : i < l.length) (he : ¬ so (l.getD i 0) = k) : i + runL k (l.drop i) = i := by
  rw [drop_cons l i h, runL, if_neg he]; omega
theorem runL_end {k : Int} {l : Bs} {i : Nat} (h : ¬ i < l.length) : i + runL k (l.drop i) = i := by
  rw [List.drop_eq_nil_of_le (by omega)]; rfl

def twoMarks : Bs := [46, 46, 32, 60, 61, 32, 33, 61, 32, 62, 61]
def keptWords : Bs := [110, 117, 109, 32, 102, 108, 97, 103, 32, 114, 117, 108, 101, 32, 111, 118, 101, 114, 32, 119, 104, 101, 110, 32, 111, 114, 32, 97, 110, 100, 32, 110, 111, 116, 32, 104, 97, 115, 32, 97, 108, 119, 97, 121, 115]
def allMarks : Bs := [58, 32, 61, 32, 46, 46, 32, 59, 32, 40, 32, 41, 32, 60, 32, 60, 61, 32, 33, 61, 32, 62, 61, 32, 62, 32, 43, 32, 45, 32, 42]

/-- The first two bytes are one mark. -/
def twoB (l : Bs) : Bool := decide (1 < l.length) && amongB twoMarks (l.take 2)

/-- The length of the token at the head of a text that is not empty. -/
def lenB (l : Bs) : Nat := if so (l.getD 0 0) = 0 then (if twoB l = true then 2 else 1) else 1 + runL (so (l.getD 0 0)) (l.drop 1)

theorem lenB_pos (l : Bs) : 1 ≤ lenB l := by unfold lenB; split <;> (try split) <;> omega
theorem lenB_le {l : Bs} (h : 0 < l.length) : lenB l ≤ l.length := by
  unfold lenB
  split
  · split
    · rename_i _ h2; simp [twoB] at h2; omega
    · omega
  · have := runL_le (so (l.getD 0 0)) (l.drop 1); rw [List.length_drop] at this; omega

def badB : Bs := [66, 65, 68]
def nameB : Bs := [78, 65, 77, 69]
def numberB : Bs := [78, 85, 77, 66, 69, 82]

/-- The class of a token that is not empty. -/
def clsB (l : Bs) : Bs :=
  if so (l.getD 0 0) = 1 then (if 8 < l.length then badB else if amongB keptWords l = true then l else nameB)
  else if so (l.getD 0 0) = 2 then (if 4 < l.length ∨ 1 < l.length ∧ l.getD 0 0 = 48 then badB else numberB)
  else if amongB allMarks l = true then l else badB

/-- The tokens of a text, each with its place. -/
def pieces : Nat → Bs → Nat → List (Nat × Bs)
  | 0, _, _ => []
  | n + 1, l, p => if l.length = 0 then [] else if so (l.getD 0 0) = 3 then pieces n (l.drop 1) (p + 1) else (p, l.take (lenB l)) :: pieces n (l.drop (lenB l)) (p + lenB l)

theorem pieces_nil (n p : Nat) : pieces n [] p = [] := by cases n <;> simp [pieces]

theorem pieces_fuel (n : Nat) : ∀ (m : Nat) (l : Bs) (p : Nat), l.length ≤ n → l.length ≤ m → pieces n l p = pieces m l p := by
  induction n with
  | zero => intro m l p h _; have : l = [] := List.eq_nil_of_length_eq_zero (by omega); subst this; rw [pieces_nil, pieces_nil]
  | succ n ih =>
    intro m l p hn hm
    cases m with
    | zero => have : l = [] := List.eq_nil_of_length_eq_zero (by omega); subst this; rw [pieces_nil, pieces_nil]
    | succ m =>
      simp only [pieces]
      split
      · rfl
      · have := lenB_pos l
        rw [ih m (l.drop 1) _ (by simp; omega) (by simp; omega), ih m (l.drop (lenB l)) _ (by simp; omega) (by simp; omega)]

/-- The tokens from a place on. -/
def toksAt (l : Bs) (p : Nat) : List (Nat × Bs) := pieces l.length (l.drop p) p

theorem toksAt_end {l : Bs} {p : Nat} (h : ¬ p < l.length) : toksAt l p = [] := by
  unfold toksAt; rw [List.drop_eq_nil_of_le (by omega), pieces_nil]

theorem getD_drop (l : Bs) (p i : Nat) : (l.drop p).getD i 0 = l.getD (p + i) 0 := by simp [List.getD]

theorem toksAt_blank {l : Bs} {p : Nat} (h : p < l.length) (hb : so (l.getD p 0) = 3) : toksAt l p = toksAt l (p + 1) := by
  unfold toksAt
  rw [pieces_fuel l.length (l.length + 1) (l.drop p) p (by simp) (by simp; omega), pieces, if_neg (by simp; omega), if_pos (by rw [getD_drop]; exact hb), List.drop_drop]

theorem toksAt_tok {l : Bs} {p : Nat} (h : p < l.length) (hb : ¬ so (l.getD p 0) = 3) : toksAt l p = (p, (l.drop p).take (lenB (l.drop p))) :: toksAt l (p + lenB (l.drop p)) := by
  unfold toksAt
  rw [pieces_fuel l.length (l.length + 1) (l.drop p) p (by simp) (by simp; omega), pieces, if_neg (by simp; omega), if_neg (by rw [getD_drop]; exact hb), List.drop_drop]

theorem pieces_len (n : Nat) : ∀ (l : Bs) (p : Nat), (pieces n l p).length ≤ l.length := by
  induction n with
  | zero => intro l p; simp [pieces]
  | succ n ih =>
    intro l p
    simp only [pieces]
    split
    · simp
    · split
      · have := ih (l.drop 1) (p + 1); simp at this ⊢; omega
      · have h1 := ih (l.drop (lenB l)) (p + lenB l); have h2 := lenB_pos l
        rw [List.length_cons]; rw [List.length_drop] at h1; omega

theorem toksAt_len (l : Bs) (p : Nat) : (toksAt l p).length ≤ l.length := by
  have := pieces_len l.length (l.drop p) p; unfold toksAt; simp at this; omega

/-- The document's table: from where, by which class, one gets where; its words one behind the other. -/
def folL : List Bs := [[108, 105, 110, 101], [110, 117, 109], [110, 117, 109], [110, 117, 109], [78, 65, 77, 69], [102, 114, 111, 109], [102, 114, 111, 109], [78, 85, 77, 66, 69, 82], [116, 111], [116, 111], [46, 46], [116, 105, 108, 108], [116, 105, 108, 108], [78, 85, 77, 66, 69, 82], [101, 110, 100], [108, 105, 110, 101], [102, 108, 97, 103], [108, 97, 115, 116], [108, 97, 115, 116], [78, 65, 77, 69], [101, 110, 100], [108, 105, 110, 101], [111, 118, 101, 114], [111, 118, 101, 114], [111, 118, 101, 114], [78, 65, 77, 69], [108, 97, 115, 116], [101, 110, 100], [59], [108, 105, 110, 101], [108, 105, 110, 101], [114, 117, 108, 101], [114, 117, 108, 101], [114, 117, 108, 101], [78, 65, 77, 69], [108, 97, 98, 101, 108], [108, 97, 98, 101, 108], [58], [99, 111, 108, 111, 110], [99, 111, 108, 111, 110], [78, 65, 77, 69], [104, 101, 97, 100], [104, 101, 97, 100], [61], [112, 97, 114, 116], [112, 97, 114, 116], [78, 65, 77, 69], [112, 97, 114, 116, 101, 100], [112, 97, 114, 116], [78, 85, 77, 66, 69, 82], [99, 111, 117, 110, 116, 101, 100], [99, 111, 117, 110, 116, 101, 100], [42], [116, 105, 109, 101, 115], [99, 111, 117, 110, 116, 101, 100], [43], [112, 97, 114, 116], [99, 111, 117, 110, 116, 101, 100], [45], [112, 97, 114, 116], [99, 111, 117, 110, 116, 101, 100], [119, 104, 101, 110], [102, 97, 99, 116], [116, 105, 109, 101, 115], [78, 65, 77, 69], [112, 97, 114, 116, 101, 100], [112, 97, 114, 116, 101, 100], [43], [112, 97, 114, 116], [112, 97, 114, 116, 101, 100], [45], [112, 97, 114, 116], [112, 97, 114, 116, 101, 100], [119, 104, 101, 110], [102, 97, 99, 116], [102, 97, 99, 116], [110, 111, 116], [102, 97, 99, 116], [102, 97, 99, 116], [40], [102, 97, 99, 116], [102, 97, 99, 116], [97, 108, 119, 97, 121, 115], [100, 111, 110, 101], [102, 97, 99, 116], [104, 97, 115], [104, 97, 115], [102, 97, 99, 116], [78, 65, 77, 69], [110, 97, 109, 101, 100], [104, 97, 115], [78, 65, 77, 69], [100, 111, 110, 101], [110, 97, 109, 101, 100], [60], [116, 104, 97, 110], [110, 97, 109, 101, 100], [60, 61], [116, 104, 97, 110], [110, 97, 109, 101, 100], [61], [116, 104, 97, 110], [110, 97, 109, 101, 100], [33, 61], [116, 104, 97, 110], [110, 97, 109, 101, 100], [62, 61], [116, 104, 97, 110], [110, 97, 109, 101, 100], [62], [116, 104, 97, 110], [116, 104, 97, 110], [78, 65, 77, 69], [100, 111, 110, 101], [116, 104, 97, 110], [78, 85, 77, 66, 69, 82], [100, 111, 110, 101], [100, 111, 110, 101], [111, 114], [102, 97, 99, 116], [100, 111, 110, 101], [97, 110, 100], [102, 97, 99, 116], [100, 111, 110, 101], [41], [100, 111, 110, 101], [100, 111, 110, 101], [59], [108, 105, 110, 101]]

def lookF (st cl : Bs) : Nat → Nat → Bs
  | 0, _ => []
  | n + 1, i => if folL.getD (i * 3) [] = st ∧ folL.getD (i * 3 + 1) [] = cl then folL.getD (i * 3 + 2) [] else lookF st cl n (i + 1)

def sLine : Bs := [108, 105, 110, 101]
def sNamed : Bs := [110, 97, 109, 101, 100]
def sDone : Bs := [100, 111, 110, 101]
def kOr : Bs := [111, 114]
def kAnd : Bs := [97, 110, 100]
def kShut : Bs := [41]
def kOpen : Bs := [40]
def kEnd : Bs := [59]

/-- Where one gets from a state by a class, in so many open brackets. -/
def nextB (st cl : Bs) (op : Int) : Bs :=
  let st' := if st = sNamed ∧ (cl = kOr ∨ cl = kAnd ∨ cl = kShut ∨ cl = kEnd) then sDone else st
  if st' = sDone ∧ (cl = kShut ∧ op = 0 ∨ cl = kEnd ∧ 0 < op) then [] else lookF st' cl 43 0

/-- The place of what can't stand, among the tokens that are left; -1: nothing. -/
def formTo (len : Int) : List (Nat × Bs) → Bs → Int → Int
  | [], st, _ => if st = sLine then -1 else len
  | t :: r, st, op => if nextB st (clsB t.2) op = [] then (t.1 : Int) else formTo len r (nextB st (clsB t.2) op) (if clsB t.2 = kOpen then op + 1 else if clsB t.2 = kShut then op - 1 else op)

/-- The document's Form of a text. -/
def formB (l : Bs) : Int := formTo l.length (toksAt l 0) sLine 0

theorem drop_consT (ts : List (Nat × Bs)) (k : Nat) (h : k < ts.length) : ts.drop k = ts.getD k (0, []) :: ts.drop (k + 1) := by
  rw [List.drop_eq_getElem_cons h]; simp [List.getD, h]

end Go.Proofs.YtnbpdffdnphbeaaGreatDoor

/- What the small functions on bytes answer: isBlank, isLetter, isDigit of the program, sort of the document's answer. -/
namespace Go.Proofs.YtnbpdffdnphbeaaGreatDoor
open Go.RowKit

theorem ret_int {k : IntKind} {a b : Int} (h : a = b) : Ending.returned (.int k a) = .returned (.int k b) := by rw [h]
theorem ret_bool {a b : Bool} (h : a = b) : Ending.returned (.bool a) = .returned (.bool b) := by rw [h]

set_option maxHeartbeats 400000 in
theorem isBlank_any (c : Int) (w : World) :
    Calls Tryz.prog 146 #[.int .u8 c] w fun e w' => e = .returned (.bool (blankI c)) ∧ w' = w := by
  go_enter Tryz.func146, Tryz.ntmps146
  go_wp2
  all_goals (go_ret; exact ⟨ret_bool (by simp [blankI, *]), rfl⟩)

set_option maxHeartbeats 400000 in
theorem isLetter_any (c : Int) (w : World) :
    Calls Tryz.prog 206 #[.int .u8 c] w fun e w' => e = .returned (.bool (letterI c)) ∧ w' = w := by
  go_enter Tryz.func206, Tryz.ntmps206
  go_wp2
  all_goals (go_ret; exact ⟨ret_bool (by simp [letterI]; try omega), rfl⟩)

set_option maxHeartbeats 400000 in
theorem isDigit_any (c : Int) (w : World) :
    Calls Tryz.prog 208 #[.int .u8 c] w fun e w' => e = .returned (.bool (digitI c)) ∧ w' = w := by
  go_enter Tryz.func208, Tryz.ntmps208
  go_wp2
  all_goals (go_ret; exact ⟨ret_bool (by simp [digitI]; try omega), rfl⟩)

end Go.Proofs.YtnbpdffdnphbeaaGreatDoor

/- What among answers: whether a word stands in a list of words with blanks between them. -/
namespace Go.Proofs.YtnbpdffdnphbeaaGreatDoor
open Go.RowKit

end Go.Proofs.YtnbpdffdnphbeaaGreatDoor

/- What long and class of the document's answer give of a text: the length of its first token; a token's class. -/
namespace Go.Proofs.YtnbpdffdnphbeaaGreatDoor
open Go.RowKit

theorem idx_int (l : Bs) (k : Nat) (h : k < (ByteArray.mk l.toArray).size) : (((ByteArray.mk l.toArray)[k]'h).toNat : Int) = ((l.getD k 0).toNat : Int) := by rw [idx_mk]
end Go.Proofs.YtnbpdffdnphbeaaGreatDoor

/- What class of the document's answer gives of a token: its class. -/
namespace Go.Proofs.YtnbpdffdnphbeaaGreatDoor
open Go.RowKit

theorem ret_str {a b : Bs} (h : a = b) : Ending.returned (.string ⟨a.toArray⟩) = .returned (.string ⟨b.toArray⟩) := by rw [h]

end Go.Proofs.YtnbpdffdnphbeaaGreatDoor
