/- Plain functions on bytes: how a text falls into tokens, and what class each token has. Nothing of the program is named here. -/
import Derived.Laws.Strings2
import Derived.Test.YtnbpdffdnphbeaaGreatDoorProg
import Derived.WalkKit
import Derived.WalkSpells
import Derived.WalkLawsBesides
namespace Go.Proofs.YtnbpdffdnphbeaaGreatDoor

def blankI (c : Int) : Bool := c == 32 || c == 10
def letterI (c : Int) : Bool := decide (97 ≤ c) && decide (c ≤ 122)
def digitI (c : Int) : Bool := decide (48 ≤ c) && decide (c ≤ 57)
def sortI (c : Int) : Int := if 97 ≤ c ∧ c ≤ 122 then 1 else if 48 ≤ c ∧ c ≤ 57 then 2 else if c = 32 ∨ c = 10 then 3 else 0

theorem sortI_1 {c : Int} (h : 97 ≤ c ∧ c ≤ 122) : sortI c = 1 := by simp [sortI, h]
theorem sortI_2 {c : Int} (h : 48 ≤ c ∧ c ≤ 57) : sortI c = 2 := by unfold sortI; rw [if_neg (by omega), if_pos h]
theorem sortI_3 {c : Int} (h : c = 32 ∨ c = 10) : sortI c = 3 := by unfold sortI; rw [if_neg (by omega), if_neg (by omega), if_pos h]
theorem sortI_0 {c : Int} (h1 : ¬ (97 ≤ c ∧ c ≤ 122)) (h2 : ¬ (48 ≤ c ∧ c ≤ 57)) (h3 : ¬ (c = 32 ∨ c = 10)) : sortI c = 0 := by
  unfold sortI; rw [if_neg h1, if_neg h2, if_neg h3]

abbrev Bs := List UInt8

theorem idx_mk (l : Bs) (k : Nat) (h : k < (ByteArray.mk l.toArray).size) : (ByteArray.mk l.toArray)[k] = l.getD k 0 := by
  have h' : k < l.length := by have h1 : k < l.toArray.size := h; simpa using h1
  have e : (ByteArray.mk l.toArray)[k] = l.toArray[k]'(by simpa using h') := rfl
  rw [e]; simp [List.getD, h']

theorem byte_eq (c d : UInt8) : (((c.toNat : Int) == (d.toNat : Int)) = true) ↔ c = d := by
  rw [beq_iff_eq]
  constructor
  · intro h; exact UInt8.toNat_inj.1 (by omega)
  · intro h; rw [h]

def amG (l s : Bs) : Nat → Nat → Nat → Bool
  | 0, _, _ => false
  | n + 1, a, i => if i = l.length ∨ l.getD i 0 = 32 then (if (l.drop a).take (i - a) = s then true else amG l s n (i + 1) (i + 1)) else amG l s n a (i + 1)

def amongB (l s : Bs) : Bool := amG l s (l.length + 1) 0 0

theorem amG_hit {l s : Bs} {a k : Nat} (hk : k ≤ l.length) (h : k = l.length ∨ l.getD k 0 = 32) (h2 : (l.drop a).take (k - a) = s) : amG l s (l.length + 1 - k) a k = true := by
  rw [show l.length + 1 - k = (l.length - k) + 1 by omega, amG, if_pos h, if_pos h2]
theorem amG_miss {l s : Bs} {a k : Nat} (hk : k ≤ l.length) (h : k = l.length ∨ l.getD k 0 = 32) (h2 : ¬ (l.drop a).take (k - a) = s) : amG l s (l.length + 1 - k) a k = amG l s (l.length + 1 - (k + 1)) (k + 1) (k + 1) := by
  rw [show l.length + 1 - k = (l.length - k) + 1 by omega, amG, if_pos h, if_neg h2, show l.length + 1 - (k + 1) = l.length - k by omega]
theorem amG_on {l s : Bs} {a k : Nat} (hk : k ≤ l.length) (h : ¬ (k = l.length ∨ l.getD k 0 = 32)) : amG l s (l.length + 1 - k) a k = amG l s (l.length + 1 - (k + 1)) a (k + 1) := by
  rw [show l.length + 1 - k = (l.length - k) + 1 by omega, amG, if_neg h, show l.length + 1 - (k + 1) = l.length - k by omega]
theorem amG_end {l s : Bs} {a k : Nat} (hk : ¬ k ≤ l.length) : amG l s (l.length + 1 - k) a k = false := by
  rw [show l.length + 1 - k = 0 by omega, amG]


/-- The sort of a byte. -/
def so (c : UInt8) : Int := sortI (c.toNat : Int)

/-- How many bytes of a sort stand at the head. -/
def runL (k : Int) : Bs → Nat
  | [] => 0
  | c :: r => if so c = k then runL k r + 1 else 0

theorem runL_le (k : Int) (l : Bs) : runL k l ≤ l.length := by
  induction l with
  | nil => simp [runL]
  | cons c r ih => simp only [runL]; split <;> simp <;> omega

theorem drop_cons (l : Bs) (k : Nat) (h : k < l.length) : l.drop k = l.getD k 0 :: l.drop (k + 1) := by
  rw [List.drop_eq_getElem_cons h]; simp [List.getD, h]

theorem runL_on {k : Int} {l : Bs} {i : Nat} (h : i < l.length) (he : so (l.getD i 0) = k) : i + runL k (l.drop i) = (i + 1) + runL k (l.drop (i + 1)) := by
  rw [drop_cons l i h, runL, if_pos he]; omega
theorem runL_off {k : Int} {l : Bs} {i : Nat} (h : i < l.length) (he : ¬ so (l.getD i 0) = k) : i + runL k (l.drop i) = i := by
  rw [drop_cons l i h, runL, if_neg he]; omega
theorem runL_end {k : Int} {l : Bs} {i : Nat} (h : ¬ i < l.length) : i + runL k (l.drop i) = i := by
  rw [List.drop_eq_nil_of_le (by omega)]; rfl

def twoMarks : Bs := [46, 46, 32, 60, 61, 32, 33, 61, 32, 62, 61]
def keptWords : Bs := [110, 117, 109, 32, 102, 108, 97, 103, 32, 114, 117, 108, 101, 32, 111, 118, 101, 114, 32, 119, 104, 101, 110, 32, 111, 114, 32, 97, 110, 100, 32, 110, 111, 116, 32, 104, 97, 115, 32, 97, 108, 119, 97, 121, 115]
def allMarks : Bs := [58, 32, 61, 32, 46, 46, 32, 59, 32, 40, 32, 41, 32, 60, 32, 60, 61, 32, 33, 61, 32, 62, 61, 32, 62, 32, 43, 32, 45, 32, 42]

/-- The first two bytes are one mark. -/
def twoB (l : Bs) : Bool := decide (1 < l.length) && amongB twoMarks (l.take 2)

/-- The length of the token at the head of a text that is not empty. -/
def lenB (l : Bs) : Nat := if so (l.getD 0 0) = 0 then (if twoB l = true then 2 else 1) else 1 + runL (so (l.getD 0 0)) (l.drop 1)

theorem lenB_pos (l : Bs) : 1 ≤ lenB l := by unfold lenB; split <;> (try split) <;> omega
theorem lenB_le {l : Bs} (h : 0 < l.length) : lenB l ≤ l.length := by
  unfold lenB
  split
  · split
    · rename_i _ h2; simp [twoB] at h2; omega
    · omega
  · have := runL_le (so (l.getD 0 0)) (l.drop 1); rw [List.length_drop] at this; omega

def badB : Bs := [66, 65, 68]
def nameB : Bs := [78, 65, 77, 69]
def numberB : Bs := [78, 85, 77, 66, 69, 82]

/-- The class of a token that is not empty. -/
def clsB (l : Bs) : Bs :=
  if so (l.getD 0 0) = 1 then (if 8 < l.length then badB else if amongB keptWords l = true then l else nameB)
  else if so (l.getD 0 0) = 2 then (if 4 < l.length ∨ 1 < l.length ∧ l.getD 0 0 = 48 then badB else numberB)
  else if amongB allMarks l = true then l else badB

/-- The tokens of a text, each with its place. -/
def pieces : Nat → Bs → Nat → List (Nat × Bs)
  | 0, _, _ => []
  | n + 1, l, p => if l.length = 0 then [] else if so (l.getD 0 0) = 3 then pieces n (l.drop 1) (p + 1) else (p, l.take (lenB l)) :: pieces n (l.drop (lenB l)) (p + lenB l)

theorem pieces_nil (n p : Nat) : pieces n [] p = [] := by cases n <;> simp [pieces]

theorem pieces_fuel (n : Nat) : ∀ (m : Nat) (l : Bs) (p : Nat), l.length ≤ n → l.length ≤ m → pieces n l p = pieces m l p := by
  induction n with
  | zero => intro m l p h _; have : l = [] := List.eq_nil_of_length_eq_zero (by omega); subst this; rw [pieces_nil, pieces_nil]
  | succ n ih =>
    intro m l p hn hm
    cases m with
    | zero => have : l = [] := List.eq_nil_of_length_eq_zero (by omega); subst this; rw [pieces_nil, pieces_nil]
    | succ m =>
      simp only [pieces]
      split
      · rfl
      · have := lenB_pos l
        rw [ih m (l.drop 1) _ (by simp; omega) (by simp; omega), ih m (l.drop (lenB l)) _ (by simp; omega) (by simp; omega)]

/-- The tokens from a place on. -/
def toksAt (l : Bs) (p : Nat) : List (Nat × Bs) := pieces l.length (l.drop p) p

theorem toksAt_end {l : Bs} {p : Nat} (h : ¬ p < l.length) : toksAt l p = [] := by
  unfold toksAt; rw [List.drop_eq_nil_of_le (by omega), pieces_nil]

theorem getD_drop (l : Bs) (p i : Nat) : (l.drop p).getD i 0 = l.getD (p + i) 0 := by simp [List.getD]

theorem toksAt_blank {l : Bs} {p : Nat} (h : p < l.length) (hb : so (l.getD p 0) = 3) : toksAt l p = toksAt l (p + 1) := by
  unfold toksAt
  rw [pieces_fuel l.length (l.length + 1) (l.drop p) p (by simp) (by simp; omega), pieces, if_neg (by simp; omega), if_pos (by rw [getD_drop]; exact hb), List.drop_drop]

theorem toksAt_tok {l : Bs} {p : Nat} (h : p < l.length) (hb : ¬ so (l.getD p 0) = 3) : toksAt l p = (p, (l.drop p).take (lenB (l.drop p))) :: toksAt l (p + lenB (l.drop p)) := by
  unfold toksAt
  rw [pieces_fuel l.length (l.length + 1) (l.drop p) p (by simp) (by simp; omega), pieces, if_neg (by simp; omega), if_neg (by rw [getD_drop]; exact hb), List.drop_drop]

theorem runL_blank (n : Nat) : ∀ (l : Bs) (p : Nat), runL 3 (l.drop p) = n → toksAt l p = toksAt l (p + n) := by
  induction n with
  | zero => intro l p _; rfl
  | succ n ih =>
    intro l p h
    by_cases hp : p < l.length
    · rw [drop_cons l p hp, runL] at h
      split at h
      · rename_i hb
        rw [toksAt_blank hp hb, ih l (p + 1) (by omega)]; congr 1; omega
      · omega
    · rw [List.drop_eq_nil_of_le (by omega)] at h; simp [runL] at h

/-- A run of blanks is passed over whole. -/
theorem toksAt_blanks {l : Bs} {p : Nat} (h : p < l.length) (hb : so (l.getD p 0) = 3) : toksAt l p = toksAt l (p + lenB (l.drop p)) := by
  have e : lenB (l.drop p) = 1 + runL 3 ((l.drop p).drop 1) := by
    unfold lenB; rw [getD_drop, Nat.add_zero, if_neg (by omega), hb]
  rw [e, toksAt_blank h hb, runL_blank _ l (p + 1) rfl, List.drop_drop, Nat.add_assoc]

theorem pieces_len (n : Nat) : ∀ (l : Bs) (p : Nat), (pieces n l p).length ≤ l.length := by
  induction n with
  | zero => intro l p; simp [pieces]
  | succ n ih =>
    intro l p
    simp only [pieces]
    split
    · simp
    · split
      · have := ih (l.drop 1) (p + 1); simp at this ⊢; omega
      · have h1 := ih (l.drop (lenB l)) (p + lenB l); have h2 := lenB_pos l
        rw [List.length_cons]; rw [List.length_drop] at h1; omega

theorem toksAt_len (l : Bs) (p : Nat) : (toksAt l p).length ≤ l.length := by
  have := pieces_len l.length (l.drop p) p; unfold toksAt; simp at this; omega

/-- The document's table: from where, by which class, one gets where; its words one behind the other. -/
def folL : List Bs := [[108, 105, 110, 101], [110, 117, 109], [110, 117, 109], [110, 117, 109], [78, 65, 77, 69], [102, 114, 111, 109], [102, 114, 111, 109], [78, 85, 77, 66, 69, 82], [116, 111], [116, 111], [46, 46], [116, 105, 108, 108], [116, 105, 108, 108], [78, 85, 77, 66, 69, 82], [101, 110, 100], [108, 105, 110, 101], [102, 108, 97, 103], [108, 97, 115, 116], [108, 97, 115, 116], [78, 65, 77, 69], [101, 110, 100], [108, 105, 110, 101], [111, 118, 101, 114], [111, 118, 101, 114], [111, 118, 101, 114], [78, 65, 77, 69], [108, 97, 115, 116], [101, 110, 100], [59], [108, 105, 110, 101], [108, 105, 110, 101], [114, 117, 108, 101], [114, 117, 108, 101], [114, 117, 108, 101], [78, 65, 77, 69], [108, 97, 98, 101, 108], [108, 97, 98, 101, 108], [58], [99, 111, 108, 111, 110], [99, 111, 108, 111, 110], [78, 65, 77, 69], [104, 101, 97, 100], [104, 101, 97, 100], [61], [112, 97, 114, 116], [112, 97, 114, 116], [78, 65, 77, 69], [112, 97, 114, 116, 101, 100], [112, 97, 114, 116], [78, 85, 77, 66, 69, 82], [99, 111, 117, 110, 116, 101, 100], [99, 111, 117, 110, 116, 101, 100], [42], [116, 105, 109, 101, 115], [99, 111, 117, 110, 116, 101, 100], [43], [112, 97, 114, 116], [99, 111, 117, 110, 116, 101, 100], [45], [112, 97, 114, 116], [99, 111, 117, 110, 116, 101, 100], [119, 104, 101, 110], [102, 97, 99, 116], [116, 105, 109, 101, 115], [78, 65, 77, 69], [112, 97, 114, 116, 101, 100], [112, 97, 114, 116, 101, 100], [43], [112, 97, 114, 116], [112, 97, 114, 116, 101, 100], [45], [112, 97, 114, 116], [112, 97, 114, 116, 101, 100], [119, 104, 101, 110], [102, 97, 99, 116], [102, 97, 99, 116], [110, 111, 116], [102, 97, 99, 116], [102, 97, 99, 116], [40], [102, 97, 99, 116], [102, 97, 99, 116], [97, 108, 119, 97, 121, 115], [100, 111, 110, 101], [102, 97, 99, 116], [104, 97, 115], [104, 97, 115], [102, 97, 99, 116], [78, 65, 77, 69], [110, 97, 109, 101, 100], [104, 97, 115], [78, 65, 77, 69], [100, 111, 110, 101], [110, 97, 109, 101, 100], [60], [116, 104, 97, 110], [110, 97, 109, 101, 100], [60, 61], [116, 104, 97, 110], [110, 97, 109, 101, 100], [61], [116, 104, 97, 110], [110, 97, 109, 101, 100], [33, 61], [116, 104, 97, 110], [110, 97, 109, 101, 100], [62, 61], [116, 104, 97, 110], [110, 97, 109, 101, 100], [62], [116, 104, 97, 110], [116, 104, 97, 110], [78, 65, 77, 69], [100, 111, 110, 101], [116, 104, 97, 110], [78, 85, 77, 66, 69, 82], [100, 111, 110, 101], [100, 111, 110, 101], [111, 114], [102, 97, 99, 116], [100, 111, 110, 101], [97, 110, 100], [102, 97, 99, 116], [100, 111, 110, 101], [41], [100, 111, 110, 101], [100, 111, 110, 101], [59], [108, 105, 110, 101]]

def lookF (st cl : Bs) : Nat → Nat → Bs
  | 0, _ => []
  | n + 1, i => if folL.getD (i * 3) [] = st ∧ folL.getD (i * 3 + 1) [] = cl then folL.getD (i * 3 + 2) [] else lookF st cl n (i + 1)

def sLine : Bs := [108, 105, 110, 101]
def sNamed : Bs := [110, 97, 109, 101, 100]
def sDone : Bs := [100, 111, 110, 101]
def kOr : Bs := [111, 114]
def kAnd : Bs := [97, 110, 100]
def kShut : Bs := [41]
def kOpen : Bs := [40]
def kEnd : Bs := [59]

/-- Where one gets from a state by a class, in so many open brackets. -/
def nextB (st cl : Bs) (op : Int) : Bs :=
  let st' := if st = sNamed ∧ (cl = kOr ∨ cl = kAnd ∨ cl = kShut ∨ cl = kEnd) then sDone else st
  if st' = sDone ∧ (cl = kShut ∧ op = 0 ∨ cl = kEnd ∧ 0 < op) then [] else lookF st' cl 43 0

theorem lookF_hit {st cl : Bs} {i : Nat} (h : i < 43) (h1 : folL.getD (i * 3) [] = st) (h2 : folL.getD (i * 3 + 1) [] = cl) : lookF st cl (43 - i) i = folL.getD (i * 3 + 2) [] := by
  rw [show 43 - i = (42 - i) + 1 by omega, lookF, if_pos ⟨h1, h2⟩]
theorem lookF_miss {st cl : Bs} {i : Nat} (h : i < 43) (h1 : ¬ (folL.getD (i * 3) [] = st ∧ folL.getD (i * 3 + 1) [] = cl)) : lookF st cl (43 - i) i = lookF st cl (43 - (i + 1)) (i + 1) := by
  rw [show 43 - i = (42 - i) + 1 by omega, lookF, if_neg h1, show 43 - (i + 1) = 42 - i by omega]
theorem lookF_end {st cl : Bs} {i : Nat} (h : ¬ i < 43) : lookF st cl (43 - i) i = [] := by
  rw [show 43 - i = 0 by omega, lookF]

/-- The place of what can't stand, among the tokens that are left; -1: nothing. -/
def formTo (len : Int) : List (Nat × Bs) → Bs → Int → Int
  | [], st, _ => if st = sLine then -1 else len
  | t :: r, st, op => if nextB st (clsB t.2) op = [] then (t.1 : Int) else formTo len r (nextB st (clsB t.2) op) (if clsB t.2 = kOpen then op + 1 else if clsB t.2 = kShut then op - 1 else op)

/-- The document's Form of a text. -/
def formB (l : Bs) : Int := formTo l.length (toksAt l 0) sLine 0

theorem drop_consT (ts : List (Nat × Bs)) (k : Nat) (h : k < ts.length) : ts.drop k = ts.getD k (0, []) :: ts.drop (k + 1) := by
  rw [List.drop_eq_getElem_cons h]; simp [List.getD, h]

end Go.Proofs.YtnbpdffdnphbeaaGreatDoor

/- What the small functions on bytes answer: isBlank, isLetter, isDigit of the program, sort of the document's answer. -/
namespace Go.Proofs.YtnbpdffdnphbeaaGreatDoor
open Go.RowKit

theorem ret_int {k : IntKind} {a b : Int} (h : a = b) : Ending.returned (.int k a) = .returned (.int k b) := by rw [h]
theorem ret_bool {a b : Bool} (h : a = b) : Ending.returned (.bool a) = .returned (.bool b) := by rw [h]

set_option maxHeartbeats 400000 in
theorem isBlank_any (c : Int) (w : World) :
    Calls Tryz.prog 146 #[.int .u8 c] w fun e w' => e = .returned (.bool (blankI c)) ∧ w' = w := by
  go_enter Tryz.func146, Tryz.ntmps146
  go_wp2
  all_goals (go_ret; exact ⟨ret_bool (by simp [blankI, *]), rfl⟩)

set_option maxHeartbeats 400000 in
theorem isLetter_any (c : Int) (w : World) :
    Calls Tryz.prog 206 #[.int .u8 c] w fun e w' => e = .returned (.bool (letterI c)) ∧ w' = w := by
  go_enter Tryz.func206, Tryz.ntmps206
  go_wp2
  all_goals (go_ret; exact ⟨ret_bool (by simp [letterI]; try omega), rfl⟩)

set_option maxHeartbeats 400000 in
theorem isDigit_any (c : Int) (w : World) :
    Calls Tryz.prog 208 #[.int .u8 c] w fun e w' => e = .returned (.bool (digitI c)) ∧ w' = w := by
  go_enter Tryz.func208, Tryz.ntmps208
  go_wp2
  all_goals (go_ret; exact ⟨ret_bool (by simp [digitI]; try omega), rfl⟩)

set_option maxHeartbeats 400000 in
theorem sort_any (c : Int) (w : World) :
    Calls Tryz.prog 173 #[.int .u8 c] w fun e w' => e = .returned (.int .i64 (sortI c)) ∧ w' = w := by
  by_cases h1 : 97 ≤ c ∧ c ≤ 122
  · rw [sortI_1 h1]; obtain ⟨_, _⟩ := h1
    go_enter Tryz.func173, Tryz.ntmps173
    go_wp2
    all_goals (go_ret; exact ⟨rfl, rfl⟩)
  · by_cases h2 : 48 ≤ c ∧ c ≤ 57
    · rw [sortI_2 h2]; obtain ⟨_, _⟩ := h2; clear h1
      go_enter Tryz.func173, Tryz.ntmps173
      go_wp2
      all_goals (go_ret; exact ⟨rfl, rfl⟩)
    · by_cases h3 : c = 32 ∨ c = 10
      · rw [sortI_3 h3]
        rcases h3 with rfl | rfl <;> clear h1 h2
        all_goals
          go_enter Tryz.func173, Tryz.ntmps173
          go_wp2
          go_ret; exact ⟨rfl, rfl⟩
      · rw [sortI_0 h1 h2 h3]
        have e1 : (c == 32) = false := by simp; omega
        have e2 : (c == 10) = false := by simp; omega
        clear h3
        go_enter Tryz.func173, Tryz.ntmps173
        go_wp2
        all_goals (go_ret; exact ⟨rfl, rfl⟩)
end Go.Proofs.YtnbpdffdnphbeaaGreatDoor

/- What among answers: whether a word stands in a list of words with blanks between them. -/
namespace Go.Proofs.YtnbpdffdnphbeaaGreatDoor
open Go.RowKit

set_option maxHeartbeats 400000 in
theorem among_any (l s : Bs) (w : World) (hl : l.length ≤ 4000) :
    Calls Tryz.prog 180 #[.string ⟨l.toArray⟩, .string ⟨s.toArray⟩] w fun e w' => e = .returned (.bool (amongB l s)) ∧ w' = w := by
  go_enter Tryz.func180, Tryz.ntmps180
  go_wp2
  go_loop [5, 6] (fun av iv => ∃ a k : Nat, a ≤ k ∧ k ≤ l.length + 1 ∧ av = .int .i64 a ∧ iv = .int .i64 k ∧ Hid (amG l s (l.length + 1 - k) a k = amongB l s)) (fun _ iv => l.length + 1 - (intOf iv).toNat)
  case atStart => exact ⟨0, 0, Nat.le_refl _, Nat.zero_le _, rfl, rfl, rfl⟩
  case round =>
    obtain ⟨a, k, hak, hk, rfl, rfl, hH⟩ := hrel
    by_cases hlt : k ≤ l.length
    · by_cases he : k = l.length ∨ l.getD k 0 = 32
      · by_cases h2 : (l.drop a).take (k - a) = s
        · have H := hH.out; rw [amG_hit hlt he h2] at H
          have HF : Hid (amongB l s = true) := H.symm
          have h3 : (((ByteArray.mk l.toArray).extract a k).toList == s) = true := by rw [ByteArray.extract_mk]; simpa using h2
          rcases he with he | he
          · clear hH H h2; subst he
            go_wp2
            go_ret; exact ⟨ret_bool HF.out.symm, rfl⟩
          · by_cases he0 : k = l.length
            · clear hH H h2 he; subst he0
              go_wp2
              go_ret; exact ⟨ret_bool HF.out.symm, rfl⟩
            have hlt2 : k < l.length := by omega
            have he1 : ((k : Int) == (l.length : Int)) = false := by simp; omega
            have hc : ∀ h, (((ByteArray.mk l.toArray)[k]'h).toNat : Int) = 32 := by intro h; rw [idx_mk, he]; rfl
            clear hH H h2 he he0
            go_wp2
            all_goals (go_ret; exact ⟨ret_bool HF.out.symm, rfl⟩)
        · have H := hH.out; rw [amG_miss hlt he h2] at H
          have HF : Hid (amG l s (l.length + 1 - (k + 1)) (k + 1) (k + 1) = amongB l s) := H
          have h3 : (((ByteArray.mk l.toArray).extract a k).toList == s) = false := by rw [ByteArray.extract_mk]; simpa using h2
          by_cases he0 : k = l.length
          · clear hH H h2 he; subst he0
            go_wp2
            go_round
            case rel => exact ⟨l.length + 1, l.length + 1, by omega, by omega, by go_num, by go_num, HF.out⟩
            case measure => simp [intOf]
          · have he : l.getD k 0 = 32 := by rcases he with he | he; exact absurd he he0; exact he
            have hlt2 : k < l.length := by omega
            have he1 : ((k : Int) == (l.length : Int)) = false := by simp; omega
            have hc : ∀ h, (((ByteArray.mk l.toArray)[k]'h).toNat : Int) = 32 := by intro h; rw [idx_mk, he]; rfl
            clear hH H h2 he he0
            go_wp2
            go_round
            case rel => exact ⟨k + 1, k + 1, by omega, by omega, by go_num, by go_num, HF.out⟩
            case measure => simp [intOf]; omega
      · have H := hH.out; rw [amG_on hlt he] at H
        have HF : Hid (amG l s (l.length + 1 - (k + 1)) a (k + 1) = amongB l s) := H
        have hlt2 : k < l.length := by omega
        have he1 : ((k : Int) == (l.length : Int)) = false := by simp; omega
        have hc : ∀ h, ((((ByteArray.mk l.toArray)[k]'h).toNat : Int) == 32) = false := by
          intro h; rw [idx_mk]
          rw [Bool.eq_false_iff]; intro hh
          exact he (.inr ((byte_eq _ 32).1 hh))
        clear hH H he
        go_wp2
        go_round
        case rel => exact ⟨a, k + 1, by omega, by omega, by go_num, by go_num, HF.out⟩
        case measure => simp [intOf]; omega
    · have H := hH.out; rw [amG_end hlt] at H
      have HF : Hid (amongB l s = false) := H.symm
      clear hH H
      go_wp2
      go_ret; exact ⟨ret_bool HF.out.symm, rfl⟩
end Go.Proofs.YtnbpdffdnphbeaaGreatDoor

/- What long and class of the document's answer give of a text: the length of its first token; a token's class. -/
namespace Go.Proofs.YtnbpdffdnphbeaaGreatDoor
open Go.RowKit

theorem idx_int (l : Bs) (k : Nat) (h : k < (ByteArray.mk l.toArray).size) : (((ByteArray.mk l.toArray)[k]'h).toNat : Int) = ((l.getD k 0).toNat : Int) := by rw [idx_mk]
theorem sort_is (c k : Int) (h : sortI c = k) (w : World) :
    Calls Tryz.prog 173 #[.int .u8 c] w fun e w' => e = .returned (.int .i64 k) ∧ w' = w := by
  subst h; exact sort_any c w
theorem among_is (l s : Bs) (b : Bool) (hb : amongB l s = b) (w : World) (hl : l.length ≤ 4000) :
    Calls Tryz.prog 180 #[.string ⟨l.toArray⟩, .string ⟨s.toArray⟩] w fun e w' => e = .returned (.bool b) ∧ w' = w := by
  subst hb; exact among_any l s w hl
theorem head_so {l : Bs} {k : Int} (h : so (l.getD 0 0) = k) : ∀ h : 0 < l.length, sortI ((l[0]'h).toNat : Int) = k := by
  intro h0; rw [← h]; simp [so, List.getD, h0]
theorem at_so {l : Bs} {k : Int} {i : Nat} (h : so (l.getD i 0) = k) : ∀ h : i < (ByteArray.mk l.toArray).size, sortI (((ByteArray.mk l.toArray)[i]'h).toNat : Int) = k := by
  intro h0; rw [← h, idx_mk]; rfl

set_option maxHeartbeats 400000 in
theorem long_any (l : Bs) (w : World) (h0 : 0 < l.length) (hl : l.length ≤ 4000) :
    Calls Tryz.prog 172 #[.string ⟨l.toArray⟩] w fun e w' => e = .returned (.int .i64 (lenB l : Nat)) ∧ w' = w := by
  obtain ⟨k, hk⟩ : ∃ k, so (l.getD 0 0) = k := ⟨_, rfl⟩
  have HK : Hid (∀ h : 0 < l.length, sortI ((l[0]'h).toNat : Int) = k) := head_so hk
  by_cases hz : k = 0
  · subst hz
    by_cases h2 : 1 < l.length
    · cases ha : amongB twoMarks (l.take 2)
      · have HF : Hid (lenB l = 1) := by unfold Hid lenB; rw [if_pos hk, if_neg (by simp [twoB, h2, ha])]
        have HA : Hid (amongB twoMarks (l.take 2) = false) := ha
        clear ha hk
        go_enter Tryz.func172, Tryz.ntmps172
        go_wp2_with (first
          | (go_at_call 173; refine (sort_is _ 0 (HK.out h0) _).mono ?_; rintro e w' ⟨rfl, rfl⟩)
          | (go_at_call 180; (try rw [ByteArray.extract_mk]); refine (among_is twoMarks (l.take 2) false HA.out _ (by decide)).mono ?_; rintro e w' ⟨rfl, rfl⟩))
        go_ret; exact ⟨ret_int (by rw [HF.out]; rfl), rfl⟩
      · have HF : Hid (lenB l = 2) := by unfold Hid lenB; rw [if_pos hk, if_pos (by simp [twoB, h2, ha])]
        have HA : Hid (amongB twoMarks (l.take 2) = true) := ha
        clear ha hk
        go_enter Tryz.func172, Tryz.ntmps172
        go_wp2_with (first
          | (go_at_call 173; refine (sort_is _ 0 (HK.out h0) _).mono ?_; rintro e w' ⟨rfl, rfl⟩)
          | (go_at_call 180; (try rw [ByteArray.extract_mk]); refine (among_is twoMarks (l.take 2) true HA.out _ (by decide)).mono ?_; rintro e w' ⟨rfl, rfl⟩))
        go_ret; exact ⟨ret_int (by rw [HF.out]; rfl), rfl⟩
    · have HF : Hid (lenB l = 1) := by unfold Hid lenB; rw [if_pos hk, if_neg (by simp [twoB, h2])]
      clear hk
      go_enter Tryz.func172, Tryz.ntmps172
      go_wp2_with (go_at_call 173; refine (sort_is _ 0 (HK.out h0) _).mono ?_; rintro e w' ⟨rfl, rfl⟩)
      go_ret; exact ⟨ret_int (by rw [HF.out]; rfl), rfl⟩
  · have HF : Hid (lenB l = 1 + runL k (l.drop 1)) := by unfold Hid lenB; rw [if_neg (by rw [hk]; exact hz), hk]
    have hz' : (k == 0) = false := by simp [hz]
    clear hk hz
    go_enter Tryz.func172, Tryz.ntmps172
    go_wp2_with (go_at_call 173; refine (sort_is _ k (HK.out h0) _).mono ?_; rintro e w' ⟨rfl, rfl⟩)
    go_loop [4] (fun nv => ∃ i : Nat, 1 ≤ i ∧ i ≤ l.length ∧ nv = .int .i64 i ∧ Hid (i + runL k (l.drop i) = 1 + runL k (l.drop 1))) (fun nv => l.length - (intOf nv).toNat)
    case atStart => exact ⟨1, Nat.le_refl _, h0, rfl, rfl⟩
    case round =>
      obtain ⟨i, h1, hi, rfl, HI⟩ := hrel
      by_cases hlt : i < l.length
      · obtain ⟨q, hq⟩ : ∃ q, so (l.getD i 0) = q := ⟨_, rfl⟩
        have HQ : Hid (∀ h : i < (ByteArray.mk l.toArray).size, sortI (((ByteArray.mk l.toArray)[i]'h).toNat : Int) = q) := at_so hq
        by_cases he : q = k
        · subst he
          have HN : Hid ((i + 1) + runL q (l.drop (i + 1)) = 1 + runL q (l.drop 1)) := by have := HI.out; rw [runL_on hlt hq] at this; exact this
          clear hq HI
          go_wp2_with (go_at_call 173; refine (sort_is _ q (HQ.out _) _).mono ?_; rintro e w' ⟨rfl, rfl⟩)
          go_round
          case rel => exact ⟨i + 1, by omega, by omega, by go_num, HN.out⟩
          case measure => simp [intOf]; omega
        · have HN : Hid (lenB l = i) := by have := HI.out; rw [runL_off hlt (by rw [hq]; exact he)] at this; unfold Hid; rw [HF.out]; omega
          have he' : (q == k) = false := by simp [he]
          clear hq HI he
          go_wp2_with (go_at_call 173; refine (sort_is _ q (HQ.out _) _).mono ?_; rintro e w' ⟨rfl, rfl⟩)
          go_ret; exact ⟨ret_int (by rw [HN.out]), rfl⟩
      · have HN : Hid (lenB l = i) := by have := HI.out; rw [runL_end hlt] at this; unfold Hid; rw [HF.out]; omega
        clear HI
        go_wp2_with fail
        go_ret; exact ⟨ret_int (by rw [HN.out]), rfl⟩
end Go.Proofs.YtnbpdffdnphbeaaGreatDoor

/- What class of the document's answer gives of a token: its class. -/
namespace Go.Proofs.YtnbpdffdnphbeaaGreatDoor
open Go.RowKit

theorem ret_str {a b : Bs} (h : a = b) : Ending.returned (.string ⟨a.toArray⟩) = .returned (.string ⟨b.toArray⟩) := by rw [h]

theorem head_eq {l : Bs} {c : UInt8} (h : l.getD 0 0 = c) : ∀ h : 0 < l.length, (((l[0]'h).toNat : Int)) = (c.toNat : Int) := by
  intro h0; rw [← h]; simp [List.getD, h0]

set_option maxHeartbeats 400000 in
theorem class_any (l : Bs) (w : World) (h0 : 0 < l.length) (hl : l.length ≤ 4000) :
    Calls Tryz.prog 174 #[.string ⟨l.toArray⟩] w fun e w' => e = .returned (.string ⟨(clsB l).toArray⟩) ∧ w' = w := by
  obtain ⟨k, hk⟩ : ∃ k, so (l.getD 0 0) = k := ⟨_, rfl⟩
  have HK : Hid (∀ h : 0 < l.length, sortI ((l[0]'h).toNat : Int) = k) := head_so hk
  by_cases h1 : k = 1
  · subst h1
    by_cases h8 : 8 < l.length
    · have HF : Hid (clsB l = badB) := by unfold Hid clsB; rw [if_pos hk, if_pos h8]
      clear hk
      go_enter Tryz.func174, Tryz.ntmps174
      go_wp2_with (go_at_call 173; refine (sort_is _ 1 (HK.out h0) _).mono ?_; rintro e w' ⟨rfl, rfl⟩)
      go_ret; exact ⟨ret_str (by rw [HF.out]; rfl), rfl⟩
    · cases ha : amongB keptWords l
      · have HF : Hid (clsB l = nameB) := by unfold Hid clsB; rw [if_pos hk, if_neg h8, if_neg (by simp [ha])]
        have HA : Hid (amongB keptWords l = false) := ha
        clear hk ha
        go_enter Tryz.func174, Tryz.ntmps174
        go_wp2_with (first
          | (go_at_call 173; refine (sort_is _ 1 (HK.out h0) _).mono ?_; rintro e w' ⟨rfl, rfl⟩)
          | (go_at_call 180; refine (among_is keptWords l false HA.out _ (by decide)).mono ?_; rintro e w' ⟨rfl, rfl⟩))
        go_ret; exact ⟨ret_str (by rw [HF.out]; rfl), rfl⟩
      · have HF : Hid (clsB l = l) := by unfold Hid clsB; rw [if_pos hk, if_neg h8, if_pos ha]
        have HA : Hid (amongB keptWords l = true) := ha
        clear hk ha
        go_enter Tryz.func174, Tryz.ntmps174
        go_wp2_with (first
          | (go_at_call 173; refine (sort_is _ 1 (HK.out h0) _).mono ?_; rintro e w' ⟨rfl, rfl⟩)
          | (go_at_call 180; refine (among_is keptWords l true HA.out _ (by decide)).mono ?_; rintro e w' ⟨rfl, rfl⟩))
        go_ret; exact ⟨ret_str (by rw [HF.out]), rfl⟩
  · have h1' : (k == 1) = false := by simp [h1]
    by_cases h2 : k = 2
    · subst h2
      by_cases h4 : 4 < l.length
      · have HF : Hid (clsB l = badB) := by unfold Hid clsB; rw [if_neg (by rw [hk]; decide), if_pos hk, if_pos (.inl h4)]
        clear hk
        go_enter Tryz.func174, Tryz.ntmps174
        go_wp2_with (go_at_call 173; refine (sort_is _ 2 (HK.out h0) _).mono ?_; rintro e w' ⟨rfl, rfl⟩)
        go_ret; exact ⟨ret_str (by rw [HF.out]; rfl), rfl⟩
      · by_cases h5 : 1 < l.length
        · by_cases h6 : l.getD 0 0 = 48
          · have HF : Hid (clsB l = badB) := by unfold Hid clsB; rw [if_neg (by rw [hk]; decide), if_pos hk, if_pos (.inr ⟨h5, h6⟩)]
            have h7 : ∀ h, (((ByteArray.mk l.toArray)[0]'h).toNat : Int) = 48 := by intro h; rw [idx_int, h6]; rfl
            clear hk
            go_enter Tryz.func174, Tryz.ntmps174
            go_wp2_with (go_at_call 173; refine (sort_is _ 2 (by first | exact HK.out h0 | (have e1 := HK.out h0; rw [head_eq h6 h0] at e1; exact e1)) _).mono ?_; rintro e w' ⟨rfl, rfl⟩)
            go_ret; exact ⟨ret_str (by rw [HF.out]; rfl), rfl⟩
          · have HF : Hid (clsB l = numberB) := by unfold Hid clsB; rw [if_neg (by rw [hk]; decide), if_pos hk, if_neg (by intro hh; rcases hh with hh | hh; exact h4 hh; exact h6 hh.2)]
            have h7 : ∀ h, ((((ByteArray.mk l.toArray)[0]'h).toNat : Int) == 48) = false := by
              intro h; rw [Bool.eq_false_iff]; intro hh; apply h6; rw [idx_int] at hh; exact (byte_eq _ 48).1 hh
            clear hk
            go_enter Tryz.func174, Tryz.ntmps174
            go_wp2_with (go_at_call 173; refine (sort_is _ 2 (HK.out h0) _).mono ?_; rintro e w' ⟨rfl, rfl⟩)
            go_ret; exact ⟨ret_str (by rw [HF.out]; rfl), rfl⟩
        · have HF : Hid (clsB l = numberB) := by unfold Hid clsB; rw [if_neg (by rw [hk]; decide), if_pos hk, if_neg (by omega)]
          clear hk
          go_enter Tryz.func174, Tryz.ntmps174
          go_wp2_with (go_at_call 173; refine (sort_is _ 2 (HK.out h0) _).mono ?_; rintro e w' ⟨rfl, rfl⟩)
          go_ret; exact ⟨ret_str (by rw [HF.out]; rfl), rfl⟩
    · have h2' : (k == 2) = false := by simp [h2]
      cases ha : amongB allMarks l
      · have HF : Hid (clsB l = badB) := by unfold Hid clsB; rw [if_neg (by rw [hk]; exact h1), if_neg (by rw [hk]; exact h2), if_neg (by simp [ha])]
        have HA : Hid (amongB allMarks l = false) := ha
        clear hk ha h1 h2
        go_enter Tryz.func174, Tryz.ntmps174
        go_wp2_with (first
          | (go_at_call 173; refine (sort_is _ k (HK.out h0) _).mono ?_; rintro e w' ⟨rfl, rfl⟩)
          | (go_at_call 180; refine (among_is allMarks l false HA.out _ (by decide)).mono ?_; rintro e w' ⟨rfl, rfl⟩))
        go_ret; exact ⟨ret_str (by rw [HF.out]; rfl), rfl⟩
      · have HF : Hid (clsB l = l) := by unfold Hid clsB; rw [if_neg (by rw [hk]; exact h1), if_neg (by rw [hk]; exact h2), if_pos ha]
        have HA : Hid (amongB allMarks l = true) := ha
        clear hk ha h1 h2
        go_enter Tryz.func174, Tryz.ntmps174
        go_wp2_with (first
          | (go_at_call 173; refine (sort_is _ k (HK.out h0) _).mono ?_; rintro e w' ⟨rfl, rfl⟩)
          | (go_at_call 180; refine (among_is allMarks l true HA.out _ (by decide)).mono ?_; rintro e w' ⟨rfl, rfl⟩))
        go_ret; exact ⟨ret_str (by rw [HF.out]), rfl⟩
end Go.Proofs.YtnbpdffdnphbeaaGreatDoor
