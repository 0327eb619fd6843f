/- Going round: what the program's Ring of eight points tells is a ring. Nothing of the program's run is here. -/
import Derived.Test.YtnbpdffdnphbeaaGreatPGraph
import Derived.Test.YtnbpdffdnphbeaaGreatProg
import Derived.Test.YtnbpdffdnphbeaaGreatLex
import Derived.WalkKit
import Derived.WalkSpells
import Derived.WalkLawsBesides
namespace Go.Proofs.YtnbpdffdnphbeaaGreat

/-- The next point of a ring: the first to which an arrow leads and from which a chain leads back. -/
def nxG (G C : List Bool) (a : Nat) : Nat → Nat → Nat
  | 0, _ => a
  | n + 1, k => if gA G a k && gA C k a then k else nxG G C a n (k + 1)
def nextR (G C : List Bool) (a : Nat) : Nat := nxG G C a 8 0
def iterF (f : Nat → Nat) : Nat → Nat → Nat
  | 0, x => x
  | n + 1, x => iterF f n (f x)
/-- The points of a ring, from one on. -/
def colG (f : Nat → Nat) (a : Nat) : Nat → List Nat → Nat → List Nat
  | 0, r, _ => r
  | n + 1, r, x => if x ≠ a ∧ r.length < 8 then colG f a n (r ++ [x]) (f x) else r
def ringFrom (f : Nat → Nat) (a : Nat) : List Nat := colG f a 8 [a] (f a)
def ringPts (G : List Bool) : List Nat := if loopB8 (chainsB G) = 8 then [] else ringFrom (nextR G (chainsB G)) (iterF (nextR G (chainsB G)) 8 (loopB8 (chainsB G)))

theorem nxG_lt (G C : List Bool) (a : Nat) (ha : a < 8) (n : Nat) : ∀ k, k + n = 8 → nxG G C a n k < 8 := by
  induction n with
  | zero => intro k _; exact ha
  | succ n ih => intro k h; rw [nxG]; split
                 · omega
                 · exact ih _ (by omega)
theorem nxG_hit (G C : List Bool) (a : Nat) (n : Nat) : ∀ k, k + n = 8 → (∃ z, k ≤ z ∧ z < 8 ∧ gA G a z = true ∧ gA C z a = true) → gA G a (nxG G C a n k) = true ∧ gA C (nxG G C a n k) a = true := by
  induction n with
  | zero => intro k h ⟨z, h1, h2, _⟩; omega
  | succ n ih =>
    intro k h ⟨z, h1, h2, h3, h4⟩
    rw [nxG]
    split
    · rename_i hc; rwa [Bool.and_eq_true] at hc
    · rename_i hc
      refine ih (k + 1) (by omega) ⟨z, ?_, h2, h3, h4⟩
      rcases Nat.lt_or_ge k z with h5 | h5
      · exact h5
      · exfalso; obtain rfl : z = k := by omega
        exact hc (by rw [h3, h4]; rfl)
theorem TC.head {M : Nat → Nat → Prop} {a b : Nat} (h : TC M a b) : ∃ z, M a z ∧ (z = b ∨ TC M z b) := by
  refine h (fun a b => ∃ z, M a z ∧ (z = b ∨ TC M z b)) (fun x y h1 => ⟨y, h1, .inl rfl⟩) ?_
  rintro x y z ⟨u, h1, h2⟩ ⟨v, h3, h4⟩
  have hyz : TC M y z := by
    rcases h4 with rfl | h4
    · exact TC.one h3
    · exact (TC.one h3).trans h4
  refine ⟨u, h1, .inr ?_⟩
  rcases h2 with rfl | h2
  · exact hyz
  · exact h2.trans hyz
/-- A point of a ring. -/
def OnRing (G : List Bool) (x : Nat) : Prop := x < 8 ∧ TC (arr G) x x
theorem next_on {G : List Bool} (hl : G.length = 64) {x : Nat} (h : OnRing G x) : arr G x (nextR G (chainsB G) x) ∧ OnRing G (nextR G (chainsB G) x) := by
  have hlt := nxG_lt G (chainsB G) x h.1 8 0 rfl
  obtain ⟨z, hz, hz2⟩ := h.2.head
  have hzx : TC (arr G) z x := by
    rcases hz2 with rfl | h2
    · exact h.2
    · exact h2
  have hc := (chains_iff hl z x).2 hzx
  obtain ⟨h1, h2⟩ := nxG_hit G (chainsB G) x 8 0 rfl ⟨z, Nat.zero_le _, hz.2.1, hz.2.2, hc.2.2⟩
  have a1 : arr G x (nextR G (chainsB G) x) := ⟨h.1, hlt, h1⟩
  have a2 : TC (arr G) (nextR G (chainsB G) x) x := (chains_iff hl _ _).1 ⟨hlt, h.1, h2⟩
  exact ⟨a1, hlt, a2.trans (TC.one a1)⟩

theorem iterF_succ (f : Nat → Nat) (n : Nat) : ∀ x, iterF f (n + 1) x = f (iterF f n x) := by
  induction n with
  | zero => intro x; rfl
  | succ n ih => intro x; rw [iterF, ih, iterF]
theorem iterF_add (f : Nat → Nat) (n m : Nat) : ∀ x, iterF f (n + m) x = iterF f m (iterF f n x) := by
  induction n with
  | zero => intro x; rw [Nat.zero_add, iterF]
  | succ n ih => intro x; rw [show n + 1 + m = (n + m) + 1 by omega, iterF, iterF, ih]
theorem iter_on {G : List Bool} (hl : G.length = 64) {x : Nat} (h : OnRing G x) (n : Nat) : OnRing G (iterF (nextR G (chainsB G)) n x) := by
  induction n with
  | zero => exact h
  | succ n ih => rw [iterF_succ]; exact (next_on hl ih).2

/-- Of more numbers below a bound than there are, two are the same. -/
theorem two_same (n : Nat) : ∀ g : Nat → Nat, (∀ i, i ≤ n → g i < n) → ∃ i j, i < j ∧ j ≤ n ∧ g i = g j := by
  induction n with
  | zero => intro g h; exact absurd (h 0 (Nat.le_refl _)) (by omega)
  | succ n ih =>
    intro g h
    rcases Classical.em (∃ i, i ≤ n ∧ g i = g (n + 1)) with ⟨i, h1, h2⟩ | hno
    · exact ⟨i, n + 1, by omega, Nat.le_refl _, h2⟩
    · -- the last value taken out: what is above it goes down by one
      have hne : ∀ i, i ≤ n → g i ≠ g (n + 1) := fun i hi e => hno ⟨i, hi, e⟩
      have hlast := h (n + 1) (Nat.le_refl _)
      obtain ⟨i, j, h1, h2, h3⟩ := ih (fun i => if g i < g (n + 1) then g i else g i - 1) (fun i hi => by
        have h4 := h i (by omega)
        have h5 := hne i hi
        show (if g i < g (n + 1) then g i else g i - 1) < n
        split <;> omega)
      refine ⟨i, j, h1, by omega, ?_⟩
      have h4 := hne i (by omega)
      have h5 := hne j h2
      split at h3 <;> split at h3 <;> omega

theorem periodic {f : Nat → Nat} {x : Nat} (h : ∀ n, iterF f n x < 8) : ∃ p, 1 ≤ p ∧ p ≤ 8 ∧ iterF f p (iterF f 8 x) = iterF f 8 x := by
  obtain ⟨i, j, h1, h2, h3⟩ := two_same 8 (fun n => iterF f n x) (fun i _ => h i)
  refine ⟨j - i, by omega, by omega, ?_⟩
  rw [← iterF_add]
  have e1 : iterF f 8 x = iterF f (8 - i) (iterF f i x) := by rw [← iterF_add, show i + (8 - i) = 8 by omega]
  have e2 : iterF f (8 + (j - i)) x = iterF f (8 - i) (iterF f j x) := by rw [← iterF_add, show j + (8 - i) = 8 + (j - i) by omega]
  rw [e2, e1, h3]
theorem least {P : Nat → Prop} (n : Nat) : P n → ∃ m, m ≤ n ∧ P m ∧ ∀ k, k < m → ¬ P k := by
  induction n using Nat.strongRecOn with
  | _ n ih =>
    intro h
    rcases Classical.em (∃ k, k < n ∧ P k) with ⟨k, h1, h2⟩ | hno
    · obtain ⟨m, h3, h4, h5⟩ := ih k h1 h2
      exact ⟨m, by omega, h4, h5⟩
    · exact ⟨n, Nat.le_refl _, h, fun k hk hp => hno ⟨k, hk, hp⟩⟩

def orb (f : Nat → Nat) (a p : Nat) : List Nat := (List.range p).map fun i => iterF f i a
theorem orb_succ (f : Nat → Nat) (a p : Nat) : orb f a (p + 1) = orb f a p ++ [iterF f p a] := by simp [orb, List.range_succ]
theorem orb_len (f : Nat → Nat) (a p : Nat) : (orb f a p).length = p := by simp [orb]
theorem col_orb {f : Nat → Nat} {a p : Nat} (hp : p ≤ 8) (hper : iterF f p a = a) (hmin : ∀ k, 1 ≤ k → k < p → iterF f k a ≠ a) (n : Nat) : ∀ j, 1 ≤ j → j ≤ p → p ≤ j + n → colG f a n (orb f a j) (iterF f j a) = orb f a p := by
  induction n with
  | zero => intro j _ h2 h3; rw [colG, show j = p by omega]
  | succ n ih =>
    intro j h1 h2 h3
    rw [colG]
    by_cases hj : j = p
    · rw [if_neg (fun h => h.1 (by rw [hj]; exact hper)), hj]
    · rw [if_pos ⟨hmin j h1 (by omega), by rw [orb_len]; omega⟩, ← orb_succ, ← iterF_succ f j a]
      exact ih (j + 1) (by omega) (by omega) (by omega)

/-- A ring of points: none twice, an arrow from each to the next, and from the last to the first. -/
structure IsRing (G : List Bool) (L : List Nat) : Prop where
  pos : 0 < L.length
  few : L.length ≤ 8
  lt : ∀ i, i < L.length → L.getD i 0 < 8
  arrow : ∀ i, i < L.length → arr G (L.getD i 0) (L.getD ((i + 1) % L.length) 0)
  once : ∀ i j, j < i → i < L.length → L.getD j 0 ≠ L.getD i 0

theorem ringPts_on {G : List Bool} (hl : G.length = 64) (h : loopB8 (chainsB G) < 8) : IsRing G (ringPts G) := by
  have hs : OnRing G (loopB8 (chainsB G)) := ⟨h, (chains_iff hl _ _).1 ⟨h, h, loopG_hit _ 8 0 rfl h⟩⟩
  have hon := iter_on hl hs
  obtain ⟨p, hp1, hp8, hper⟩ := periodic (f := nextR G (chainsB G)) (x := loopB8 (chainsB G)) (fun n => (hon n).1)
  unfold ringPts ringFrom
  rw [if_neg (by omega)]
  have hon8 := fun n => iter_on hl (hon 8) n
  generalize iterF (nextR G (chainsB G)) 8 (loopB8 (chainsB G)) = a at *
  obtain ⟨m, hm1, ⟨hm2, hm3⟩, hm4⟩ := least (P := fun p => 1 ≤ p ∧ iterF (nextR G (chainsB G)) p a = a) p ⟨hp1, hper⟩
  have hmin : ∀ k, 1 ≤ k → k < m → iterF (nextR G (chainsB G)) k a ≠ a := fun k h1 h2 h3 => hm4 k h2 ⟨h1, h3⟩
  have e : colG (nextR G (chainsB G)) a 8 [a] (nextR G (chainsB G) a) = orb (nextR G (chainsB G)) a m := col_orb (by omega) hm3 hmin 8 1 (Nat.le_refl _) hm2 (by omega)
  rw [e]
  have hget : ∀ i, i < m → (orb (nextR G (chainsB G)) a m).getD i 0 = iterF (nextR G (chainsB G)) i a := fun i hi => by simp [orb, List.getD, hi]
  refine ⟨by rw [orb_len]; omega, by rw [orb_len]; omega, fun i hi => ?_, fun i hi => ?_, fun i j hji hi => ?_⟩
  · rw [orb_len] at hi; rw [hget i hi]; exact (hon8 i).1
  · rw [orb_len] at hi ⊢
    rw [hget i hi]
    have ha := (next_on hl (hon8 i)).1
    rw [← iterF_succ (nextR G (chainsB G)) i a] at ha
    by_cases hlast : i + 1 = m
    · rw [hlast, Nat.mod_self, hget 0 (by omega)]
      rw [hlast, hm3] at ha
      exact ha
    · rw [Nat.mod_eq_of_lt (by omega), hget (i + 1) (by omega)]; exact ha
  · rw [orb_len] at hi
    rw [hget i hi, hget j (by omega)]
    intro he
    have e1 : iterF (nextR G (chainsB G)) (m - i) (iterF (nextR G (chainsB G)) j a) = a := by rw [he, ← iterF_add, show i + (m - i) = m by omega, hm3]
    rw [← iterF_add] at e1
    exact hmin (j + (m - i)) (by omega) (by omega) e1
theorem ringPts_off {G : List Bool} (h : ¬ loopB8 (chainsB G) < 8) : ringPts G = [] := by
  have h2 := loopG_le (chainsB G) 8 0 rfl
  have h3 : loopB8 (chainsB G) ≤ 8 := h2
  unfold ringPts; rw [if_pos (by omega)]
end Go.Proofs.YtnbpdffdnphbeaaGreat

/- What the small functions on bytes answer: isBlank, isLetter, isDigit of the program, sort of the document's answer. -/
namespace Go.Proofs.YtnbpdffdnphbeaaGreat
open Go.RowKit

theorem ret_int {k : IntKind} {a b : Int} (h : a = b) : Ending.returned (.int k a) = .returned (.int k b) := by rw [h]
theorem ret_bool {a b : Bool} (h : a = b) : Ending.returned (.bool a) = .returned (.bool b) := by rw [h]

set_option maxHeartbeats 400000 in
theorem isBlank_any (c : Int) (w : World) :
    Calls Tryz.prog 39 #[.int .u8 c] w fun e w' => e = .returned (.bool (blankI c)) ∧ w' = w := by
  go_enter Tryz.func39, Tryz.ntmps39
  go_wp2
  all_goals (go_ret; exact ⟨ret_bool (by simp [blankI, *]), rfl⟩)

set_option maxHeartbeats 400000 in
theorem isLetter_any (c : Int) (w : World) :
    Calls Tryz.prog 70 #[.int .u8 c] w fun e w' => e = .returned (.bool (letterI c)) ∧ w' = w := by
  go_enter Tryz.func70, Tryz.ntmps70
  go_wp2
  all_goals (go_ret; exact ⟨ret_bool (by simp [letterI]; try omega), rfl⟩)

set_option maxHeartbeats 400000 in
theorem isDigit_any (c : Int) (w : World) :
    Calls Tryz.prog 72 #[.int .u8 c] w fun e w' => e = .returned (.bool (digitI c)) ∧ w' = w := by
  go_enter Tryz.func72, Tryz.ntmps72
  go_wp2
  all_goals (go_ret; exact ⟨ret_bool (by simp [digitI]; try omega), rfl⟩)

end Go.Proofs.YtnbpdffdnphbeaaGreat

/- What among answers: whether a word stands in a list of words with blanks between them. -/
namespace Go.Proofs.YtnbpdffdnphbeaaGreat
open Go.RowKit

end Go.Proofs.YtnbpdffdnphbeaaGreat

/- What long and class of the document's answer give of a text: the length of its first token; a token's class. -/
namespace Go.Proofs.YtnbpdffdnphbeaaGreat
open Go.RowKit

theorem idx_int (l : Bs) (k : Nat) (h : k < (ByteArray.mk l.toArray).size) : (((ByteArray.mk l.toArray)[k]'h).toNat : Int) = ((l.getD k 0).toNat : Int) := by rw [idx_mk]
theorem head_so {l : Bs} {k : Int} (h : so (l.getD 0 0) = k) : ∀ h : 0 < l.length, sortI ((l[0]'h).toNat : Int) = k := by
  intro h0; rw [← h]; simp [so, List.getD, h0]
theorem at_so {l : Bs} {k : Int} {i : Nat} (h : so (l.getD i 0) = k) : ∀ h : i < (ByteArray.mk l.toArray).size, sortI (((ByteArray.mk l.toArray)[i]'h).toNat : Int) = k := by
  intro h0; rw [← h, idx_mk]; rfl

end Go.Proofs.YtnbpdffdnphbeaaGreat

/- Plain functions on tokens: where a word stands outside of brackets, tokens with a blank between, what a guard becomes. -/
namespace Go.Proofs.YtnbpdffdnphbeaaGreat

abbrev Toks := List (Nat × Bs)

/-- The brackets that are open behind a token. -/
def opn (cl : Bs) (op : Int) : Int := if cl = kOpen then op + 1 else if cl = kShut then op - 1 else op

def outG (word : Bs) : Toks → Nat → Int → Int → Int
  | [], _, _, at' => at'
  | t :: r, i, op, at' => outG word r (i + 1) (opn (clsB t.2) op) (if opn (clsB t.2) op = 0 ∧ clsB t.2 = word then (i : Int) else at')

/-- The last place at which a word stands outside of brackets, or -1. -/
def outB (ts : Toks) (word : Bs) : Int := outG word ts 0 0 (-1)

theorem outG_bound (word : Bs) (ts : Toks) : ∀ (i : Nat) (op at' : Int), -1 ≤ at' → at' < i → -1 ≤ outG word ts i op at' ∧ outG word ts i op at' < i + ts.length := by
  induction ts with
  | nil => intro i op a h1 h2; simp [outG]; omega
  | cons t r ih =>
    intro i op a h1 h2
    rw [outG]
    have := ih (i + 1) (opn (clsB t.2) op) (if opn (clsB t.2) op = 0 ∧ clsB t.2 = word then (i : Int) else a) (by split <;> omega) (by split <;> omega)
    simp only [List.length_cons]
    omega

theorem outB_bound (ts : Toks) (word : Bs) : -1 ≤ outB ts word ∧ outB ts word < ts.length := by
  have := outG_bound word ts 0 0 (-1) (by omega) (by omega)
  unfold outB; omega

def gluF : Bs → Nat → Toks → Bs
  | s, _, [] => s
  | s, i, t :: r => gluF ((if 0 < i then s ++ [32] else s) ++ t.2) (i + 1) r

/-- Tokens with a blank between each two. -/
def gluedB (ts : Toks) : Bs := gluF [] 0 ts

/-- How many bytes tokens and blanks between them take at most. -/
def szT : Toks → Nat
  | [] => 0
  | t :: r => t.2.length + 1 + szT r

theorem szT_append (a b : Toks) : szT (a ++ b) = szT a + szT b := by
  induction a with
  | nil => simp [szT]
  | cons t r ih => simp [szT, ih]; omega

theorem szT_take_drop (ts : Toks) (k : Nat) : szT (ts.take k) + szT (ts.drop k) = szT ts := by
  rw [← szT_append, List.take_append_drop]

theorem szT_drop_le (ts : Toks) (k : Nat) : szT (ts.drop k) ≤ szT ts := by have := szT_take_drop ts k; omega
theorem szT_take_le (ts : Toks) (k : Nat) : szT (ts.take k) ≤ szT ts := by have := szT_take_drop ts k; omega

theorem gluF_len (ts : Toks) : ∀ (s : Bs) (i : Nat), (gluF s i ts).length ≤ s.length + szT ts := by
  induction ts with
  | nil => intro s i; simp [gluF, szT]
  | cons t r ih =>
    intro s i
    rw [gluF]
    have h1 := ih ((if 0 < i then s ++ [32] else s) ++ t.2) (i + 1)
    have h2 : ((if 0 < i then s ++ [32] else s) ++ t.2).length ≤ s.length + 1 + t.2.length := by
      split <;> simp <;> omega
    simp only [szT]
    omega

theorem szT_len (ts : Toks) : ts.length ≤ szT ts := by
  induction ts with
  | nil => simp [szT]
  | cons t r ih => simp [szT]; omega

def kNot : Bs := [110, 111, 116]
def kWhen : Bs := [119, 104, 101, 110]
def kRule : Bs := [114, 117, 108, 101]

/-- Text in brackets. -/
def brk (s : Bs) : Bs := [40, 32] ++ s ++ [32, 41]

/-- What a guard becomes, and its kind: 0 plain, 1 an and-text, 2 an or-text. -/
def tidG : Nat → Toks → Bs × Int
  | 0, _ => ([], 0)
  | n + 1, ts =>
    if 0 ≤ outB ts kOr then ((tidG n (ts.take (outB ts kOr).toNat)).1 ++ [32, 111, 114, 32] ++ (tidG n (ts.drop ((outB ts kOr).toNat + 1))).1, 2)
    else if 0 ≤ outB ts kAnd then
      let a := tidG n (ts.take (outB ts kAnd).toNat)
      let b := tidG n (ts.drop ((outB ts kAnd).toNat + 1))
      ((if a.2 = 2 then brk a.1 else a.1) ++ [32, 97, 110, 100, 32] ++ (if b.2 = 2 then brk b.1 else b.1), 1)
    else if clsB (ts.getD 0 (0, [])).2 = kNot then
      let a := tidG n (ts.drop 1)
      ([110, 111, 116, 32] ++ (if 0 < a.2 then brk a.1 else a.1), 0)
    else if clsB (ts.getD 0 (0, [])).2 = kOpen then tidG n ((ts.drop 1).take (ts.length - 2))
    else (gluedB ts, 0)

def whenG : Toks → Nat → Option Nat
  | [], _ => none
  | t :: r, i => if clsB t.2 = kWhen then some i else whenG r (i + 1)

/-- The place of the word when, or the last place. -/
def whenB (ts : Toks) : Int := match whenG ts 0 with | some i => (i : Int) | none => (ts.length : Int) - 1

end Go.Proofs.YtnbpdffdnphbeaaGreat

/- Plain facts on what a guard becomes: which tokens are good for it, how long it gets. -/
namespace Go.Proofs.YtnbpdffdnphbeaaGreat

/-- Tokens over which the document's way of tidying never comes to nothing. -/
def goodT : Nat → Toks → Bool
  | 0, _ => false
  | n + 1, ts =>
    if 0 ≤ outB ts kOr then goodT n (ts.take (outB ts kOr).toNat) && goodT n (ts.drop ((outB ts kOr).toNat + 1))
    else if 0 ≤ outB ts kAnd then goodT n (ts.take (outB ts kAnd).toNat) && goodT n (ts.drop ((outB ts kAnd).toNat + 1))
    else if clsB (ts.getD 0 (0, [])).2 = kNot then decide (0 < ts.length) && goodT n (ts.drop 1)
    else if clsB (ts.getD 0 (0, [])).2 = kOpen then decide (2 < ts.length) && goodT n ((ts.drop 1).take (ts.length - 2))
    else decide (0 < ts.length)

theorem outB_nil (word : Bs) : outB [] word = -1 := rfl

theorem goodT_pos {n : Nat} {ts : Toks} (h : goodT n ts = true) : 0 < ts.length := by
  cases n with
  | zero => simp [goodT] at h
  | succ n =>
    cases ts with
    | nil => simp [goodT, outB_nil] at h
    | cons t r => simp

theorem szT_split (ts : Toks) (k : Nat) (h : k < ts.length) : szT (ts.take k) + 1 + szT (ts.drop (k + 1)) ≤ szT ts := by
  have h1 := szT_take_drop ts k
  rw [drop_consT ts k h, szT] at h1
  omega

theorem tidG_len (n : Nat) : ∀ ts : Toks, (tidG n ts).1.length ≤ 16 * szT ts := by
  induction n with
  | zero => intro ts; simp [tidG]
  | succ n ih =>
    intro ts
    have bo := outB_bound ts kOr
    have ba := outB_bound ts kAnd
    rw [tidG]
    split
    · have h1 := ih (ts.take (outB ts kOr).toNat); have h2 := ih (ts.drop ((outB ts kOr).toNat + 1))
      have h3 := szT_split ts (outB ts kOr).toNat (by omega)
      simp only [List.length_append, List.length_cons, List.length_nil]; omega
    · split
      · have h1 := ih (ts.take (outB ts kAnd).toNat); have h2 := ih (ts.drop ((outB ts kAnd).toNat + 1))
        have h3 := szT_split ts (outB ts kAnd).toNat (by omega)
        have h4 : ∀ (c : Prop) [Decidable c] (a : Bs), (if c then brk a else a).length ≤ a.length + 4 := by
          intro c _ a; split <;> simp [brk]
        have h5 := h4 ((tidG n (ts.take (outB ts kAnd).toNat)).2 = 2) (tidG n (ts.take (outB ts kAnd).toNat)).1
        have h6 := h4 ((tidG n (ts.drop ((outB ts kAnd).toNat + 1))).2 = 2) (tidG n (ts.drop ((outB ts kAnd).toNat + 1))).1
        simp only [List.length_append, List.length_cons, List.length_nil]; omega
      · split
        · rename_i hn
          have h1 := ih (ts.drop 1)
          have h4 : ∀ (c : Prop) [Decidable c] (a : Bs), (if c then brk a else a).length ≤ a.length + 4 := by
            intro c _ a; split <;> simp [brk]
          have h5 := h4 (0 < (tidG n (ts.drop 1)).2) (tidG n (ts.drop 1)).1
          have h0 : 0 < ts.length := by
            cases ts with
            | nil => revert hn; decide
            | cons t r => simp
          have h3 := szT_split ts 0 h0
          simp only [List.length_append, List.length_cons, List.length_nil, Nat.zero_add] at h3 ⊢; omega
        · split
          · have h1 := ih ((ts.drop 1).take (ts.length - 2))
            have h2 := szT_take_le (ts.drop 1) (ts.length - 2); have h3 := szT_drop_le ts 1
            omega
          · have := gluF_len ts [] 0; simp only [gluedB]; simp at this; omega

theorem tidG_kind (n : Nat) : ∀ ts : Toks, 0 ≤ (tidG n ts).2 ∧ (tidG n ts).2 ≤ 2 := by
  induction n with
  | zero => intro ts; simp [tidG]
  | succ n ih =>
    intro ts
    rw [tidG]
    split
    · simp
    · split
      · simp
      · split
        · simp
        · split
          · exact ih _
          · simp

end Go.Proofs.YtnbpdffdnphbeaaGreat

/- Plain functions: the lines of tokens, and the text that the document's answer makes of them. -/
namespace Go.Proofs.YtnbpdffdnphbeaaGreat

/-- The lines of tokens: where each begins, and how long it is. -/
def linesG : Toks → Nat → Nat → List (Nat × Nat)
  | [], _, _ => []
  | t :: r, i, a => if clsB t.2 = kEnd then (a, i - a) :: linesG r (i + 1) (i + 1) else linesG r (i + 1) a

def linesB (ts : Toks) : List (Nat × Nat) := linesG ts 0 0

theorem linesG_len (ts : Toks) : ∀ i a, (linesG ts i a).length ≤ ts.length := by
  induction ts with
  | nil => intro i a; simp [linesG]
  | cons t r ih => intro i a; rw [linesG]; split <;> simp <;> have := ih (i + 1) (i + 1) <;> have := ih (i + 1) a <;> omega

/-- The tokens of a line. -/
def segT (ts : Toks) (p : Nat × Nat) : Toks := (ts.drop p.1).take p.2

/-- What a line becomes. -/
def lineText (n : Nat) (u : Toks) : Bs :=
  if clsB (u.getD 0 (0, [])).2 = kRule then gluedB (u.take ((whenB u).toNat + 1)) ++ [32] ++ (tidG n (u.drop ((whenB u).toNat + 1))).1 else gluedB u

/-- A line of which the document's answer makes its text without a fault. -/
def goodL (n : Nat) (u : Toks) : Prop :=
  0 < u.length ∧ (clsB (u.getD 0 (0, [])).2 = kRule → 0 ≤ whenB u ∧ whenB u + 1 < u.length ∧ goodT n (u.drop ((whenB u).toNat + 1)) = true)

def textG (n : Nat) (ts : Toks) : List (Nat × Nat) → Bs → Bs
  | [], s => s
  | p :: r, s => textG n ts r (s ++ lineText n (segT ts p) ++ [59, 10])

/-- What lines cost, in bytes, at most. -/
def costL (ts : Toks) : List (Nat × Nat) → Nat
  | [] => 0
  | p :: r => 20 * (szT (segT ts p) + 1) + costL ts r

theorem lineText_len (n : Nat) (u : Toks) : (lineText n u).length + 2 ≤ 20 * (szT u + 1) := by
  unfold lineText
  split
  · have h1 := gluF_len (u.take ((whenB u).toNat + 1)) [] 0
    have h2 := tidG_len n (u.drop ((whenB u).toNat + 1))
    have h3 := szT_take_drop u ((whenB u).toNat + 1)
    simp only [gluedB, List.length_append, List.length_cons, List.length_nil] at h1 ⊢
    omega
  · have h1 := gluF_len u [] 0
    simp only [gluedB]; simp only [List.length_nil] at h1; omega

theorem costL_le (ts : Toks) (m : Nat) : ∀ (i a : Nat), ts.length - i = m → a ≤ i → costL ts (linesG (ts.drop i) i a) ≤ 20 * szT (ts.drop a) := by
  induction m with
  | zero =>
    intro i a h _
    rw [List.drop_eq_nil_of_le (by omega), linesG, costL]; omega
  | succ m ih =>
    intro i a h ha
    rw [drop_consT ts i (by omega), linesG]
    split
    · rw [costL]
      have h1 := ih (i + 1) (i + 1) (by omega) (Nat.le_refl _)
      have h2 := szT_take_drop (ts.drop a) (i - a)
      rw [List.drop_drop, show a + (i - a) = i by omega, drop_consT ts i (by omega), szT] at h2
      simp only [segT]
      omega
    · exact ih (i + 1) a (by omega) (by omega)

theorem costL_all (ts : Toks) : costL ts (linesB ts) ≤ 20 * szT ts := by
  have := costL_le ts ts.length 0 0 (by omega) (Nat.le_refl _)
  simpa [linesB] using this

theorem linesG_in (m : Nat) (ts : Toks) : ∀ (i a : Nat), ts.length - i = m → a ≤ i → ∀ p ∈ linesG (ts.drop i) i a, p.1 + p.2 < ts.length := by
  induction m with
  | zero =>
    intro i a h _ p hp
    rw [List.drop_eq_nil_of_le (by omega), linesG] at hp; simp at hp
  | succ m ih =>
    intro i a h ha p hp
    rw [drop_consT ts i (by omega), linesG] at hp
    split at hp
    · rcases List.mem_cons.1 hp with rfl | hp
      · simp only; omega
      · exact ih (i + 1) (i + 1) (by omega) (Nat.le_refl _) p hp
    · exact ih (i + 1) a (by omega) (by omega) p hp

theorem linesB_in (ts : Toks) : ∀ p ∈ linesB ts, p.1 + p.2 < ts.length := by
  have := linesG_in ts.length ts 0 0 (by omega) (Nat.le_refl _)
  simpa [linesB] using this

/-- The bytes of tokens, and one more for each, are no more than twice the text's. -/
theorem pieces_sz (n : Nat) : ∀ (l : Bs) (p : Nat), szT (pieces n l p) ≤ 2 * l.length := by
  induction n with
  | zero => intro l p; simp [pieces, szT]
  | succ n ih =>
    intro l p
    simp only [pieces]
    split
    · simp [szT]
    · split
      · have := ih (l.drop 1) (p + 1); rw [List.length_drop] at this; omega
      · rename_i h0 _
        have h1 := ih (l.drop (lenB l)) (p + lenB l); have h2 := lenB_pos l; have h3 := lenB_le (l := l) (by omega)
        rw [List.length_drop] at h1
        simp only [szT, List.length_take]
        omega

theorem toksAt_sz (l : Bs) : szT (toksAt l 0) ≤ 2 * l.length := by
  have := pieces_sz l.length l 0; simpa [toksAt] using this

/-- The document's Tidy of a text. -/
def tidyT (n : Nat) (l : Bs) : Bs := textG n (toksAt l 0) (linesB (toksAt l 0)) []

end Go.Proofs.YtnbpdffdnphbeaaGreat

/- Plain functions: the tokens as the program lays them. -/
namespace Go.Proofs.YtnbpdffdnphbeaaGreat
open Go

def keptL : List Bs := [[110, 117, 109], [102, 108, 97, 103], [114, 117, 108, 101], [111, 118, 101, 114], [119, 104, 101, 110], [111, 114], [97, 110, 100], [110, 111, 116], [104, 97, 115], [97, 108, 119, 97, 121, 115]]
def markL : List Bs := [[58], [61], [46, 46], [59], [40], [41], [60], [60, 61], [33, 61], [62, 61], [62], [43], [45], [42]]
def isKeptB (s : Bs) : Bool := keptL.contains s
def isMarkB (s : Bs) : Bool := markL.contains s

def valF : Int → Bs → Int
  | a, [] => a
  | a, c :: r => valF (10 * a + ((c.toNat : Int) - 48)) r

/-- The kinds of the program's tokens: 1 bad, 2 a name, 3 a number, 4 a kept word or a mark. -/
def pkind (s : Bs) : Int :=
  if so (s.getD 0 0) = 1 then (if 8 < s.length then 1 else if isKeptB s = true then 4 else 2)
  else if so (s.getD 0 0) = 2 then (if 4 < s.length ∨ 1 < s.length ∧ s.getD 0 0 = 48 then 1 else 3)
  else if isMarkB s = true then 4 else 1

def pval (s : Bs) : Int := if pkind s = 3 then valF 0 s else 0

/-- The cells of a token, as the program lays it. -/
def ptok (t : Nat × Bs) : List Value := [.int .i64 (pkind t.2), .string ⟨t.2.toArray⟩, .int .i64 (pval t.2), .int .i64 t.1]
def endTok (len : Nat) : List Value := [.int .i64 0, .string ⟨#[]⟩, .int .i64 0, .int .i64 len]
def flatP (ts : Toks) : List Value := ts.flatMap ptok

theorem flatP_len (ts : Toks) : (flatP ts).length = ts.length * 4 := by
  induction ts with
  | nil => rfl
  | cons t r ih => simp [flatP, ptok] at ih ⊢; omega
theorem flatP_snoc (ts : Toks) (t : Nat × Bs) : flatP (ts ++ [t]) = flatP ts ++ ptok t := by simp [flatP]

end Go.Proofs.YtnbpdffdnphbeaaGreat
