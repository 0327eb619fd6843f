/- Plain facts: what the program's Check asks of the lines that were read, and what the document's Check asks of their tokens, is the same. -/
import Derived.Test.YtnbpdffdnphbeaaGreatPure5
import Derived.Test.YtnbpdffdnphbeaaGreatWsum
namespace Go.Proofs.YtnbpdffdnphbeaaGreat

def pl0 : PLine := ⟨0, [], 0, 0, [], [], [], 0, 0, 0, []⟩
def lA (ls : List PLine) (i : Nat) : PLine := ls.getD i pl0
def uA (us : List Toks) (i : Nat) : Toks := us.getD i []

theorem AllLT.len : ∀ {ls : List PLine} {us : List Toks}, AllLT ls us → ls.length = us.length
  | [], [], _ => rfl
  | _ :: _, _ :: _, h => by rw [List.length_cons, List.length_cons, AllLT.len h.2]
  | [], _ :: _, h => absurd h id
  | _ :: _, [], h => absurd h id
theorem AllLT.get : ∀ {ls : List PLine} {us : List Toks}, AllLT ls us → ∀ i, i < us.length → LT (lA ls i) (uA us i)
  | [], [], _, i, hi => absurd hi (by simp)
  | x :: xs, u :: us, h, 0, _ => h.1
  | x :: xs, u :: us, h, i + 1, hi => AllLT.get h.2 i (by simpa using hi)
  | [], _ :: _, h, _, _ => absurd h id
  | _ :: _, [], h, _, _ => absurd h id
theorem AllLT.take : ∀ {ls : List PLine} {us : List Toks}, AllLT ls us → ∀ n, AllLT (ls.take n) (us.take n)
  | [], [], _, n => by simp [AllLT]
  | x :: xs, u :: us, h, 0 => trivial
  | x :: xs, u :: us, h, n + 1 => ⟨h.1, AllLT.take h.2 n⟩
  | [], _ :: _, h, _ => absurd h id
  | _ :: _, [], h, _ => absurd h id

/- The program's side. -/
def limP (k : Int) : Int := if k = 1 then 3 else if k = 2 then 3 else if k = 3 then 8 else if k = 4 then 28 else 0
def cntK (k : Int) : List PLine → Nat
  | [] => 0
  | x :: r => (if x.kind = k then 1 else 0) + cntK k r
def sumBig (S : List PPart) : Bool := decide (4 < S.length) || S.any partBig
def manyX (x : PLine) : Bool := decide (6 < x.tests) || (decide (4 < x.dep) || sumBig x.sum)
def manyP (ls : List PLine) (i : Nat) : Bool := decide (limP (lA ls i).kind ≤ (cntK (lA ls i).kind (ls.take i) : Int)) || (decide ((lA ls i).kind = 3) && manyX (lA ls i))
def isL (k : Int) (nm : Bs) (x : PLine) : Bool := decide (x.kind = k) && decide (x.name = nm)
def isC (nm : Bs) (x : PLine) : Bool := decide (x.kind = 3) && decide (x.conc = nm)
def hasL (ls : List PLine) (k : Int) (nm : Bs) : Bool := ls.any (isL k nm)
def isCon (ls : List PLine) (nm : Bs) : Bool := ls.any (isC nm)
def findG (p : PLine → Bool) : List PLine → Nat → Nat
  | [], i => i
  | x :: r, i => if p x then i else findG p r (i + 1)
def findR (ls : List PLine) (nm : Bs) : Nat := findG (isL 3 nm) ls 0
def sumOk (ls : List PLine) (nm : Bs) : Bool := hasL ls 1 nm || isCon ls nm
def needOk (ls : List PLine) (y : Nat × Bs) : Bool := if y.1 = 0 then sumOk ls y.2 else if y.1 = 1 then isCon ls y.2 else if y.1 = 2 then hasL ls 1 y.2 else hasL ls 2 y.2
def partOk (ls : List PLine) (x : PPart) : Bool := decide (x.name = []) || sumOk ls x.name
def nodeOk (ls : List PLine) (x : PNode) : Bool :=
  if x.kind = 5 then isCon ls x.name else if x.kind = 6 then hasL ls 2 x.name else if x.kind = 7 then (decide (x.other = []) || hasL ls 1 x.other) && hasL ls 1 x.name else true
def inpE (ls : List PLine) (i : Nat) : Int := if hasL (ls.take i) 1 (lA ls i).name || (hasL (ls.take i) 2 (lA ls i).name || isCon ls (lA ls i).name) then 4 else 0
def numE (ls : List PLine) (i : Nat) : Int := if inpE ls i = 0 then (if (lA ls i).high < (lA ls i).low then 5 else 0) else inpE ls i
def ruleE (ls : List PLine) (i : Nat) : Int := if hasL (ls.take i) 3 (lA ls i).name || ((lA ls i).sum.any (fun x => !partOk ls x) || (lA ls i).nd.any (fun x => !nodeOk ls x)) then 4 else 0
def overE (ls : List PLine) (x : PLine) : Int :=
  if findR ls x.name = ls.length ∨ findR ls x.lower = ls.length then 4
  else if x.name = x.lower ∨ (lA ls (findR ls x.name)).conc ≠ (lA ls (findR ls x.lower)).conc then 6 else 0
def errP (ls : List PLine) (i : Nat) : Int :=
  if (lA ls i).kind = 1 then numE ls i else if (lA ls i).kind = 2 then inpE ls i else if (lA ls i).kind = 3 then ruleE ls i else if (lA ls i).kind = 4 then overE ls (lA ls i) else 0

/- The document's side. -/
def limR (c : Bs) : Int := if c = kNum then 3 else if c = kFlag then 3 else if c = kRule then 8 else 28
def cntR (c : Bs) : List Toks → Nat
  | [] => 0
  | u :: r => (if cA u 0 = c then 1 else 0) + cntR c r
def wA' (u : Toks) : Nat := (whenB u).toNat
def manyU (u : Toks) : Bool := bigG [] (u.take (wA' u)) || (decide (4 < (cntPM (u.take (wA' u)) : Int) + 1) || (decide (6 < (weightG (u.length + 1) (u.drop (wA' u + 1))).1) || decide (4 < (weightG (u.length + 1) (u.drop (wA' u + 1))).2)))
def crowdR (us : List Toks) (i : Nat) : Bool := decide (limR (cA (uA us i) 0) < (cntR (cA (uA us i) 0) (us.take (i + 1)) : Int)) || (decide (cA (uA us i) 0 = kRule) && manyU (uA us i))
def firstG (p : Toks → Bool) : List Toks → Nat → Int
  | [], _ => -1
  | u :: r, i => if p u then (i : Int) else firstG p r (i + 1)
def isU (c : Bs) (at' : Nat) (nm : Bs) (u : Toks) : Bool := decide (cA u 0 = c) && decide (tA u at' = nm)
def firstB (us : List Toks) (c : Bs) (at' : Nat) (nm : Bs) : Int := firstG (isU c at' nm) us 0

theorem firstG_bound (p : Toks → Bool) (us : List Toks) : ∀ i, -1 ≤ firstG p us i ∧ firstG p us i < (i : Int) + us.length ∧ (0 ≤ firstG p us i → (i : Int) ≤ firstG p us i) := by
  induction us with
  | nil => intro i; simp [firstG]; omega
  | cons u r ih =>
    intro i
    rw [firstG]
    split
    · simp; omega
    · have := ih (i + 1); simp only [List.length_cons]; omega
theorem firstG_any (p : Toks → Bool) (us : List Toks) : ∀ i, 0 ≤ firstG p us i ↔ us.any p = true := by
  induction us with
  | nil => intro i; simp [firstG]
  | cons u r ih =>
    intro i
    rw [firstG, List.any_cons]
    split
    · rename_i h; simp [h]
    · rename_i h; rw [ih]; simp [h]
theorem firstG_take (p : Toks → Bool) (us : List Toks) : ∀ (i n : Nat), (0 ≤ firstG p us i ∧ firstG p us i < (i : Int) + n) ↔ (us.take n).any p = true := by
  induction us with
  | nil => intro i n; simp [firstG]
  | cons u r ih =>
    intro i n
    cases n with
    | zero => have := firstG_bound p (u :: r) i; simp; omega
    | succ n =>
      rw [firstG, List.take_succ_cons, List.any_cons]
      split
      · rename_i h; simp [h]; omega
      · rename_i h
        have := ih (i + 1) n
        have h' : p u = false := by simpa using h
        rw [h', Bool.false_or, ← this]
        omega
theorem findG_le (p : PLine → Bool) (ls : List PLine) : ∀ i, i ≤ findG p ls i ∧ findG p ls i ≤ i + ls.length := by
  induction ls with
  | nil => intro i; simp [findG]
  | cons x r ih => intro i; rw [findG]; split
                   · simp
                   · have := ih (i + 1); simp only [List.length_cons]; omega
/-- Both look for the first. -/
theorem first_find {p : PLine → Bool} {q : Toks → Bool} : ∀ {ls : List PLine} {us : List Toks}, AllLT ls us → (∀ x u, LT x u → p x = q u) → ∀ i : Nat, (findG p ls i = i + ls.length ∧ firstG q us i = -1) ∨ (findG p ls i < i + ls.length ∧ firstG q us i = (findG p ls i : Int))
  | [], [], _, _, i => .inl ⟨rfl, rfl⟩
  | x :: xs, u :: us, h, hpq, i => by
    rw [findG, firstG, ← hpq x u h.1, List.length_cons]
    split
    · exact .inr ⟨by omega, rfl⟩
    · rcases first_find h.2 hpq (i + 1) with ⟨h1, h2⟩ | ⟨h1, h2⟩
      · exact .inl ⟨by omega, h2⟩
      · exact .inr ⟨by omega, h2⟩
  | [], _ :: _, h, _, _ => absurd h id
  | _ :: _, [], h, _, _ => absurd h id
theorem any_same {p : PLine → Bool} {q : Toks → Bool} : ∀ {ls : List PLine} {us : List Toks}, AllLT ls us → (∀ x u, LT x u → p x = q u) → ls.any p = us.any q
  | [], [], _, _ => rfl
  | x :: xs, u :: us, h, hpq => by rw [List.any_cons, List.any_cons, hpq x u h.1, any_same h.2 hpq]
  | [], _ :: _, h, _ => absurd h id
  | _ :: _, [], h, _ => absurd h id

theorem kinds_ne : kNum ≠ kFlag ∧ kNum ≠ kRule ∧ kNum ≠ kOver ∧ kFlag ≠ kRule ∧ kFlag ≠ kOver ∧ kRule ≠ kOver := by decide
theorem LT.k1 {x : PLine} {u : Toks} (h : LT x u) : x.kind = 1 ↔ cA u 0 = kNum := by
  rcases h.kind with ⟨a, b, _⟩ | ⟨a, b⟩ | ⟨a, b, _⟩ | ⟨a, b, _⟩ <;> rw [a, b] <;> decide
theorem LT.k2 {x : PLine} {u : Toks} (h : LT x u) : x.kind = 2 ↔ cA u 0 = kFlag := by
  rcases h.kind with ⟨a, b, _⟩ | ⟨a, b⟩ | ⟨a, b, _⟩ | ⟨a, b, _⟩ <;> rw [a, b] <;> decide
theorem LT.k3 {x : PLine} {u : Toks} (h : LT x u) : x.kind = 3 ↔ cA u 0 = kRule := by
  rcases h.kind with ⟨a, b, _⟩ | ⟨a, b⟩ | ⟨a, b, _⟩ | ⟨a, b, _⟩ <;> rw [a, b] <;> decide
theorem LT.k4 {x : PLine} {u : Toks} (h : LT x u) : x.kind = 4 ↔ cA u 0 = kOver := by
  rcases h.kind with ⟨a, b, _⟩ | ⟨a, b⟩ | ⟨a, b, _⟩ | ⟨a, b, _⟩ <;> rw [a, b] <;> decide
theorem LT.rule {x : PLine} {u : Toks} (h : LT x u) (hk : cA u 0 = kRule) : ∃ w, RuleT x u w := by
  rcases h.kind with ⟨a, b, _⟩ | ⟨a, b⟩ | ⟨a, b, _⟩ | ⟨a, b, hr⟩
  · exact absurd (b.symm.trans hk) (by decide)
  · exact absurd (b.symm.trans hk) (by decide)
  · exact absurd (b.symm.trans hk) (by decide)
  · exact hr
theorem LT.len {x : PLine} {u : Toks} (h : LT x u) (hk : cA u 0 = kRule) : 6 ≤ u.length := by
  obtain ⟨w, hw⟩ := h.rule hk; have := hw.wlo; have := hw.whi; omega
theorem RuleT.wAt {x : PLine} {u : Toks} {w : Nat} (h : RuleT x u w) : wA' u = w := by unfold wA' whenB; rw [h.whenAt]; rfl
theorem RuleT.wB {x : PLine} {u : Toks} {w : Nat} (h : RuleT x u w) : whenB u = w := by unfold whenB; rw [h.whenAt]

theorem isL_same {x : PLine} {u : Toks} (h : LT x u) (k : Int) (c : Bs) (hk : (k = 1 ∧ c = kNum) ∨ (k = 2 ∧ c = kFlag) ∨ (k = 3 ∧ c = kRule)) (nm : Bs) : isL k nm x = isU c 1 nm u := by
  unfold isL isU
  rw [h.name]
  rcases hk with ⟨rfl, rfl⟩ | ⟨rfl, rfl⟩ | ⟨rfl, rfl⟩
  · rw [decide_eq_decide.2 h.k1]
  · rw [decide_eq_decide.2 h.k2]
  · rw [decide_eq_decide.2 h.k3]
theorem isC_same {x : PLine} {u : Toks} (h : LT x u) (nm : Bs) : isC nm x = isU kRule 3 nm u := by
  unfold isC isU
  rw [decide_eq_decide.2 h.k3]
  by_cases hk : cA u 0 = kRule
  · obtain ⟨w, hw⟩ := h.rule hk
    rw [hw.conc]
  · rw [decide_eq_false hk]; rfl

theorem lim_same {x : PLine} {u : Toks} (h : LT x u) : limP x.kind = limR (cA u 0) := by
  rcases h.kind with ⟨a, b, _⟩ | ⟨a, b⟩ | ⟨a, b, _⟩ | ⟨a, b, _⟩ <;> rw [a, b] <;> decide
theorem kind_eq {x y : PLine} {u v : Toks} (h : LT x u) (h' : LT y v) : x.kind = y.kind ↔ cA u 0 = cA v 0 := by
  rcases h.kind with ⟨a, b, _⟩ | ⟨a, b⟩ | ⟨a, b, _⟩ | ⟨a, b, _⟩ <;> rcases h'.kind with ⟨a', b', _⟩ | ⟨a', b'⟩ | ⟨a', b', _⟩ | ⟨a', b', _⟩ <;> rw [a, b, a', b'] <;> decide
theorem cnt_same {y : PLine} {v : Toks} (hy : LT y v) : ∀ {ls : List PLine} {us : List Toks}, AllLT ls us → cntK y.kind ls = cntR (cA v 0) us
  | [], [], _ => rfl
  | x :: xs, u :: us, h => by
    rw [cntK, cntR, cnt_same hy h.2]
    by_cases hk : x.kind = y.kind
    · rw [if_pos hk, if_pos ((kind_eq h.1 hy).1 hk)]
    · rw [if_neg hk, if_neg (fun e => hk ((kind_eq h.1 hy).2 e))]
  | [], _ :: _, h => absurd h id
  | _ :: _, [], h => absurd h id
theorem cntR_snoc (c : Bs) (us : List Toks) : ∀ i, i < us.length → cntR c (us.take (i + 1)) = cntR c (us.take i) + (if cA (uA us i) 0 = c then 1 else 0) := by
  induction us with
  | nil => intro i h; simp at h
  | cons u r ih =>
    intro i h
    cases i with
    | zero => simp [cntR, uA]
    | succ i =>
      rw [List.take_succ_cons, cntR, ih i (by simpa using h), List.take_succ_cons, cntR, show uA (u :: r) (i + 1) = uA r i from rfl]; omega

theorem many_same {x : PLine} {u : Toks} (h : LT x u) (hk : cA u 0 = kRule) : manyX x = manyU u := by
  obtain ⟨w, hw⟩ := h.rule hk
  unfold manyX manyU sumBig
  rw [hw.wAt, hw.big, hw.wt (u.length + 1) (by rw [List.length_drop]; omega)]
  have e : ((cntPM (u.take w) : Int) + 1) = (x.sum.length : Int) := by have := hw.parts; omega
  rw [e, show decide (4 < x.sum.length) = decide ((4 : Int) < (x.sum.length : Int)) by rw [decide_eq_decide]; omega]
  generalize decide ((4 : Int) < (x.sum.length : Int)) = a
  generalize x.sum.any partBig = b
  show (decide (6 < x.tests) || (decide (4 < x.dep) || (a || b))) = (b || (a || (decide (6 < x.tests) || decide (4 < x.dep))))
  cases a <;> cases b <;> cases decide (6 < x.tests) <;> cases decide (4 < x.dep) <;> rfl

theorem crowd_same {ls : List PLine} {us : List Toks} (h : AllLT ls us) {i : Nat} (hi : i < us.length) : crowdR us i = manyP ls i := by
  have hx := h.get i hi
  unfold crowdR manyP
  rw [cntR_snoc _ _ i hi, if_pos rfl, ← lim_same hx, cnt_same hx (h.take i)]
  have e : decide (limP (lA ls i).kind < ((cntR (cA (uA us i) 0) (us.take i) + 1 : Nat) : Int)) = decide (limP (lA ls i).kind ≤ (cntR (cA (uA us i) 0) (us.take i) : Int)) := by rw [decide_eq_decide]; omega
  rw [e]
  congr 1
  rw [decide_eq_decide.2 hx.k3]
  by_cases hk : cA (uA us i) 0 = kRule
  · rw [many_same hx hk]
  · rw [decide_eq_false hk]; rfl
end Go.Proofs.YtnbpdffdnphbeaaGreat

/- What the small functions of the program's check answer of lines that lie in memory. -/
namespace Go.Proofs.YtnbpdffdnphbeaaGreat
open Go.RowKit

theorem NodB.below {w w' : World} {B gN : Nat} {cur : Array Value} {N : List PNode} (h : NodB w gN cur N) (hb : Below B w w') (hB : w.heap.size ≤ B) : NodB w' gN cur N := by
  refine ⟨?_, h.row⟩
  rw [hb.block gN (Nat.lt_of_lt_of_le h.lt hB)]; exact h.blk
theorem ParB.below {w w' : World} {B gS : Nat} {cur : Array Value} {S : List PPart} (h : ParB w gS cur S) (hb : Below B w w') (hB : w.heap.size ≤ B) : ParB w' gS cur S := by
  refine ⟨?_, h.row⟩
  rw [hb.block gS (Nat.lt_of_lt_of_le h.lt hB)]; exact h.blk
theorem LinB.below {w w' : World} {B gl : Nat} {cur : Array Value} {ls : List LX} (h : LinB w gl cur ls) (hb : Below B w w') (hB : w.heap.size ≤ B) : LinB w' gl cur ls := by
  refine ⟨?_, h.row⟩
  rw [hb.block gl (Nat.lt_of_lt_of_le h.lt hB)]; exact h.blk
theorem LineB.below {w w' : World} {B : Nat} {x : LX} (h : LineB w x) (hb : Below B w w') (hB : w.heap.size ≤ B) : LineB w' x :=
  ⟨h.s1, h.s2, fun h0 => let ⟨g, c, cur, e, p⟩ := h.sum h0; ⟨g, c, cur, e, p.below hb hB⟩, fun h0 => let ⟨g, c, cur, e, p⟩ := h.nod h0; ⟨g, c, cur, e, p.below hb hB⟩⟩

/-- A line that was read, in memory. -/
structure LineC (w : World) (x : LX) : Prop where
  b : LineB w x
  g : GoodP x.1
  nds : x.1.nd.length ≤ maxLen
theorem LineC.below {w w' : World} {B : Nat} {x : LX} (h : LineC w x) (hb : Below B w w') (hB : w.heap.size ≤ B) : LineC w' x := ⟨h.b.below hb hB, h.g, h.nds⟩

/-- Lines lie in memory, behind a slice's pointer. -/
structure LinV (w : World) (a : Option Addr) (ls : List LX) : Prop where
  blk : 0 < ls.length → ∃ gl cur, a = some ⟨gl, 0, none⟩ ∧ LinB w gl cur ls
  rows : ∀ x ∈ ls, LineC w x
  few : ls.length ≤ 10000

theorem LinV.below {w w' : World} {B : Nat} {a : Option Addr} {ls : List LX} (h : LinV w a ls) (hb : Below B w w') (hB : w.heap.size ≤ B) : LinV w' a ls :=
  ⟨fun h0 => let ⟨gl, cur, e, p⟩ := h.blk h0; ⟨gl, cur, e, p.below hb hB⟩, fun x hx => (h.rows x hx).below hb hB, h.few⟩

theorem flatL_take (ls : List LX) (n : Nat) (h : n ≤ ls.length) : (flatL ls).take (n * 11) = flatL (ls.take n) := by
  induction ls generalizing n with
  | nil => simp [flatL]
  | cons x r ih =>
    cases n with
    | zero => simp [flatL]
    | succ n =>
      have e : ∀ (y : LX) (l : List LX), flatL (y :: l) = lineC y ++ flatL l := fun y l => by simp [flatL]
      have hl : (lineC x).length = 11 := rfl
      rw [List.take_succ_cons, e, e, List.take_append, hl, List.take_of_length_le (by rw [hl]; omega), show (n + 1) * 11 - 11 = n * 11 by omega, ih n (by simpa using h)]

theorem LinV.take {w : World} {a : Option Addr} {ls : List LX} (h : LinV w a ls) (n : Nat) : LinV w a (ls.take n) := by
  refine ⟨fun h0 => ?_, fun x hx => h.rows x (List.mem_of_mem_take hx), by have := h.few; rw [List.length_take]; omega⟩
  rw [List.length_take] at h0
  obtain ⟨gl, cur, e, p⟩ := h.blk (by omega)
  refine ⟨gl, cur, e, p.blk, ?_⟩
  rcases Nat.le_total n ls.length with hn | hn
  · rw [List.length_take, Nat.min_eq_left hn, ← flatL_take ls n hn, ← p.row, List.take_take, Nat.min_eq_left (by omega)]
  · rw [List.take_of_length_le hn]; exact p.row

/-- The cells of one line. -/
structure LnAt (w : World) (gl i : Nat) (x : PLine) (sv nv : Value) : Prop where
  c0 : w.cell? ⟨gl, i * 11, none⟩ = some (.int .i64 x.kind)
  c1 : w.cell? ⟨gl, i * 11 + 1, none⟩ = some (.string ⟨x.name.toArray⟩)
  c2 : w.cell? ⟨gl, i * 11 + 2, none⟩ = some (.int .i64 x.low)
  c3 : w.cell? ⟨gl, i * 11 + 3, none⟩ = some (.int .i64 x.high)
  c4 : w.cell? ⟨gl, i * 11 + 4, none⟩ = some (.string ⟨x.conc.toArray⟩)
  c5 : w.cell? ⟨gl, i * 11 + 5, none⟩ = some sv
  c6 : w.cell? ⟨gl, i * 11 + 6, none⟩ = some nv
  c7 : w.cell? ⟨gl, i * 11 + 7, none⟩ = some (.int .i64 x.root)
  c8 : w.cell? ⟨gl, i * 11 + 8, none⟩ = some (.int .i64 x.tests)
  c9 : w.cell? ⟨gl, i * 11 + 9, none⟩ = some (.int .i64 x.dep)
  c10 : w.cell? ⟨gl, i * 11 + 10, none⟩ = some (.string ⟨x.lower.toArray⟩)

theorem LinV.line {w : World} {a : Option Addr} {ls : List LX} (h : LinV w a ls) {i : Nat} (hi : i < ls.length) :
    ∃ gl sa sn sc na nn nc, a = some ⟨gl, 0, none⟩ ∧ gl < w.heap.size ∧ LnAt w gl i (lAt ls i).1 (.slice sa sn sc) (.slice na nn nc) ∧ (lAt ls i).2 = (.slice sa sn sc, .slice na nn nc) ∧ LineC w (lAt ls i) := by
  obtain ⟨gl, cur, rfl, p⟩ := h.blk (by omega)
  have hb := h.rows _ (lAt_mem hi)
  obtain ⟨sa, sn, sc, e1⟩ := hb.b.s1
  obtain ⟨na, nn, nc, e2⟩ := hb.b.s2
  have hx := fun j hj (u : Value) hu => p.cell hi j hj (u := u) hu
  refine ⟨gl, sa, sn, sc, na, nn, nc, rfl, p.lt, ⟨hx 0 (by omega) _ rfl, hx 1 (by omega) _ rfl, hx 2 (by omega) _ rfl, hx 3 (by omega) _ rfl, hx 4 (by omega) _ rfl, hx 5 (by omega) _ (by rw [← e1]; rfl), hx 6 (by omega) _ (by rw [← e2]; rfl), hx 7 (by omega) _ rfl, hx 8 (by omega) _ rfl, hx 9 (by omega) _ rfl, hx 10 (by omega) _ rfl⟩, ?_, hb⟩
  rw [← e1, ← e2]

theorem any_drop {α : Type} (p : α → Bool) (d : α) (l : List α) (i : Nat) (h : i < l.length) : (l.drop i).any p = (p (l.getD i d) || (l.drop (i + 1)).any p) := by
  rw [List.drop_eq_getElem_cons h, List.any_cons]; simp [List.getD, h]

abbrev fs (ls : List LX) : List PLine := ls.map Prod.fst
theorem fs_get (ls : List LX) (i : Nat) : lA (fs ls) i = (lAt ls i).1 := by
  unfold lA lAt; simp only [List.getD, List.getElem?_map]
  cases ls[i]? <;> rfl

set_option maxHeartbeats 1000000 in
theorem hasLine_s (w : World) (a : Option Addr) (c : Nat) (ls : List LX) (k : Int) (nm : Bs) (h : LinV w a ls) :
    Calls Tryz.prog 79 #[.slice a ls.length c, .int .i64 k, .string ⟨nm.toArray⟩] w fun e w' => e = .returned (.bool (hasL (fs ls) k nm)) ∧ Below w.heap.size w w' := by
  have HL := hideP2 h
  have hfew := h.few
  clear h
  go_enter Tryz.func79, Tryz.ntmps79
  go_wp2_with fail
  go_loopw [11] (fun iv wr => ∃ (i : Nat), i ≤ ls.length ∧ iv = .int .i64 i ∧ Hid (Below w.heap.size w wr) ∧ Hid (((fs ls).drop i).any (isL k nm) = hasL (fs ls) k nm)) (fun iv _ => ls.length - (intOf iv).toNat)
  case atStart => exact ⟨0, Nat.zero_le _, rfl, hideP2 (Below.refl _ _), hideP2 rfl⟩
  case round =>
    obtain ⟨i, hi, rfl, HB, HE⟩ := hrel
    by_cases hlt : i < ls.length
    · obtain ⟨gl, sa, sn, sc, na, nn, nc, rfl, hgl, ⟨c0, c1, c2, c3, c4, c5, c6, c7, c8, c9, c10⟩, _, _⟩ := (HL.out.below HB.out (Nat.le_refl _)).line hlt
      have hE := HE.out
      rw [any_drop _ pl0 _ i (by simpa using hlt), show (fs ls).getD i pl0 = lA (fs ls) i from rfl, fs_get] at hE
      have HE2 := hideP2 hE
      have hsz := HB.out.size
      clear HE hE
      generalize (lAt ls i).1 = x at *
      obtain ⟨kd, n1, lo, hi', cc, S, N, ro, te, de, lw⟩ := x
      simp only at c0 c1 c2 c3 c4 c5 c6 c7 c8 c9 c10
      by_cases k1 : kd = k
      · by_cases k2 : n1 = nm
        · have HE3 : Hid (hasL (fs ls) k nm = true) := by have := HE2.out; unfold Hid; rw [← this]; simp [isL, k1, k2]
          have b1 : (kd == k) = true := by simpa using k1
          have b2 : (n1 == nm) = true := by simpa using k2
          clear HE2 k1 k2
          go_wp2_with fail
          go_ret
          exact ⟨ret_bool HE3.out.symm, HB.out.alloc hsz _⟩
        · have HE3 : Hid (((fs ls).drop (i + 1)).any (isL k nm) = hasL (fs ls) k nm) := by have := HE2.out; unfold Hid; rw [← this]; simp [isL, k2]
          have b1 : (kd == k) = true := by simpa using k1
          have b2 : (n1 == nm) = false := by simpa using k2
          clear HE2 k1 k2
          go_wp2_with fail
          go_roundw
          case rel => exact ⟨i + 1, by omega, by go_num, hideP2 (HB.out.alloc hsz _), HE3⟩
          case measure => simp [intOf]; omega
      · have HE3 : Hid (((fs ls).drop (i + 1)).any (isL k nm) = hasL (fs ls) k nm) := by have := HE2.out; unfold Hid; rw [← this]; simp [isL, k1]
        have b1 : (kd == k) = false := by simpa using k1
        clear HE2 k1
        go_wp2_with fail
        go_roundw
        case rel => exact ⟨i + 1, by omega, by go_num, hideP2 (HB.out.alloc hsz _), HE3⟩
        case measure => simp [intOf]; omega
    · have HE3 : Hid (hasL (fs ls) k nm = false) := by have := HE.out; rw [List.drop_eq_nil_of_le (by simp; omega)] at this; exact this.symm
      clear HE
      go_wp2_with fail
      go_ret
      exact ⟨ret_bool HE3.out.symm, HB.out⟩
end Go.Proofs.YtnbpdffdnphbeaaGreat
