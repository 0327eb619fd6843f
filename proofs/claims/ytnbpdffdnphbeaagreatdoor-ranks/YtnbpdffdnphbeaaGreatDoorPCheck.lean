/- Plain facts: what the program's Check asks of the lines that were read, and what the document's Check asks of their tokens, is the same. -/
import Derived.Test.YtnbpdffdnphbeaaGreatDoorPure5
import Derived.Test.YtnbpdffdnphbeaaGreatDoorLex
namespace Go.Proofs.YtnbpdffdnphbeaaGreatDoor

def pl0 : PLine := ⟨0, [], 0, 0, [], [], [], 0, 0, 0, []⟩
def lA (ls : List PLine) (i : Nat) : PLine := ls.getD i pl0
def uA (us : List Toks) (i : Nat) : Toks := us.getD i []

theorem AllLT.len : ∀ {ls : List PLine} {us : List Toks}, AllLT ls us → ls.length = us.length
  | [], [], _ => rfl
  | _ :: _, _ :: _, h => by rw [List.length_cons, List.length_cons, AllLT.len h.2]
  | [], _ :: _, h => absurd h id
  | _ :: _, [], h => absurd h id
theorem AllLT.get : ∀ {ls : List PLine} {us : List Toks}, AllLT ls us → ∀ i, i < us.length → LT (lA ls i) (uA us i)
  | [], [], _, i, hi => absurd hi (by simp)
  | x :: xs, u :: us, h, 0, _ => h.1
  | x :: xs, u :: us, h, i + 1, hi => AllLT.get h.2 i (by simpa using hi)
  | [], _ :: _, h, _, _ => absurd h id
  | _ :: _, [], h, _, _ => absurd h id
theorem AllLT.take : ∀ {ls : List PLine} {us : List Toks}, AllLT ls us → ∀ n, AllLT (ls.take n) (us.take n)
  | [], [], _, n => by simp [AllLT]
  | x :: xs, u :: us, h, 0 => trivial
  | x :: xs, u :: us, h, n + 1 => ⟨h.1, AllLT.take h.2 n⟩
  | [], _ :: _, h, _ => absurd h id
  | _ :: _, [], h, _ => absurd h id

/- The program's side. -/
def limP (k : Int) : Int := if k = 1 then 3 else if k = 2 then 3 else if k = 3 then 8 else if k = 4 then 28 else 0
def cntK (k : Int) : List PLine → Nat
  | [] => 0
  | x :: r => (if x.kind = k then 1 else 0) + cntK k r
def sumBig (S : List PPart) : Bool := decide (4 < S.length) || S.any partBig
def manyX (x : PLine) : Bool := decide (6 < x.tests) || (decide (4 < x.dep) || sumBig x.sum)
def manyP (ls : List PLine) (i : Nat) : Bool := decide (limP (lA ls i).kind ≤ (cntK (lA ls i).kind (ls.take i) : Int)) || (decide ((lA ls i).kind = 3) && manyX (lA ls i))
def isL (k : Int) (nm : Bs) (x : PLine) : Bool := decide (x.kind = k) && decide (x.name = nm)
def isC (nm : Bs) (x : PLine) : Bool := decide (x.kind = 3) && decide (x.conc = nm)
def hasL (ls : List PLine) (k : Int) (nm : Bs) : Bool := ls.any (isL k nm)
def isCon (ls : List PLine) (nm : Bs) : Bool := ls.any (isC nm)
def findG (p : PLine → Bool) : List PLine → Nat → Nat
  | [], i => i
  | x :: r, i => if p x then i else findG p r (i + 1)
def findR (ls : List PLine) (nm : Bs) : Nat := findG (isL 3 nm) ls 0
def sumOk (ls : List PLine) (nm : Bs) : Bool := hasL ls 1 nm || isCon ls nm
def needOk (ls : List PLine) (y : Nat × Bs) : Bool := if y.1 = 0 then sumOk ls y.2 else if y.1 = 1 then isCon ls y.2 else if y.1 = 2 then hasL ls 1 y.2 else hasL ls 2 y.2
def partOk (ls : List PLine) (x : PPart) : Bool := decide (x.name = []) || sumOk ls x.name
def nodeOk (ls : List PLine) (x : PNode) : Bool :=
  if x.kind = 5 then isCon ls x.name else if x.kind = 6 then hasL ls 2 x.name else if x.kind = 7 then (decide (x.other = []) || hasL ls 1 x.other) && hasL ls 1 x.name else true
def inpE (ls : List PLine) (i : Nat) : Int := if hasL (ls.take i) 1 (lA ls i).name || (hasL (ls.take i) 2 (lA ls i).name || isCon ls (lA ls i).name) then 4 else 0
def numE (ls : List PLine) (i : Nat) : Int := if inpE ls i = 0 then (if (lA ls i).high < (lA ls i).low then 5 else 0) else inpE ls i
def ruleE (ls : List PLine) (i : Nat) : Int := if hasL (ls.take i) 3 (lA ls i).name || ((lA ls i).sum.any (fun x => !partOk ls x) || (lA ls i).nd.any (fun x => !nodeOk ls x)) then 4 else 0
def overE (ls : List PLine) (x : PLine) : Int :=
  if findR ls x.name = ls.length ∨ findR ls x.lower = ls.length then 4
  else if x.name = x.lower ∨ (lA ls (findR ls x.name)).conc ≠ (lA ls (findR ls x.lower)).conc then 6 else 0
def errP (ls : List PLine) (i : Nat) : Int :=
  if (lA ls i).kind = 1 then numE ls i else if (lA ls i).kind = 2 then inpE ls i else if (lA ls i).kind = 3 then ruleE ls i else if (lA ls i).kind = 4 then overE ls (lA ls i) else 0

/- The document's side. -/
def limR (c : Bs) : Int := if c = kNum then 3 else if c = kFlag then 3 else if c = kRule then 8 else 28
def cntR (c : Bs) : List Toks → Nat
  | [] => 0
  | u :: r => (if cA u 0 = c then 1 else 0) + cntR c r
def wA' (u : Toks) : Nat := (whenB u).toNat
def manyU (u : Toks) : Bool := bigG [] (u.take (wA' u)) || (decide (4 < (cntPM (u.take (wA' u)) : Int) + 1) || (decide (6 < (weightG (u.length + 1) (u.drop (wA' u + 1))).1) || decide (4 < (weightG (u.length + 1) (u.drop (wA' u + 1))).2)))
def crowdR (us : List Toks) (i : Nat) : Bool := decide (limR (cA (uA us i) 0) < (cntR (cA (uA us i) 0) (us.take (i + 1)) : Int)) || (decide (cA (uA us i) 0 = kRule) && manyU (uA us i))
def firstG (p : Toks → Bool) : List Toks → Nat → Int
  | [], _ => -1
  | u :: r, i => if p u then (i : Int) else firstG p r (i + 1)
def isU (c : Bs) (at' : Nat) (nm : Bs) (u : Toks) : Bool := decide (cA u 0 = c) && decide (tA u at' = nm)
def firstB (us : List Toks) (c : Bs) (at' : Nat) (nm : Bs) : Int := firstG (isU c at' nm) us 0

theorem firstG_bound (p : Toks → Bool) (us : List Toks) : ∀ i, -1 ≤ firstG p us i ∧ firstG p us i < (i : Int) + us.length ∧ (0 ≤ firstG p us i → (i : Int) ≤ firstG p us i) := by
  induction us with
  | nil => intro i; simp [firstG]; omega
  | cons u r ih =>
    intro i
    rw [firstG]
    split
    · simp; omega
    · have := ih (i + 1); simp only [List.length_cons]; omega
theorem firstG_any (p : Toks → Bool) (us : List Toks) : ∀ i, 0 ≤ firstG p us i ↔ us.any p = true := by
  induction us with
  | nil => intro i; simp [firstG]
  | cons u r ih =>
    intro i
    rw [firstG, List.any_cons]
    split
    · rename_i h; simp [h]
    · rename_i h; rw [ih]; simp [h]
theorem firstG_take (p : Toks → Bool) (us : List Toks) : ∀ (i n : Nat), (0 ≤ firstG p us i ∧ firstG p us i < (i : Int) + n) ↔ (us.take n).any p = true := by
  induction us with
  | nil => intro i n; simp [firstG]
  | cons u r ih =>
    intro i n
    cases n with
    | zero => have := firstG_bound p (u :: r) i; simp; omega
    | succ n =>
      rw [firstG, List.take_succ_cons, List.any_cons]
      split
      · rename_i h; simp [h]; omega
      · rename_i h
        have := ih (i + 1) n
        have h' : p u = false := by simpa using h
        rw [h', Bool.false_or, ← this]
        omega
theorem findG_le (p : PLine → Bool) (ls : List PLine) : ∀ i, i ≤ findG p ls i ∧ findG p ls i ≤ i + ls.length := by
  induction ls with
  | nil => intro i; simp [findG]
  | cons x r ih => intro i; rw [findG]; split
                   · simp
                   · have := ih (i + 1); simp only [List.length_cons]; omega
/-- Both look for the first. -/
theorem first_find {p : PLine → Bool} {q : Toks → Bool} : ∀ {ls : List PLine} {us : List Toks}, AllLT ls us → (∀ x u, LT x u → p x = q u) → ∀ i : Nat, (findG p ls i = i + ls.length ∧ firstG q us i = -1) ∨ (findG p ls i < i + ls.length ∧ firstG q us i = (findG p ls i : Int))
  | [], [], _, _, i => .inl ⟨rfl, rfl⟩
  | x :: xs, u :: us, h, hpq, i => by
    rw [findG, firstG, ← hpq x u h.1, List.length_cons]
    split
    · exact .inr ⟨by omega, rfl⟩
    · rcases first_find h.2 hpq (i + 1) with ⟨h1, h2⟩ | ⟨h1, h2⟩
      · exact .inl ⟨by omega, h2⟩
      · exact .inr ⟨by omega, h2⟩
  | [], _ :: _, h, _, _ => absurd h id
  | _ :: _, [], h, _, _ => absurd h id
theorem any_same {p : PLine → Bool} {q : Toks → Bool} : ∀ {ls : List PLine} {us : List Toks}, AllLT ls us → (∀ x u, LT x u → p x = q u) → ls.any p = us.any q
  | [], [], _, _ => rfl
  | x :: xs, u :: us, h, hpq => by rw [List.any_cons, List.any_cons, hpq x u h.1, any_same h.2 hpq]
  | [], _ :: _, h, _ => absurd h id
  | _ :: _, [], h, _ => absurd h id

theorem kinds_ne : kNum ≠ kFlag ∧ kNum ≠ kRule ∧ kNum ≠ kOver ∧ kFlag ≠ kRule ∧ kFlag ≠ kOver ∧ kRule ≠ kOver := by decide
theorem LT.k1 {x : PLine} {u : Toks} (h : LT x u) : x.kind = 1 ↔ cA u 0 = kNum := by
  rcases h.kind with ⟨a, b, _⟩ | ⟨a, b⟩ | ⟨a, b, _⟩ | ⟨a, b, _⟩ <;> rw [a, b] <;> decide
theorem LT.k2 {x : PLine} {u : Toks} (h : LT x u) : x.kind = 2 ↔ cA u 0 = kFlag := by
  rcases h.kind with ⟨a, b, _⟩ | ⟨a, b⟩ | ⟨a, b, _⟩ | ⟨a, b, _⟩ <;> rw [a, b] <;> decide
theorem LT.k3 {x : PLine} {u : Toks} (h : LT x u) : x.kind = 3 ↔ cA u 0 = kRule := by
  rcases h.kind with ⟨a, b, _⟩ | ⟨a, b⟩ | ⟨a, b, _⟩ | ⟨a, b, _⟩ <;> rw [a, b] <;> decide
theorem LT.k4 {x : PLine} {u : Toks} (h : LT x u) : x.kind = 4 ↔ cA u 0 = kOver := by
  rcases h.kind with ⟨a, b, _⟩ | ⟨a, b⟩ | ⟨a, b, _⟩ | ⟨a, b, _⟩ <;> rw [a, b] <;> decide
theorem LT.rule {x : PLine} {u : Toks} (h : LT x u) (hk : cA u 0 = kRule) : ∃ w, RuleT x u w := by
  rcases h.kind with ⟨a, b, _⟩ | ⟨a, b⟩ | ⟨a, b, _⟩ | ⟨a, b, hr⟩
  · exact absurd (b.symm.trans hk) (by decide)
  · exact absurd (b.symm.trans hk) (by decide)
  · exact absurd (b.symm.trans hk) (by decide)
  · exact hr
theorem LT.len {x : PLine} {u : Toks} (h : LT x u) (hk : cA u 0 = kRule) : 6 ≤ u.length := by
  obtain ⟨w, hw⟩ := h.rule hk; have := hw.wlo; have := hw.whi; omega
theorem RuleT.wAt {x : PLine} {u : Toks} {w : Nat} (h : RuleT x u w) : wA' u = w := by unfold wA' whenB; rw [h.whenAt]; rfl
theorem RuleT.wB {x : PLine} {u : Toks} {w : Nat} (h : RuleT x u w) : whenB u = w := by unfold whenB; rw [h.whenAt]

theorem isL_same {x : PLine} {u : Toks} (h : LT x u) (k : Int) (c : Bs) (hk : (k = 1 ∧ c = kNum) ∨ (k = 2 ∧ c = kFlag) ∨ (k = 3 ∧ c = kRule)) (nm : Bs) : isL k nm x = isU c 1 nm u := by
  unfold isL isU
  rw [h.name]
  rcases hk with ⟨rfl, rfl⟩ | ⟨rfl, rfl⟩ | ⟨rfl, rfl⟩
  · rw [decide_eq_decide.2 h.k1]
  · rw [decide_eq_decide.2 h.k2]
  · rw [decide_eq_decide.2 h.k3]
theorem isC_same {x : PLine} {u : Toks} (h : LT x u) (nm : Bs) : isC nm x = isU kRule 3 nm u := by
  unfold isC isU
  rw [decide_eq_decide.2 h.k3]
  by_cases hk : cA u 0 = kRule
  · obtain ⟨w, hw⟩ := h.rule hk
    rw [hw.conc]
  · rw [decide_eq_false hk]; rfl

theorem lim_same {x : PLine} {u : Toks} (h : LT x u) : limP x.kind = limR (cA u 0) := by
  rcases h.kind with ⟨a, b, _⟩ | ⟨a, b⟩ | ⟨a, b, _⟩ | ⟨a, b, _⟩ <;> rw [a, b] <;> decide
theorem kind_eq {x y : PLine} {u v : Toks} (h : LT x u) (h' : LT y v) : x.kind = y.kind ↔ cA u 0 = cA v 0 := by
  rcases h.kind with ⟨a, b, _⟩ | ⟨a, b⟩ | ⟨a, b, _⟩ | ⟨a, b, _⟩ <;> rcases h'.kind with ⟨a', b', _⟩ | ⟨a', b'⟩ | ⟨a', b', _⟩ | ⟨a', b', _⟩ <;> rw [a, b, a', b'] <;> decide
theorem cnt_same {y : PLine} {v : Toks} (hy : LT y v) : ∀ {ls : List PLine} {us : List Toks}, AllLT ls us → cntK y.kind ls = cntR (cA v 0) us
  | [], [], _ => rfl
  | x :: xs, u :: us, h => by
    rw [cntK, cntR, cnt_same hy h.2]
    by_cases hk : x.kind = y.kind
    · rw [if_pos hk, if_pos ((kind_eq h.1 hy).1 hk)]
    · rw [if_neg hk, if_neg (fun e => hk ((kind_eq h.1 hy).2 e))]
  | [], _ :: _, h => absurd h id
  | _ :: _, [], h => absurd h id
theorem cntR_snoc (c : Bs) (us : List Toks) : ∀ i, i < us.length → cntR c (us.take (i + 1)) = cntR c (us.take i) + (if cA (uA us i) 0 = c then 1 else 0) := by
  induction us with
  | nil => intro i h; simp at h
  | cons u r ih =>
    intro i h
    cases i with
    | zero => simp [cntR, uA]
    | succ i =>
      rw [List.take_succ_cons, cntR, ih i (by simpa using h), List.take_succ_cons, cntR, show uA (u :: r) (i + 1) = uA r i from rfl]; omega

theorem many_same {x : PLine} {u : Toks} (h : LT x u) (hk : cA u 0 = kRule) : manyX x = manyU u := by
  obtain ⟨w, hw⟩ := h.rule hk
  unfold manyX manyU sumBig
  rw [hw.wAt, hw.big, hw.wt (u.length + 1) (by rw [List.length_drop]; omega)]
  have e : ((cntPM (u.take w) : Int) + 1) = (x.sum.length : Int) := by have := hw.parts; omega
  rw [e, show decide (4 < x.sum.length) = decide ((4 : Int) < (x.sum.length : Int)) by rw [decide_eq_decide]; omega]
  generalize decide ((4 : Int) < (x.sum.length : Int)) = a
  generalize x.sum.any partBig = b
  show (decide (6 < x.tests) || (decide (4 < x.dep) || (a || b))) = (b || (a || (decide (6 < x.tests) || decide (4 < x.dep))))
  cases a <;> cases b <;> cases decide (6 < x.tests) <;> cases decide (4 < x.dep) <;> rfl

theorem crowd_same {ls : List PLine} {us : List Toks} (h : AllLT ls us) {i : Nat} (hi : i < us.length) : crowdR us i = manyP ls i := by
  have hx := h.get i hi
  unfold crowdR manyP
  rw [cntR_snoc _ _ i hi, if_pos rfl, ← lim_same hx, cnt_same hx (h.take i)]
  have e : decide (limP (lA ls i).kind < ((cntR (cA (uA us i) 0) (us.take i) + 1 : Nat) : Int)) = decide (limP (lA ls i).kind ≤ (cntR (cA (uA us i) 0) (us.take i) : Int)) := by rw [decide_eq_decide]; omega
  rw [e]
  congr 1
  rw [decide_eq_decide.2 hx.k3]
  by_cases hk : cA (uA us i) 0 = kRule
  · rw [many_same hx hk]
  · rw [decide_eq_false hk]; rfl
end Go.Proofs.YtnbpdffdnphbeaaGreatDoor

/- Chains of arrows: what the program's closing of eight points by eight comes to, and what the document's looking again and again does. Nothing of the program's run is here. -/
namespace Go.Proofs.YtnbpdffdnphbeaaGreatDoor

/-- A chain of arrows, one or more: in every relation that has the arrows and can be gone on in. -/
def TC (M : Nat → Nat → Prop) (a b : Nat) : Prop := ∀ R : Nat → Nat → Prop, (∀ x y, M x y → R x y) → (∀ x y z, R x y → R y z → R x z) → R a b
theorem TC.one {M : Nat → Nat → Prop} {a b : Nat} (h : M a b) : TC M a b := fun _ h1 _ => h1 _ _ h
theorem TC.trans {M : Nat → Nat → Prop} {a b c : Nat} (h : TC M a b) (h' : TC M b c) : TC M a c := fun R h1 h2 => h2 _ _ _ (h R h1 h2) (h' R h1 h2)
theorem TC.mono {M M' : Nat → Nat → Prop} (hm : ∀ x y, M x y → M' x y) {a b : Nat} (h : TC M a b) : TC M' a b := fun R h1 h2 => h R (fun x y h3 => h1 x y (hm x y h3)) h2

/-- An arrow of a graph of eight points. -/
def gA (G : List Bool) (a b : Nat) : Bool := G.getD (a * 8 + b) false
/-- One look: by the middle point q / 64, from and to what q says. -/
def wS (q : Nat) (G : List Bool) : List Bool := if gA G (q % 64 / 8) (q / 64) && gA G (q / 64) (q % 8) then G.set (q % 64) true else G
def wA : Nat → Nat → List Bool → List Bool
  | 0, _, G => G
  | n + 1, q, G => wA n (q + 1) (wS q G)
def chainsB (G : List Bool) : List Bool := wA 512 0 G

theorem wS_len (q : Nat) (G : List Bool) : (wS q G).length = G.length := by unfold wS; split <;> simp
theorem wA_len (n : Nat) : ∀ q G, (wA n q G).length = G.length := by
  induction n with
  | zero => intro q G; rfl
  | succ n ih => intro q G; rw [wA, ih, wS_len]
theorem wA_add (n : Nat) : ∀ m q G, wA (n + m) q G = wA m (q + n) (wA n q G) := by
  induction n with
  | zero => intro m q G; simp [wA]
  | succ n ih => intro m q G; rw [show n + 1 + m = (n + m) + 1 by omega, wA, wA, ih, show q + 1 + n = q + (n + 1) by omega]

theorem gA_set {G : List Bool} (hl : G.length = 64) {p a b : Nat} (hp : p < 64) : gA (G.set p true) a b = (gA G a b || decide (a * 8 + b = p)) := by
  unfold gA
  simp only [List.getD_eq_getElem?_getD, List.getElem?_set]
  by_cases h : p = a * 8 + b
  · subst h; simp [hl, hp]
  · rw [if_neg h, decide_eq_false (fun e => h e.symm), Bool.or_false]

/-- The looks by one middle point, so far. -/
theorem wA_mid {G : List Bool} (hl : G.length = 64) {m : Nat} (hm : m < 8) (p : Nat) : p ≤ 64 → ∀ a b, a < 8 → b < 8 → gA (wA p (m * 64) G) a b = (gA G a b || (decide (a * 8 + b < p) && (gA G a m && gA G m b))) := by
  induction p with
  | zero => intro _ a b _ _; simp [wA]
  | succ p ih =>
    intro hp a b ha hb
    have ih := ih (by omega)
    rw [wA_add p 1, wA, wA]
    have e1 : (m * 64 + p) % 64 = p := by omega
    have e2 : (m * 64 + p) / 64 = m := by omega
    have e3 : (m * 64 + p) % 8 = p % 8 := by omega
    unfold wS
    rw [e1, e2, e3]
    have hl2 : (wA p (m * 64) G).length = 64 := by rw [wA_len, hl]
    have k1 := ih (p / 8) m (by omega) hm
    have k2 := ih m (p % 8) hm (by omega)
    have k3 := ih a b ha hb
    generalize wA p (m * 64) G = H at *
    have c1 : gA H (p / 8) m = gA G (p / 8) m := by rw [k1]; cases gA G (p / 8) m <;> simp
    have c2 : gA H m (p % 8) = gA G m (p % 8) := by rw [k2]; cases gA G m (p % 8) <;> simp
    rw [c1, c2]
    by_cases hab : a * 8 + b = p
    · have ea : p / 8 = a := by omega
      have eb : p % 8 = b := by omega
      rw [ea, eb]
      have d1 : decide (a * 8 + b < p + 1) = true := by simp; omega
      rw [d1]
      split
      · rename_i h; rw [gA_set hl2 (by omega), k3, h]; simp [hab]
      · rename_i h; rw [k3]; have : (gA G a m && gA G m b) = false := by simpa using h
        rw [this]; simp
    · have d1 : decide (a * 8 + b < p + 1) = decide (a * 8 + b < p) := by by_cases h : a * 8 + b < p <;> simp [h] <;> omega
      rw [d1, ← k3]
      split
      · rw [gA_set hl2 (by omega), decide_eq_false hab, Bool.or_false]
      · rfl

theorem wA_all {G : List Bool} (hl : G.length = 64) {m : Nat} (hm : m < 8) {a b : Nat} (ha : a < 8) (hb : b < 8) : gA (wA 64 (m * 64) G) a b = (gA G a b || (gA G a m && gA G m b)) := by
  rw [wA_mid hl hm 64 (Nat.le_refl _) a b ha hb, decide_eq_true (by omega : a * 8 + b < 64), Bool.true_and]

/-- The arrows between eight points. -/
def arr (G : List Bool) (a b : Nat) : Prop := a < 8 ∧ b < 8 ∧ gA G a b = true

theorem wA_said {G : List Bool} (hl : G.length = 64) (m : Nat) : m ≤ 8 → (∀ a b, arr G a b → arr (wA (m * 64) 0 G) a b) ∧ (∀ a b, arr (wA (m * 64) 0 G) a b → TC (arr G) a b) ∧ (∀ k, k < m → ∀ a b, arr (wA (m * 64) 0 G) a k → arr (wA (m * 64) 0 G) k b → arr (wA (m * 64) 0 G) a b) := by
  induction m with
  | zero => intro _; refine ⟨fun a b h => by simpa [wA] using h, fun a b h => TC.one (by simpa [wA] using h), fun k hk => by omega⟩
  | succ m ih =>
    intro hm
    obtain ⟨i1, i2, i3⟩ := ih (by omega)
    rw [show (m + 1) * 64 = m * 64 + 64 by omega, wA_add, Nat.zero_add]
    have hl2 : (wA (m * 64) 0 G).length = 64 := by rw [wA_len, hl]
    generalize wA (m * 64) 0 G = H at *
    have key : ∀ a b, arr (wA 64 (m * 64) H) a b ↔ (arr H a b ∨ arr H a m ∧ arr H m b) := by
      intro a b
      constructor
      · rintro ⟨ha, hb, h⟩
        rw [wA_all hl2 (by omega) ha hb, Bool.or_eq_true, Bool.and_eq_true] at h
        rcases h with h | ⟨h, h'⟩
        · exact .inl ⟨ha, hb, h⟩
        · exact .inr ⟨⟨ha, by omega, h⟩, ⟨by omega, hb, h'⟩⟩
      · rintro (⟨ha, hb, h⟩ | ⟨⟨ha, _, h⟩, ⟨_, hb, h'⟩⟩)
        · exact ⟨ha, hb, by rw [wA_all hl2 (by omega) ha hb, h]; rfl⟩
        · exact ⟨ha, hb, by rw [wA_all hl2 (by omega) ha hb, h, h']; simp⟩
    refine ⟨fun a b h => (key a b).2 (.inl (i1 a b h)), fun a b h => ?_, fun k hk a b h1 h2 => ?_⟩
    · rcases (key a b).1 h with h | ⟨h, h'⟩
      · exact i2 _ _ h
      · exact (i2 _ _ h).trans (i2 _ _ h')
    · rw [key] at h1 h2 ⊢
      by_cases hkm : k = m
      · subst hkm
        refine .inr ⟨?_, ?_⟩
        · rcases h1 with h1 | h1
          · exact h1
          · exact h1.1
        · rcases h2 with h2 | h2
          · exact h2
          · exact h2.2
      · have hk' : k < m := by omega
        rcases h1 with h1 | ⟨h1, h1'⟩ <;> rcases h2 with h2 | ⟨h2, h2'⟩
        · exact .inl (i3 k hk' _ _ h1 h2)
        · exact .inr ⟨i3 k hk' _ _ h1 h2, h2'⟩
        · exact .inr ⟨h1, i3 k hk' _ _ h1' h2⟩
        · exact .inr ⟨h1, h2'⟩

theorem chains_iff {G : List Bool} (hl : G.length = 64) (a b : Nat) : arr (chainsB G) a b ↔ TC (arr G) a b := by
  obtain ⟨h1, h2, h3⟩ := wA_said hl 8 (Nat.le_refl _)
  refine ⟨h2 a b, fun h => h _ h1 (fun x y z h4 h5 => h3 y ?_ x z h4 h5)⟩
  exact h4.2.1

/-- The first point with an arrow to itself, or eight. -/
def loopG (G : List Bool) : Nat → Nat → Nat
  | 0, _ => 8
  | n + 1, a => if gA G a a then a else loopG G n (a + 1)
def loopB8 (G : List Bool) : Nat := loopG G 8 0
theorem loopG_le (G : List Bool) (n : Nat) : ∀ a, a + n = 8 → loopG G n a ≤ 8 := by
  induction n with
  | zero => intro a _; exact Nat.le_refl _
  | succ n ih => intro a h; rw [loopG]; split; · omega
                 · exact ih _ (by omega)
theorem loopG_lt (G : List Bool) (n : Nat) : ∀ a, a + n = 8 → (loopG G n a < 8 ↔ ∃ b, a ≤ b ∧ b < 8 ∧ gA G b b = true) := by
  induction n with
  | zero => intro a h; simp [loopG]; intro b h1 h2; omega
  | succ n ih =>
    intro a h
    rw [loopG]
    split
    · rename_i hg; exact ⟨fun _ => ⟨a, Nat.le_refl _, by omega, hg⟩, fun _ => by omega⟩
    · rename_i hg
      rw [ih (a + 1) (by omega)]
      constructor
      · rintro ⟨b, h1, h2, h3⟩; exact ⟨b, by omega, h2, h3⟩
      · rintro ⟨b, h1, h2, h3⟩
        refine ⟨b, ?_, h2, h3⟩
        rcases Nat.lt_or_ge a b with h4 | h4
        · exact h4
        · exfalso; have : b = a := by omega
          subst this; exact hg h3
theorem loopG_hit (G : List Bool) (n : Nat) : ∀ a, a + n = 8 → loopG G n a < 8 → gA G (loopG G n a) (loopG G n a) = true := by
  induction n with
  | zero => intro a _ h; simp [loopG] at h
  | succ n ih =>
    intro a h h1
    rw [loopG] at h1 ⊢
    split at h1
    · rename_i hg; rw [if_pos hg]; exact hg
    · rename_i hg; rw [if_neg hg]; exact ih _ (by omega) h1

def ringB (G : List Bool) : Bool := decide (loopB8 (chainsB G) < 8)
theorem ringB_iff {G : List Bool} (hl : G.length = 64) : ringB G = true ↔ ∃ a, a < 8 ∧ TC (arr G) a a := by
  unfold ringB loopB8
  rw [decide_eq_true_iff, loopG_lt _ 8 0 rfl]
  constructor
  · rintro ⟨b, _, h1, h2⟩; exact ⟨b, h1, (chains_iff hl b b).1 ⟨h1, h1, h2⟩⟩
  · rintro ⟨b, h1, h2⟩; exact ⟨b, Nat.zero_le _, h1, ((chains_iff hl b b).2 h2).2.2⟩

/-- The document's looks: from a point x, to each y. -/
def lY (m : Nat → Nat → Bool) (fr : Bool) (x : Nat) : Nat → Nat → List Bool → List Bool
  | 0, _, s => s
  | n + 1, y, s => lY m fr x n (y + 1) (if fr && m x y then s.set y true else s)
def lFr (i x : Nat) (s : List Bool) : Bool := decide (x = i) || s.getD x false
def lX (m : Nat → Nat → Bool) (i N : Nat) : Nat → Nat → List Bool → List Bool
  | 0, _, s => s
  | n + 1, x, s => lX m i N n (x + 1) (lY m (lFr i x s) x N 0 s)
def lN (m : Nat → Nat → Bool) (i N : Nat) : Nat → List Bool → List Bool
  | 0, s => s
  | n + 1, s => lN m i N n (lX m i N N 0 s)
def leadsB (m : Nat → Nat → Bool) (N i k : Nat) : Bool := (lN m i N (N + 1) (List.replicate N false)).getD k false

theorem lY_len (m : Nat → Nat → Bool) (fr : Bool) (x n : Nat) : ∀ y s, (lY m fr x n y s).length = s.length := by
  induction n with
  | zero => intro y s; rfl
  | succ n ih => intro y s; rw [lY, ih]; split <;> simp
theorem lX_len (m : Nat → Nat → Bool) (i N n : Nat) : ∀ x s, (lX m i N n x s).length = s.length := by
  induction n with
  | zero => intro x s; rfl
  | succ n ih => intro x s; rw [lX, ih, lY_len]
theorem lN_len (m : Nat → Nat → Bool) (i N n : Nat) : ∀ s, (lN m i N n s).length = s.length := by
  induction n with
  | zero => intro s; rfl
  | succ n ih => intro s; rw [lN, ih, lX_len]

theorem getD_set (s : List Bool) (y z : Nat) : (s.set y true).getD z false = (s.getD z false || (decide (z = y) && decide (y < s.length))) := by
  simp only [List.getD_eq_getElem?_getD, List.getElem?_set]
  by_cases h : y = z
  · subst h
    by_cases h2 : y < s.length
    · simp [h2]
    · simp [h2]
  · have h' : ¬ z = y := fun e => h e.symm
    simp [h, h']

theorem lY_up (m : Nat → Nat → Bool) (fr : Bool) (x n : Nat) : ∀ y s z, s.getD z false = true → (lY m fr x n y s).getD z false = true := by
  induction n with
  | zero => intro y s z h; exact h
  | succ n ih =>
    intro y s z h; rw [lY]; refine ih _ _ _ ?_
    split
    · rw [getD_set, h]; rfl
    · exact h
theorem lX_up (m : Nat → Nat → Bool) (i N n : Nat) : ∀ x s z, s.getD z false = true → (lX m i N n x s).getD z false = true := by
  induction n with
  | zero => intro x s z h; exact h
  | succ n ih => intro x s z h; rw [lX]; exact ih _ _ _ (lY_up _ _ _ _ _ _ _ h)

theorem lY_hit (m : Nat → Nat → Bool) (x n : Nat) : ∀ y s z, y ≤ z → z < y + n → z < s.length → m x z = true → (lY m true x n y s).getD z false = true := by
  induction n with
  | zero => intro y s z h1 h2; omega
  | succ n ih =>
    intro y s z h1 h2 h3 h4
    rw [lY]
    by_cases h : y = z
    · subst h; refine lY_up _ _ _ _ _ _ _ ?_
      rw [h4]; simp [h3]
    · refine ih _ _ _ (by omega) (by omega) ?_ h4
      split <;> simp [h3]
theorem lX_hit (m : Nat → Nat → Bool) (i N n : Nat) : ∀ x s x0 z, x ≤ x0 → x0 < x + n → z < N → s.length = N → (x0 = i ∨ s.getD x0 false = true) → m x0 z = true → (lX m i N n x s).getD z false = true := by
  induction n with
  | zero => intro x s x0 z h1 h2; omega
  | succ n ih =>
    intro x s x0 z h1 h2 h3 h4 h5 h6
    rw [lX]
    by_cases h : x = x0
    · subst h; refine lX_up _ _ _ _ _ _ _ ?_
      have e : lFr i x s = true := by unfold lFr; exact h5.elim (fun h => by simp [h]) (fun h => by rw [h, Bool.or_true])
      rw [e]
      exact lY_hit _ _ _ _ _ _ (Nat.zero_le _) (by omega) (by omega) h6
    · refine ih _ _ x0 z (by omega) (by omega) h3 (by rw [lY_len, h4]) ?_ h6
      rcases h5 with h5 | h5
      · exact .inl h5
      · exact .inr (lY_up _ _ _ _ _ _ _ h5)

/-- Steps between points that there are. -/
def stp (m : Nat → Nat → Bool) (N : Nat) (a b : Nat) : Prop := a < N ∧ b < N ∧ m a b = true

theorem lY_sound {m : Nat → Nat → Bool} {i N : Nat} (x : Nat) (hx : x < N) (fr : Bool) (hfr : fr = true → x = i ∨ TC (stp m N) i x) (n : Nat) : ∀ y s, y + n = N → (∀ z, s.getD z false = true → TC (stp m N) i z) → ∀ z, (lY m fr x n y s).getD z false = true → TC (stp m N) i z := by
  induction n with
  | zero => intro y s _ h; exact h
  | succ n ih =>
    intro y s hy h
    rw [lY]
    refine ih _ _ (by omega) ?_
    intro z hz
    split at hz
    · rename_i hc
      rw [Bool.and_eq_true] at hc
      rw [getD_set, Bool.or_eq_true, Bool.and_eq_true] at hz
      rcases hz with hz | ⟨hz, _⟩
      · exact h z hz
      · have e : z = y := by simpa using hz
        subst e
        have h1 : stp m N x z := ⟨hx, by omega, hc.2⟩
        rcases hfr hc.1 with h2 | h2
        · rw [← h2]; exact TC.one h1
        · exact h2.trans (TC.one h1)
    · exact h z hz
theorem lX_sound {m : Nat → Nat → Bool} {i N : Nat} (n : Nat) : ∀ x s, x + n = N → (∀ z, s.getD z false = true → TC (stp m N) i z) → ∀ z, (lX m i N n x s).getD z false = true → TC (stp m N) i z := by
  induction n with
  | zero => intro x s _ h; exact h
  | succ n ih =>
    intro x s hx h
    rw [lX]
    refine ih _ _ (by omega) (lY_sound x (by omega) _ ?_ N 0 s (by omega) h)
    intro hf
    unfold lFr at hf
    rw [Bool.or_eq_true] at hf
    rcases hf with hf | hf
    · exact .inl (by simpa using hf)
    · exact .inr (h x hf)
theorem lN_sound {m : Nat → Nat → Bool} {i N : Nat} (n : Nat) : ∀ s, (∀ z, s.getD z false = true → TC (stp m N) i z) → ∀ z, (lN m i N n s).getD z false = true → TC (stp m N) i z := by
  induction n with
  | zero => intro s h; exact h
  | succ n ih => intro s h; rw [lN]; exact ih _ (lX_sound N 0 s (by omega) h)

def cntT : List Bool → Nat
  | [] => 0
  | b :: r => b.toNat + cntT r
theorem cnt_le (s : List Bool) : cntT s ≤ s.length := by
  induction s with
  | nil => exact Nat.le_refl _
  | cons b r ih => rw [cntT, List.length_cons]; cases b <;> simp <;> omega
theorem cnt_up (s : List Bool) : ∀ s', s.length = s'.length → (∀ z, s.getD z false = true → s'.getD z false = true) → s = s' ∨ cntT s < cntT s' := by
  induction s with
  | nil => intro s' h _; cases s' with
    | nil => exact .inl rfl
    | cons _ _ => simp at h
  | cons b r ih =>
    intro s' h hz
    cases s' with
    | nil => simp at h
    | cons b' r' =>
      have h0 := hz 0
      have ih := ih r' (by simpa using h) (fun z hh => by have := hz (z + 1); simpa using this (by simpa using hh))
      rw [cntT, cntT]
      simp only [List.getD_cons_zero] at h0
      rcases ih with ih | ih
      · subst ih
        cases b <;> cases b'
        · exact .inl rfl
        · exact .inr (by simp)
        · exact absurd (h0 rfl) (by simp)
        · exact .inl rfl
      · right
        cases b <;> cases b'
        · simpa using ih
        · simp; omega
        · exact absurd (h0 rfl) (by simp)
        · simpa using ih

theorem lN_succ (m : Nat → Nat → Bool) (i N n : Nat) : ∀ s, lN m i N (n + 1) s = lX m i N N 0 (lN m i N n s) := by
  induction n with
  | zero => intro s; rfl
  | succ n ih => intro s; rw [lN, ih]; rfl
theorem lN_fix (m : Nat → Nat → Bool) (i N : Nat) (s : List Bool) (n : Nat) : lX m i N N 0 (lN m i N n s) = lN m i N n s ∨ n ≤ cntT (lN m i N n s) := by
  induction n with
  | zero => exact .inr (Nat.zero_le _)
  | succ n ih =>
    rw [lN_succ]
    rcases ih with ih | ih
    · left; rw [ih, ih]
    · rcases cnt_up (lN m i N n s) (lX m i N N 0 (lN m i N n s)) (by rw [lX_len]) (lX_up _ _ _ _ _ _) with h | h
      · left; rw [← h, ← h]
      · right; omega

theorem leadsB_iff {m : Nat → Nat → Bool} {N i k : Nat} : leadsB m N i k = true ↔ TC (stp m N) i k := by
  unfold leadsB
  constructor
  · intro h
    refine lN_sound (N + 1) _ ?_ k h
    intro z hz
    exfalso
    simp only [List.getD_eq_getElem?_getD, List.getElem?_replicate] at hz
    split at hz <;> simp at hz
  · intro h
    have hlen : (lN m i N (N + 1) (List.replicate N false)).length = N := by rw [lN_len, List.length_replicate]
    have hfix : lX m i N N 0 (lN m i N (N + 1) (List.replicate N false)) = lN m i N (N + 1) (List.replicate N false) := by
      rcases lN_fix m i N (List.replicate N false) (N + 1) with h1 | h1
      · exact h1
      · have h2 := cnt_le (lN m i N (N + 1) (List.replicate N false)); omega
    generalize lN m i N (N + 1) (List.replicate N false) = s at *
    have key : ∀ x z, stp m N x z → (x = i ∨ s.getD x false = true) → s.getD z false = true := by
      intro x z h1 h2
      have h3 := lX_hit m i N N 0 s x z (Nat.zero_le _) (by have := h1.1; omega) h1.2.1 hlen h2 h1.2.2
      rw [hfix] at h3; exact h3
    exact h (fun x z => (x = i ∨ s.getD x false = true) → s.getD z false = true) key (fun x y z h1 h2 h3 => h2 (.inr (h1 h3))) (.inl rfl)

theorem stp_lt {m : Nat → Nat → Bool} {N a b : Nat} (h : TC (stp m N) a b) : a < N ∧ b < N := h (fun a b => a < N ∧ b < N) (fun _ _ h => ⟨h.1, h.2.1⟩) (fun _ _ _ h1 h2 => ⟨h1.1, h2.2⟩)

/-- The document's ring. -/
def ringedB (m : Nat → Nat → Bool) (N : Nat) : Bool := (List.range N).any fun i => leadsB m N i i

theorem ring_same {m : Nat → Nat → Bool} {N : Nat} {G : List Bool} (hl : G.length = 64) (hN : N ≤ 8) (h : ∀ a b, a < 8 → b < 8 → (gA G a b = true ↔ stp m N a b)) : ringedB m N = ringB G := by
  have e : ∀ a b, arr G a b ↔ stp m N a b := fun a b => ⟨fun ⟨h1, h2, h3⟩ => (h a b h1 h2).1 h3, fun h1 => ⟨by have := h1.1; omega, by have := h1.2.1; omega, (h a b (by have := h1.1; omega) (by have := h1.2.1; omega)).2 h1⟩⟩
  rw [Bool.eq_iff_iff, ringB_iff hl]
  unfold ringedB
  rw [List.any_eq_true]
  constructor
  · rintro ⟨i, _, h2⟩
    have h3 := leadsB_iff.1 h2
    exact ⟨i, by have := (stp_lt h3).1; omega, h3.mono fun x y => (e x y).2⟩
  · rintro ⟨i, _, h2⟩
    have h3 : TC (stp m N) i i := h2.mono fun x y => (e x y).1
    exact ⟨i, List.mem_range.2 (stp_lt h3).1, leadsB_iff.2 h3⟩
end Go.Proofs.YtnbpdffdnphbeaaGreatDoor

/- Plain facts: the faults of names, ranges and pairs are the same by the program and by the document. -/
namespace Go.Proofs.YtnbpdffdnphbeaaGreatDoor

def isNumR (us : List Toks) (nm : Bs) : Bool := decide (0 ≤ firstB us kNum 1 nm)
def isFlagR (us : List Toks) (nm : Bs) : Bool := decide (0 ≤ firstB us kFlag 1 nm)
def isHeadR (us : List Toks) (nm : Bs) : Bool := decide (0 ≤ firstB us kRule 3 nm)
def nxA (u : Toks) (k : Nat) : Bs := if k + 1 < u.length then cA u (k + 1) else []
def kindAt (u : Toks) (k : Nat) : Nat := if k < wA' u then 0 else needK (cA u (k - 1)) (nxA u k)
def okR (us : List Toks) (y : Nat × Bs) : Bool := if y.1 = 0 then isNumR us y.2 || isHeadR us y.2 else if y.1 = 1 then isHeadR us y.2 else if y.1 = 2 then isNumR us y.2 else isFlagR us y.2
def fitsR (us : List Toks) (u : Toks) (k : Nat) : Bool := okR us (kindAt u k, tA u k)
def badI (us : List Toks) (u : Toks) : Nat → Nat → Bool
  | 0, _ => false
  | n + 1, k => if cA u k = nameB ∧ fitsR us u k = false then true else badI us u n (k + 1)
def namedR (us : List Toks) (i : Nat) : Bool :=
  if cA (uA us i) 0 = kNum ∨ cA (uA us i) 0 = kFlag then
    (decide (0 ≤ firstB us kNum 1 (tA (uA us i) 1)) && decide (firstB us kNum 1 (tA (uA us i) 1) < (i : Int))) || ((decide (0 ≤ firstB us kFlag 1 (tA (uA us i) 1)) && decide (firstB us kFlag 1 (tA (uA us i) 1) < (i : Int))) || isHeadR us (tA (uA us i) 1))
  else if cA (uA us i) 0 = kOver then decide (firstB us kRule 1 (tA (uA us i) 1) < 0) || decide (firstB us kRule 1 (tA (uA us i) 2) < 0)
  else decide (firstB us kRule 1 (tA (uA us i) 1) < (i : Int)) || badI us (uA us i) ((uA us i).length - 5) 5
def pairR (us : List Toks) (u : Toks) : Bool := decide (tA u 1 = tA u 2) || !decide (tA (uA us (firstB us kRule 1 (tA u 1)).toNat) 3 = tA (uA us (firstB us kRule 1 (tA u 2)).toNat) 3)
def faultR (us : List Toks) (i : Nat) : Int :=
  if namedR us i = true then 4
  else if cA (uA us i) 0 = kNum then (if valF 0 (tA (uA us i) 4) < valF 0 (tA (uA us i) 2) then 5 else 0)
  else if cA (uA us i) 0 = kOver then (if pairR us (uA us i) = true then 6 else 0) else 0

theorem nextc_drop (u : Toks) (k : Nat) : nextc (u.drop (k + 1)) [] = nxA u k := by
  unfold nxA
  split
  · rename_i h; rw [drop_consT u (k + 1) h]; rfl
  · rename_i h; rw [List.drop_eq_nil_of_le (by omega)]; rfl

theorem badI_guard (us : List Toks) (u : Toks) (n : Nat) : ∀ k, wA' u < k → k + n = u.length → badI us u n k = (needG (cA u (k - 1)) (u.drop k) []).any (fun y => !okR us y) := by
  induction n with
  | zero => intro k _ h; rw [List.drop_eq_nil_of_le (by omega)]; rfl
  | succ n ih =>
    intro k hk h
    have hlt : k < u.length := by omega
    rw [drop_consT u k hlt, needG, badI, nextc_drop, ih (k + 1) (by omega) (by omega), show k + 1 - 1 = k by omega]
    show _ = ((if cA u k = nameB then [(needK (cA u (k - 1)) (nxA u k), tA u k)] else []) ++ needG (cA u k) (u.drop (k + 1)) []).any _
    have hf : fitsR us u k = okR us (needK (cA u (k - 1)) (nxA u k), tA u k) := by unfold fitsR kindAt; rw [if_neg (by omega)]
    by_cases hc : cA u k = nameB
    · rw [if_pos hc, List.any_append]
      by_cases ho : fitsR us u k = false
      · rw [if_pos ⟨hc, ho⟩]; rw [hf] at ho; simp [ho]
      · rw [if_neg (fun h => ho h.2)]
        have ho' : okR us (needK (cA u (k - 1)) (nxA u k), tA u k) = true := by rw [← hf]; simpa using ho
        simp [ho']
    · rw [if_neg hc, if_neg (fun h => hc h.1), List.nil_append]

theorem badI_sum (us : List Toks) (u : Toks) {w : Nat} (hw : wA' u = w) (hwl : w < u.length) (n : Nat) : ∀ k, k + n = w → badI us u (u.length - k) k = ((needS ((u.take w).drop k)).any (fun y => !okR us y) || badI us u (u.length - w) w) := by
  induction n with
  | zero => intro k h; obtain rfl : k = w := by omega
            rw [List.drop_eq_nil_of_le (by rw [List.length_take]; omega)]; rfl
  | succ n ih =>
    intro k h
    have hlt : k < (u.take w).length := by rw [List.length_take]; omega
    have e0 : (u.take w).getD k (0, []) = u.getD k (0, []) := by rw [List.getD, List.getD, List.getElem?_take_of_lt (by omega)]
    rw [show u.length - k = (u.length - (k + 1)) + 1 by omega, badI, ih (k + 1) (by omega), drop_consT (u.take w) k hlt, e0, needS]
    show _ = (((if cA u k = nameB then [(0, tA u k)] else []) ++ needS ((u.take w).drop (k + 1))).any _ || _)
    have hf : fitsR us u k = okR us (0, tA u k) := by unfold fitsR kindAt; rw [hw, if_pos (by omega)]
    by_cases hc : cA u k = nameB
    · rw [if_pos hc, List.any_append]
      by_cases ho : fitsR us u k = false
      · rw [if_pos ⟨hc, ho⟩]; rw [hf] at ho; simp [ho]
      · rw [if_neg (fun h => ho h.2)]
        have ho' : okR us (0, tA u k) = true := by rw [← hf]; simpa using ho
        simp [ho']
    · rw [if_neg hc, if_neg (fun h => hc h.1), List.nil_append]

theorem bad_all (us : List Toks) {x : PLine} {u : Toks} {w : Nat} (h : RuleT x u w) (hc : cA u w = kWhen) : badI us u (u.length - 5) 5 = ((x.sum.flatMap partN).any (fun y => !okR us y) || (needsN x.nd).any (fun y => !okR us y)) := by
  have h1 := h.wlo
  have h2 := h.whi
  rw [badI_sum us u h.wAt (by omega) (w - 5) 5 (by omega), h.needs]
  congr 1
  rw [show u.length - w = (u.length - (w + 1)) + 1 by omega, badI, if_neg (fun e => absurd (hc.symm.trans e.1) (by decide)), badI_guard us u _ (w + 1) (by rw [h.wAt]; omega) (by omega), show w + 1 - 1 = w by omega, hc, h.needs2]

theorem num_same {ls : List PLine} {us : List Toks} (h : AllLT ls us) (nm : Bs) : isNumR us nm = hasL ls 1 nm := by
  unfold isNumR hasL firstB
  rw [any_same h (fun x u hx => isL_same hx 1 kNum (.inl ⟨rfl, rfl⟩) nm), Bool.eq_iff_iff, decide_eq_true_iff, firstG_any]
theorem flag_same {ls : List PLine} {us : List Toks} (h : AllLT ls us) (nm : Bs) : isFlagR us nm = hasL ls 2 nm := by
  unfold isFlagR hasL firstB
  rw [any_same h (fun x u hx => isL_same hx 2 kFlag (.inr (.inl ⟨rfl, rfl⟩)) nm), Bool.eq_iff_iff, decide_eq_true_iff, firstG_any]
theorem head_same {ls : List PLine} {us : List Toks} (h : AllLT ls us) (nm : Bs) : isHeadR us nm = isCon ls nm := by
  unfold isHeadR isCon firstB
  rw [any_same h (fun x u hx => isC_same hx nm), Bool.eq_iff_iff, decide_eq_true_iff, firstG_any]
theorem ok_same {ls : List PLine} {us : List Toks} (h : AllLT ls us) (y : Nat × Bs) : okR us y = needOk ls y := by
  unfold okR needOk sumOk
  rw [num_same h, flag_same h, head_same h]
theorem part_same (ls : List PLine) (S : List PPart) : (S.flatMap partN).any (fun y => !needOk ls y) = S.any (fun x => !partOk ls x) := by
  induction S with
  | nil => rfl
  | cons x r ih =>
    rw [List.flatMap_cons, List.any_append, ih, List.any_cons]
    congr 1
    unfold partN partOk
    by_cases h : x.name = []
    · rw [if_pos h, decide_eq_true h]; rfl
    · rw [if_neg h, decide_eq_false h]; simp [needOk]
theorem node_same (ls : List PLine) (N : List PNode) : (needsN N).any (fun y => !needOk ls y) = N.any (fun x => !nodeOk ls x) := by
  induction N with
  | nil => rfl
  | cons x r ih =>
    unfold needsN at ih ⊢
    rw [List.flatMap_cons, List.any_append, ih, List.any_cons]
    congr 1
    unfold nodeN nodeOk
    by_cases h5 : x.kind = 5
    · rw [if_pos h5, if_pos h5]; simp [needOk]
    · rw [if_neg h5, if_neg h5]
      by_cases h6 : x.kind = 6
      · rw [if_pos h6, if_pos h6]; simp [needOk]
      · rw [if_neg h6, if_neg h6]
        by_cases h7 : x.kind = 7
        · rw [if_pos h7, if_pos h7]
          by_cases ho : x.other = []
          · rw [if_pos ho, decide_eq_true ho]; simp [needOk]
          · rw [if_neg ho, decide_eq_false ho]
            show ((!hasL ls 1 x.name) || ((!hasL ls 1 x.other) || false)) = !((false || hasL ls 1 x.other) && hasL ls 1 x.name)
            cases hasL ls 1 x.name <;> cases hasL ls 1 x.other <;> rfl
        · rw [if_neg h7, if_neg h7]; rfl

theorem early_same {ls : List PLine} {us : List Toks} (h : AllLT ls us) (k : Int) (c : Bs) (hk : (k = 1 ∧ c = kNum) ∨ (k = 2 ∧ c = kFlag) ∨ (k = 3 ∧ c = kRule)) (nm : Bs) (i : Nat) : (decide (0 ≤ firstB us c 1 nm) && decide (firstB us c 1 nm < (i : Int))) = hasL (ls.take i) k nm := by
  unfold hasL firstB
  rw [any_same (h.take i) (fun x u hx => isL_same hx k c hk nm), Bool.eq_iff_iff, Bool.and_eq_true, decide_eq_true_iff, decide_eq_true_iff, ← firstG_take (isU c 1 nm) us 0 i]
  simp

theorem find_same {ls : List PLine} {us : List Toks} (h : AllLT ls us) (nm : Bs) : (findR ls nm = ls.length ∧ firstB us kRule 1 nm = -1) ∨ (findR ls nm < ls.length ∧ firstB us kRule 1 nm = (findR ls nm : Int)) := by
  have := first_find h (fun x u hx => isL_same hx 3 kRule (.inr (.inr ⟨rfl, rfl⟩)) nm) 0
  unfold findR firstB
  simpa using this

theorem findG_hit (p : PLine → Bool) (ls : List PLine) : ∀ i, findG p ls i < i + ls.length → p (lA ls (findG p ls i - i)) = true := by
  induction ls with
  | nil => intro i h; simp [findG] at h
  | cons x r ih =>
    intro i h
    rw [findG] at h ⊢
    split
    · rename_i hp; simpa [lA] using hp
    · rename_i hp
      rw [if_neg hp] at h
      have h1 := (findG_le p r (i + 1)).1
      have := ih (i + 1) (by rw [List.length_cons] at h; omega)
      rw [show findG p r (i + 1) - i = (findG p r (i + 1) - (i + 1)) + 1 by omega]
      exact this

theorem fault_same {ls : List PLine} {us : List Toks} (h : AllLT ls us) {i : Nat} (hi : i < us.length) : faultR us i = errP ls i := by
  have hx := h.get i hi
  unfold faultR
  rcases hx.kind with ⟨a, b, _, _, _, d1, d2⟩ | ⟨a, b⟩ | ⟨a, b, _, d⟩ | ⟨a, b, d⟩
  · have e : namedR us i = decide (inpE ls i = 4) := by
      unfold namedR inpE
      rw [if_pos (.inl b), early_same h 1 kNum (.inl ⟨rfl, rfl⟩), early_same h 2 kFlag (.inr (.inl ⟨rfl, rfl⟩)), head_same h, hx.name]
      generalize (hasL (ls.take i) 1 (lA ls i).name || (hasL (ls.take i) 2 (lA ls i).name || isCon ls (lA ls i).name)) = z
      cases z <;> decide
    have eR : errP ls i = numE ls i := by unfold errP; rw [if_pos a]
    rw [e, eR, if_pos b, d1, d2]
    unfold numE
    have h4 : inpE ls i = 4 ∨ inpE ls i = 0 := by unfold inpE; split; exact .inl rfl; exact .inr rfl
    rcases h4 with h4 | h4
    · rw [h4]; simp
    · rw [h4]; simp
  · have e : namedR us i = decide (inpE ls i = 4) := by
      unfold namedR inpE
      rw [if_pos (.inr b), early_same h 1 kNum (.inl ⟨rfl, rfl⟩), early_same h 2 kFlag (.inr (.inl ⟨rfl, rfl⟩)), head_same h, hx.name]
      generalize (hasL (ls.take i) 1 (lA ls i).name || (hasL (ls.take i) 2 (lA ls i).name || isCon ls (lA ls i).name)) = z
      cases z <;> decide
    have eR : errP ls i = inpE ls i := by unfold errP; rw [if_neg (by rw [a]; decide), if_pos a]
    rw [e, eR, if_neg (show ¬ cA (uA us i) 0 = kNum by rw [b]; decide), if_neg (show ¬ cA (uA us i) 0 = kOver by rw [b]; decide)]
    have h4 : inpE ls i = 4 ∨ inpE ls i = 0 := by unfold inpE; split; exact .inl rfl; exact .inr rfl
    rcases h4 with h4 | h4 <;> rw [h4] <;> rfl
  · have eR : errP ls i = overE ls (lA ls i) := by unfold errP; rw [if_neg (by rw [a]; decide), if_neg (by rw [a]; decide), if_neg (by rw [a]; decide), if_pos a]
    rw [eR, if_neg (show ¬ cA (uA us i) 0 = kNum by rw [b]; decide), if_pos b]
    have eN : namedR us i = (decide (firstB us kRule 1 (tA (uA us i) 1) < 0) || decide (firstB us kRule 1 (tA (uA us i) 2) < 0)) := by
      unfold namedR; rw [if_neg (show ¬ (cA (uA us i) 0 = kNum ∨ cA (uA us i) 0 = kFlag) by rw [b]; decide), if_pos b]
    have hl := h.len
    rw [hx.name, d] at eN
    rcases find_same h (lA ls i).name with ⟨f1, f2⟩ | ⟨f1, f2⟩
    · have e1 : overE ls (lA ls i) = 4 := by unfold overE; rw [if_pos (.inl f1)]
      rw [e1, if_pos (by rw [eN, f2]; rfl)]
    · rcases find_same h (lA ls i).lower with ⟨g1, g2⟩ | ⟨g1, g2⟩
      · have e1 : overE ls (lA ls i) = 4 := by unfold overE; rw [if_pos (.inr g1)]
        rw [e1, if_pos (by rw [eN, g2]; simp)]
      · have e1 : overE ls (lA ls i) = if (lA ls i).name = (lA ls i).lower ∨ (lA ls (findR ls (lA ls i).name)).conc ≠ (lA ls (findR ls (lA ls i).lower)).conc then 6 else 0 := by
          unfold overE; rw [if_neg (by rintro (e | e) <;> omega)]
        have e2 : namedR us i = false := by
          rw [eN, f2, g2, decide_eq_false (by omega), decide_eq_false (by omega)]; rfl
        have q1 := h.get (findR ls (lA ls i).name) (by omega)
        have q2 := h.get (findR ls (lA ls i).lower) (by omega)
        have p1 : isL 3 (lA ls i).name (lA ls (findR ls (lA ls i).name)) = true := findG_hit (isL 3 (lA ls i).name) ls 0 (by rw [Nat.zero_add]; exact f1)
        have p2 : isL 3 (lA ls i).lower (lA ls (findR ls (lA ls i).lower)) = true := findG_hit (isL 3 (lA ls i).lower) ls 0 (by rw [Nat.zero_add]; exact g1)
        have p1' : (lA ls (findR ls (lA ls i).name)).kind = 3 := by
          unfold isL at p1; rw [Bool.and_eq_true] at p1; simpa using p1.1
        have p2' : (lA ls (findR ls (lA ls i).lower)).kind = 3 := by
          unfold isL at p2; rw [Bool.and_eq_true] at p2; simpa using p2.1
        obtain ⟨w1, r1⟩ := q1.rule (q1.k3.1 p1')
        obtain ⟨w2, r2⟩ := q2.rule (q2.k3.1 p2')
        have e3 : pairR us (uA us i) = (decide ((lA ls i).name = (lA ls i).lower) || !decide ((lA ls (findR ls (lA ls i).name)).conc = (lA ls (findR ls (lA ls i).lower)).conc)) := by
          unfold pairR; rw [hx.name, d, f2, g2, Int.toNat_natCast, Int.toNat_natCast, r1.conc, r2.conc]
        rw [e1, e3, if_neg (by rw [e2]; decide)]
        by_cases c1 : (lA ls i).name = (lA ls i).lower
        · simp [c1]
        · by_cases c2 : (lA ls (findR ls (lA ls i).name)).conc = (lA ls (findR ls (lA ls i).lower)).conc
          · simp [c1, c2]
          · simp [c1, c2]
  · obtain ⟨w, hw⟩ := d
    have eR : errP ls i = ruleE ls i := by unfold errP; rw [if_neg (by rw [a]; decide), if_neg (by rw [a]; decide), if_pos a]
    rw [eR, if_neg (show ¬ cA (uA us i) 0 = kNum by rw [b]; decide), if_neg (show ¬ cA (uA us i) 0 = kOver by rw [b]; decide)]
    have hcw : cA (uA us i) w = kWhen := by
      have hwhen : ∀ (u : Toks) (k j : Nat), whenG u k = some j → k ≤ j ∧ cA u (j - k) = kWhen := by
        intro u
        induction u with
        | nil => intro k j h; simp [whenG] at h
        | cons t r ih =>
          intro k j h
          rw [whenG] at h
          split at h
          · rename_i ht
            obtain rfl := Option.some.inj h
            exact ⟨Nat.le_refl _, by rw [Nat.sub_self]; exact ht⟩
          · obtain ⟨h1, h2⟩ := ih (k + 1) j h
            refine ⟨by omega, ?_⟩
            rw [show j - k = (j - (k + 1)) + 1 by omega]; exact h2
      have := (hwhen _ 0 w hw.whenAt).2
      simpa using this
    have e : namedR us i = (hasL (ls.take i) 3 (lA ls i).name || ((lA ls i).sum.any (fun x => !partOk ls x) || (lA ls i).nd.any (fun x => !nodeOk ls x))) := by
      unfold namedR
      rw [if_neg (show ¬ (cA (uA us i) 0 = kNum ∨ cA (uA us i) 0 = kFlag) by rw [b]; decide), if_neg (show ¬ cA (uA us i) 0 = kOver by rw [b]; decide), bad_all us hw hcw, hx.name]
      have h0 : 0 ≤ firstB us kRule 1 (lA ls i).name := by
        unfold firstB
        rw [firstG_any]
        refine List.any_eq_true.2 ⟨uA us i, ?_, ?_⟩
        · unfold uA; rw [List.getD, List.getElem?_eq_getElem hi]; exact List.getElem_mem hi
        · unfold isU; rw [hx.name, decide_eq_true b]; simp
      have := early_same h 3 kRule (.inr (.inr ⟨rfl, rfl⟩)) (lA ls i).name i
      rw [decide_eq_true h0, Bool.true_and] at this
      rw [this, ← part_same, ← node_same]
      congr 1
      congr 1
      · congr 1; funext y; rw [ok_same h]
      · congr 1; funext y; rw [ok_same h]
    rw [e]
    unfold ruleE
    generalize (hasL (ls.take i) 3 (lA ls i).name || ((lA ls i).sum.any (fun x => !partOk ls x) || (lA ls i).nd.any (fun x => !nodeOk ls x))) = z
    cases z <;> rfl
end Go.Proofs.YtnbpdffdnphbeaaGreatDoor
