/- Chains of arrows: what the program's closing of eight points by eight comes to, and what the document's looking again and again does. Nothing of the program's run is here. -/
import Derived.Test.YtnbpdffdnphbeaaGreatDoorLex
import Derived.Test.YtnbpdffdnphbeaaGreatDoorPure5
namespace Go.Proofs.YtnbpdffdnphbeaaGreatDoor

/-- A chain of arrows, one or more: in every relation that has the arrows and can be gone on in. -/
def TC (M : Nat → Nat → Prop) (a b : Nat) : Prop := ∀ R : Nat → Nat → Prop, (∀ x y, M x y → R x y) → (∀ x y z, R x y → R y z → R x z) → R a b
theorem TC.one {M : Nat → Nat → Prop} {a b : Nat} (h : M a b) : TC M a b := fun _ h1 _ => h1 _ _ h
theorem TC.trans {M : Nat → Nat → Prop} {a b c : Nat} (h : TC M a b) (h' : TC M b c) : TC M a c := fun R h1 h2 => h2 _ _ _ (h R h1 h2) (h' R h1 h2)
theorem TC.mono {M M' : Nat → Nat → Prop} (hm : ∀ x y, M x y → M' x y) {a b : Nat} (h : TC M a b) : TC M' a b := fun R h1 h2 => h R (fun x y h3 => h1 x y (hm x y h3)) h2

/-- An arrow of a graph of eight points. -/
def gA (G : List Bool) (a b : Nat) : Bool := G.getD (a * 8 + b) false
/-- One look: by the middle point q / 64, from and to what q says. -/
def wS (q : Nat) (G : List Bool) : List Bool := if gA G (q % 64 / 8) (q / 64) && gA G (q / 64) (q % 8) then G.set (q % 64) true else G
def wA : Nat → Nat → List Bool → List Bool
  | 0, _, G => G
  | n + 1, q, G => wA n (q + 1) (wS q G)
def chainsB (G : List Bool) : List Bool := wA 512 0 G

theorem wS_len (q : Nat) (G : List Bool) : (wS q G).length = G.length := by unfold wS; split <;> simp
theorem wA_len (n : Nat) : ∀ q G, (wA n q G).length = G.length := by
  induction n with
  | zero => intro q G; rfl
  | succ n ih => intro q G; rw [wA, ih, wS_len]
theorem wA_add (n : Nat) : ∀ m q G, wA (n + m) q G = wA m (q + n) (wA n q G) := by
  induction n with
  | zero => intro m q G; simp [wA]
  | succ n ih => intro m q G; rw [show n + 1 + m = (n + m) + 1 by omega, wA, wA, ih, show q + 1 + n = q + (n + 1) by omega]

theorem gA_set {G : List Bool} (hl : G.length = 64) {p a b : Nat} (hp : p < 64) : gA (G.set p true) a b = (gA G a b || decide (a * 8 + b = p)) := by
  unfold gA
  simp only [List.getD_eq_getElem?_getD, List.getElem?_set]
  by_cases h : p = a * 8 + b
  · subst h; simp [hl, hp]
  · rw [if_neg h, decide_eq_false (fun e => h e.symm), Bool.or_false]

/-- The looks by one middle point, so far. -/
theorem wA_mid {G : List Bool} (hl : G.length = 64) {m : Nat} (hm : m < 8) (p : Nat) : p ≤ 64 → ∀ a b, a < 8 → b < 8 → gA (wA p (m * 64) G) a b = (gA G a b || (decide (a * 8 + b < p) && (gA G a m && gA G m b))) := by
  induction p with
  | zero => intro _ a b _ _; simp [wA]
  | succ p ih =>
    intro hp a b ha hb
    have ih := ih (by omega)
    rw [wA_add p 1, wA, wA]
    have e1 : (m * 64 + p) % 64 = p := by omega
    have e2 : (m * 64 + p) / 64 = m := by omega
    have e3 : (m * 64 + p) % 8 = p % 8 := by omega
    unfold wS
    rw [e1, e2, e3]
    have hl2 : (wA p (m * 64) G).length = 64 := by rw [wA_len, hl]
    have k1 := ih (p / 8) m (by omega) hm
    have k2 := ih m (p % 8) hm (by omega)
    have k3 := ih a b ha hb
    generalize wA p (m * 64) G = H at *
    have c1 : gA H (p / 8) m = gA G (p / 8) m := by rw [k1]; cases gA G (p / 8) m <;> simp
    have c2 : gA H m (p % 8) = gA G m (p % 8) := by rw [k2]; cases gA G m (p % 8) <;> simp
    rw [c1, c2]
    by_cases hab : a * 8 + b = p
    · have ea : p / 8 = a := by omega
      have eb : p % 8 = b := by omega
      rw [ea, eb]
      have d1 : decide (a * 8 + b < p + 1) = true := by simp; omega
      rw [d1]
      split
      · rename_i h; rw [gA_set hl2 (by omega), k3, h]; simp [hab]
      · rename_i h; rw [k3]; have : (gA G a m && gA G m b) = false := by simpa using h
        rw [this]; simp
    · have d1 : decide (a * 8 + b < p + 1) = decide (a * 8 + b < p) := by by_cases h : a * 8 + b < p <;> simp [h] <;> omega
      rw [d1, ← k3]
      split
      · rw [gA_set hl2 (by omega), decide_eq_false hab, Bool.or_false]
      · rfl

theorem wA_all {G : List Bool} (hl : G.length = 64) {m : Nat} (hm : m < 8) {a b : Nat} (ha : a < 8) (hb : b < 8) : gA (wA 64 (m * 64) G) a b = (gA G a b || (gA G a m && gA G m b)) := by
  rw [wA_mid hl hm 64 (Nat.le_refl _) a b ha hb, decide_eq_true (by omega : a * 8 + b < 64), Bool.true_and]

/-- The arrows between eight points. -/
def arr (G : List Bool) (a b : Nat) : Prop := a < 8 ∧ b < 8 ∧ gA G a b = true

theorem wA_said {G : List Bool} (hl : G.length = 64) (m : Nat) : m ≤ 8 → (∀ a b, arr G a b → arr (wA (m * 64) 0 G) a b) ∧ (∀ a b, arr (wA (m * 64) 0 G) a b → TC (arr G) a b) ∧ (∀ k, k < m → ∀ a b, arr (wA (m * 64) 0 G) a k → arr (wA (m * 64) 0 G) k b → arr (wA (m * 64) 0 G) a b) := by
  induction m with
  | zero => intro _; refine ⟨fun a b h => by simpa [wA] using h, fun a b h => TC.one (by simpa [wA] using h), fun k hk => by omega⟩
  | succ m ih =>
    intro hm
    obtain ⟨i1, i2, i3⟩ := ih (by omega)
    rw [show (m + 1) * 64 = m * 64 + 64 by omega, wA_add, Nat.zero_add]
    have hl2 : (wA (m * 64) 0 G).length = 64 := by rw [wA_len, hl]
    generalize wA (m * 64) 0 G = H at *
    have key : ∀ a b, arr (wA 64 (m * 64) H) a b ↔ (arr H a b ∨ arr H a m ∧ arr H m b) := by
      intro a b
      constructor
      · rintro ⟨ha, hb, h⟩
        rw [wA_all hl2 (by omega) ha hb, Bool.or_eq_true, Bool.and_eq_true] at h
        rcases h with h | ⟨h, h'⟩
        · exact .inl ⟨ha, hb, h⟩
        · exact .inr ⟨⟨ha, by omega, h⟩, ⟨by omega, hb, h'⟩⟩
      · rintro (⟨ha, hb, h⟩ | ⟨⟨ha, _, h⟩, ⟨_, hb, h'⟩⟩)
        · exact ⟨ha, hb, by rw [wA_all hl2 (by omega) ha hb, h]; rfl⟩
        · exact ⟨ha, hb, by rw [wA_all hl2 (by omega) ha hb, h, h']; simp⟩
    refine ⟨fun a b h => (key a b).2 (.inl (i1 a b h)), fun a b h => ?_, fun k hk a b h1 h2 => ?_⟩
    · rcases (key a b).1 h with h | ⟨h, h'⟩
      · exact i2 _ _ h
      · exact (i2 _ _ h).trans (i2 _ _ h')
    · rw [key] at h1 h2 ⊢
      by_cases hkm : k = m
      · subst hkm
        refine .inr ⟨?_, ?_⟩
        · rcases h1 with h1 | h1
          · exact h1
          · exact h1.1
        · rcases h2 with h2 | h2
          · exact h2
          · exact h2.2
      · have hk' : k < m := by omega
        rcases h1 with h1 | ⟨h1, h1'⟩ <;> rcases h2 with h2 | ⟨h2, h2'⟩
        · exact .inl (i3 k hk' _ _ h1 h2)
        · exact .inr ⟨i3 k hk' _ _ h1 h2, h2'⟩
        · exact .inr ⟨h1, i3 k hk' _ _ h1' h2⟩
        · exact .inr ⟨h1, h2'⟩

theorem chains_iff {G : List Bool} (hl : G.length = 64) (a b : Nat) : arr (chainsB G) a b ↔ TC (arr G) a b := by
  obtain ⟨h1, h2, h3⟩ := wA_said hl 8 (Nat.le_refl _)
  refine ⟨h2 a b, fun h => h _ h1 (fun x y z h4 h5 => h3 y ?_ x z h4 h5)⟩
  exact h4.2.1

/-- The first point with an arrow to itself, or eight. -/
def loopG (G : List Bool) : Nat → Nat → Nat
  | 0, _ => 8
  | n + 1, a => if gA G a a then a else loopG G n (a + 1)
def loopB8 (G : List Bool) : Nat := loopG G 8 0
theorem loopG_lt (G : List Bool) (n : Nat) : ∀ a, a + n = 8 → (loopG G n a < 8 ↔ ∃ b, a ≤ b ∧ b < 8 ∧ gA G b b = true) := by
  induction n with
  | zero => intro a h; simp [loopG]; intro b h1 h2; omega
  | succ n ih =>
    intro a h
    rw [loopG]
    split
    · rename_i hg; exact ⟨fun _ => ⟨a, Nat.le_refl _, by omega, hg⟩, fun _ => by omega⟩
    · rename_i hg
      rw [ih (a + 1) (by omega)]
      constructor
      · rintro ⟨b, h1, h2, h3⟩; exact ⟨b, by omega, h2, h3⟩
      · rintro ⟨b, h1, h2, h3⟩
        refine ⟨b, ?_, h2, h3⟩
        rcases Nat.lt_or_ge a b with h4 | h4
        · exact h4
        · exfalso; have : b = a := by omega
          subst this; exact hg h3
def ringB (G : List Bool) : Bool := decide (loopB8 (chainsB G) < 8)
theorem ringB_iff {G : List Bool} (hl : G.length = 64) : ringB G = true ↔ ∃ a, a < 8 ∧ TC (arr G) a a := by
  unfold ringB loopB8
  rw [decide_eq_true_iff, loopG_lt _ 8 0 rfl]
  constructor
  · rintro ⟨b, _, h1, h2⟩; exact ⟨b, h1, (chains_iff hl b b).1 ⟨h1, h1, h2⟩⟩
  · rintro ⟨b, h1, h2⟩; exact ⟨b, Nat.zero_le _, h1, ((chains_iff hl b b).2 h2).2.2⟩

end Go.Proofs.YtnbpdffdnphbeaaGreatDoor

/- Plain facts: what the program's Check asks of the lines that were read, and what the document's Check asks of their tokens, is the same. -/
namespace Go.Proofs.YtnbpdffdnphbeaaGreatDoor

def pl0 : PLine := ⟨0, [], 0, 0, [], [], [], 0, 0, 0, []⟩
def lA (ls : List PLine) (i : Nat) : PLine := ls.getD i pl0
def uA (us : List Toks) (i : Nat) : Toks := us.getD i []

theorem AllLT.len : ∀ {ls : List PLine} {us : List Toks}, AllLT ls us → ls.length = us.length
  | [], [], _ => rfl
  | _ :: _, _ :: _, h => by rw [List.length_cons, List.length_cons, AllLT.len h.2]
  | [], _ :: _, h => absurd h id
  | _ :: _, [], h => absurd h id
theorem AllLT.get : ∀ {ls : List PLine} {us : List Toks}, AllLT ls us → ∀ i, i < us.length → LT (lA ls i) (uA us i)
  | [], [], _, i, hi => absurd hi (by simp)
  | x :: xs, u :: us, h, 0, _ => h.1
  | x :: xs, u :: us, h, i + 1, hi => AllLT.get h.2 i (by simpa using hi)
  | [], _ :: _, h, _, _ => absurd h id
  | _ :: _, [], h, _, _ => absurd h id
theorem AllLT.take : ∀ {ls : List PLine} {us : List Toks}, AllLT ls us → ∀ n, AllLT (ls.take n) (us.take n)
  | [], [], _, n => by simp [AllLT]
  | x :: xs, u :: us, h, 0 => trivial
  | x :: xs, u :: us, h, n + 1 => ⟨h.1, AllLT.take h.2 n⟩
  | [], _ :: _, h, _ => absurd h id
  | _ :: _, [], h, _ => absurd h id

/- The program's side. -/
def limP (k : Int) : Int := if k = 1 then 3 else if k = 2 then 3 else if k = 3 then 8 else if k = 4 then 28 else 0
def cntK (k : Int) : List PLine → Nat
  | [] => 0
  | x :: r => (if x.kind = k then 1 else 0) + cntK k r
def sumBig (S : List PPart) : Bool := decide (4 < S.length) || S.any partBig
def manyX (x : PLine) : Bool := decide (6 < x.tests) || (decide (4 < x.dep) || sumBig x.sum)
def manyP (ls : List PLine) (i : Nat) : Bool := decide (limP (lA ls i).kind ≤ (cntK (lA ls i).kind (ls.take i) : Int)) || (decide ((lA ls i).kind = 3) && manyX (lA ls i))
def isL (k : Int) (nm : Bs) (x : PLine) : Bool := decide (x.kind = k) && decide (x.name = nm)
def isC (nm : Bs) (x : PLine) : Bool := decide (x.kind = 3) && decide (x.conc = nm)
def hasL (ls : List PLine) (k : Int) (nm : Bs) : Bool := ls.any (isL k nm)
def isCon (ls : List PLine) (nm : Bs) : Bool := ls.any (isC nm)
def findG (p : PLine → Bool) : List PLine → Nat → Nat
  | [], i => i
  | x :: r, i => if p x then i else findG p r (i + 1)
def findR (ls : List PLine) (nm : Bs) : Nat := findG (isL 3 nm) ls 0
def sumOk (ls : List PLine) (nm : Bs) : Bool := hasL ls 1 nm || isCon ls nm
def partOk (ls : List PLine) (x : PPart) : Bool := decide (x.name = []) || sumOk ls x.name
def nodeOk (ls : List PLine) (x : PNode) : Bool :=
  if x.kind = 5 then isCon ls x.name else if x.kind = 6 then hasL ls 2 x.name else if x.kind = 7 then (decide (x.other = []) || hasL ls 1 x.other) && hasL ls 1 x.name else true
def inpE (ls : List PLine) (i : Nat) : Int := if hasL (ls.take i) 1 (lA ls i).name || (hasL (ls.take i) 2 (lA ls i).name || isCon ls (lA ls i).name) then 4 else 0
def numE (ls : List PLine) (i : Nat) : Int := if inpE ls i = 0 then (if (lA ls i).high < (lA ls i).low then 5 else 0) else inpE ls i
def ruleE (ls : List PLine) (i : Nat) : Int := if hasL (ls.take i) 3 (lA ls i).name || ((lA ls i).sum.any (fun x => !partOk ls x) || (lA ls i).nd.any (fun x => !nodeOk ls x)) then 4 else 0
def overE (ls : List PLine) (x : PLine) : Int :=
  if findR ls x.name = ls.length ∨ findR ls x.lower = ls.length then 4
  else if x.name = x.lower ∨ (lA ls (findR ls x.name)).conc ≠ (lA ls (findR ls x.lower)).conc then 6 else 0
def errP (ls : List PLine) (i : Nat) : Int :=
  if (lA ls i).kind = 1 then numE ls i else if (lA ls i).kind = 2 then inpE ls i else if (lA ls i).kind = 3 then ruleE ls i else if (lA ls i).kind = 4 then overE ls (lA ls i) else 0

/- The document's side. -/
theorem findG_le (p : PLine → Bool) (ls : List PLine) : ∀ i, i ≤ findG p ls i ∧ findG p ls i ≤ i + ls.length := by
  induction ls with
  | nil => intro i; simp [findG]
  | cons x r ih => intro i; rw [findG]; split
                   · simp
                   · have := ih (i + 1); simp only [List.length_cons]; omega
theorem LT.rule {x : PLine} {u : Toks} (h : LT x u) (hk : cA u 0 = kRule) : ∃ w, RuleT x u w := by
  rcases h.kind with ⟨a, b, _⟩ | ⟨a, b⟩ | ⟨a, b, _⟩ | ⟨a, b, hr⟩
  · exact absurd (b.symm.trans hk) (by decide)
  · exact absurd (b.symm.trans hk) (by decide)
  · exact absurd (b.symm.trans hk) (by decide)
  · exact hr
theorem LT.len {x : PLine} {u : Toks} (h : LT x u) (hk : cA u 0 = kRule) : 6 ≤ u.length := by
  obtain ⟨w, hw⟩ := h.rule hk; have := hw.wlo; have := hw.whi; omega
end Go.Proofs.YtnbpdffdnphbeaaGreatDoor
