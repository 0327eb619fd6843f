/- Plain facts: a guard's tests and depth by the document, and the names in a rule's tokens with what each must be. -/
import Derived.Test.YtnbpdffdnphbeaaGreatPWalk
import Derived.Test.YtnbpdffdnphbeaaGreatBookRead2
namespace Go.Proofs.YtnbpdffdnphbeaaGreat

def wtJoin (a b : Int × Int) : Int × Int := (a.1 + b.1, if a.2 < b.2 then b.2 else a.2)
/-- How many tests are in a guard, and the greatest depth. -/
def weightG : Nat → Toks → Int × Int
  | 0, _ => (0, 0)
  | n + 1, ts =>
    if 0 ≤ outB ts kOr then wtJoin (weightG n (ts.take (outB ts kOr).toNat)) (weightG n (ts.drop ((outB ts kOr).toNat + 1)))
    else if 0 ≤ outB ts kAnd then wtJoin (weightG n (ts.take (outB ts kAnd).toNat)) (weightG n (ts.drop ((outB ts kAnd).toNat + 1)))
    else if clsB (ts.getD 0 (0, [])).2 = kNot then ((weightG n (ts.drop 1)).1, (weightG n (ts.drop 1)).2 + 1)
    else if clsB (ts.getD 0 (0, [])).2 = kOpen then ((weightG n ((ts.drop 1).take (ts.length - 2))).1, (weightG n ((ts.drop 1).take (ts.length - 2))).2 + 1)
    else (1, 0)

theorem weightG_bound (n : Nat) : ∀ ts : Toks, 0 ≤ (weightG n ts).1 ∧ (weightG n ts).1 ≤ ts.length + 1 ∧ 0 ≤ (weightG n ts).2 ∧ (weightG n ts).2 ≤ ts.length := by
  induction n with
  | zero => intro ts; simp [weightG]; omega
  | succ n ih =>
    intro ts
    rw [weightG]
    split
    · rename_i h
      have hb := (outB_bound ts kOr).2
      have h1 := ih (ts.take (outB ts kOr).toNat)
      have h2 := ih (ts.drop ((outB ts kOr).toNat + 1))
      rw [List.length_take] at h1
      rw [List.length_drop] at h2
      simp only [wtJoin]
      split <;> omega
    · split
      · rename_i h
        have hb := (outB_bound ts kAnd).2
        have h1 := ih (ts.take (outB ts kAnd).toNat)
        have h2 := ih (ts.drop ((outB ts kAnd).toNat + 1))
        rw [List.length_take] at h1
        rw [List.length_drop] at h2
        simp only [wtJoin]
        split <;> omega
      · split
        · rename_i h
          have h1 := ih (ts.drop 1)
          have h2 : 0 < ts.length := by
            cases ts with
            | nil => exact absurd h (by decide)
            | cons _ _ => simp
          rw [List.length_drop] at h1
          simp only; omega
        · split
          · rename_i h
            have h1 := ih ((ts.drop 1).take (ts.length - 2))
            have h2 : 0 < ts.length := by
              cases ts with
              | nil => exact absurd h (by decide)
              | cons _ _ => simp
            rw [List.length_take, List.length_drop] at h1
            simp only; omega
          · simp; omega

/-- The class of the token that comes next. -/
def nextc (r : Toks) (nx : Bs) : Bs := match r with | [] => nx | s :: _ => clsB s.2
def lastc (p : Bs) : Toks → Bs
  | [] => p
  | t :: r => lastc (clsB t.2) r
def lastS (p : Bs) : Toks → Bs
  | [] => p
  | t :: r => lastS t.2 r
/-- What a name in a guard must be: 1 a conclusion (behind has), 2 a num, 3 a flag. -/
def needK (p nx : Bs) : Nat := if p = [104, 97, 115] then 1 else if p ∈ cmpL ∨ nx ∈ cmpL then 2 else 3
/-- The names in a guard's tokens, and what each must be. -/
def needG : Bs → Toks → Bs → List (Nat × Bs)
  | _, [], _ => []
  | p, t :: r, nx => (if clsB t.2 = nameB then [(needK p (nextc r nx), t.2)] else []) ++ needG (clsB t.2) r nx

theorem nextc_app (u v : Toks) (nx : Bs) : nextc (u ++ v) nx = nextc u (nextc v nx) := by cases u <;> rfl
theorem needG_app (u v : Toks) (nx : Bs) : ∀ p, needG p (u ++ v) nx = needG p u (nextc v nx) ++ needG (lastc p u) v nx := by
  induction u with
  | nil => intro p; rfl
  | cons t r ih => intro p; rw [List.cons_append, needG, ih, needG, lastc, nextc_app, List.append_assoc]

def neut (c : Bs) : Prop := c ≠ [104, 97, 115] ∧ c ∉ cmpL
/-- The names of tokens, whatever stands around them. -/
def Needs (u : Toks) (L : List (Nat × Bs)) : Prop := ∀ p nx, neut p → nx ∉ cmpL → needG p u nx = L

theorem Needs.join {u v : Toks} {t : Nat × Bs} {L L' : List (Nat × Bs)} (hu : Needs u L) (hv : Needs v L') (ht : clsB t.2 ≠ nameB) (hn : neut (clsB t.2)) : Needs (u ++ t :: v) (L ++ L') := by
  intro p nx hp hnx
  rw [needG_app, show nextc (t :: v) nx = clsB t.2 from rfl, hu p _ hp hn.2, needG, if_neg ht, List.nil_append, hv _ _ hn hnx]
theorem Needs.ahead {u : Toks} {t : Nat × Bs} {L : List (Nat × Bs)} (hu : Needs u L) (ht : clsB t.2 ≠ nameB) (hn : neut (clsB t.2)) : Needs (t :: u) L := by
  intro p nx _ hnx
  rw [needG, if_neg ht, List.nil_append, hu _ _ hn hnx]
theorem Needs.behind {u : Toks} {t : Nat × Bs} {L : List (Nat × Bs)} (hu : Needs u L) (ht : clsB t.2 ≠ nameB) (hn : neut (clsB t.2)) : Needs (u ++ [t]) L := by
  intro p nx hp _
  rw [needG_app, show nextc [t] nx = clsB t.2 from rfl, hu p _ hp hn.2, needG, if_neg ht, needG]; simp

/-- The names in a node of the program's guard. -/
def nodeN (x : PNode) : List (Nat × Bs) :=
  if x.kind = 5 then [(1, x.name)] else if x.kind = 6 then [(3, x.name)] else if x.kind = 7 then (2, x.name) :: (if x.other = [] then [] else [(2, x.other)]) else []
def needsN (N : List PNode) : List (Nat × Bs) := N.flatMap nodeN
theorem needsN_app (N M : List PNode) : needsN (N ++ M) = needsN N ++ needsN M := by simp [needsN]

/-- Sums: the names, how many signs stand between parts, whether a factor is too great. -/
def needS : Toks → List (Nat × Bs)
  | [] => []
  | t :: r => (if clsB t.2 = nameB then [(0, t.2)] else []) ++ needS r
def cntPM : Toks → Nat
  | [] => 0
  | t :: r => (if clsB t.2 = [43] ∨ clsB t.2 = [45] then 1 else 0) + cntPM r
def bigG : Bs → Toks → Bool
  | _, [] => false
  | p, t :: r => (decide (clsB t.2 = [42]) && decide (9 < valF 0 p)) || bigG t.2 r
theorem needS_app (u v : Toks) : needS (u ++ v) = needS u ++ needS v := by
  induction u with
  | nil => rfl
  | cons t r ih => rw [List.cons_append, needS, ih, needS, List.append_assoc]
theorem cntPM_app (u v : Toks) : cntPM (u ++ v) = cntPM u + cntPM v := by
  induction u with
  | nil => simp [cntPM]
  | cons t r ih => rw [List.cons_append, cntPM, ih, cntPM]; omega
theorem bigG_app (u v : Toks) : ∀ p, bigG p (u ++ v) = (bigG p u || bigG (lastS p u) v) := by
  induction u with
  | nil => intro p; simp [bigG, lastS]
  | cons t r ih => intro p; rw [List.cons_append, bigG, ih, bigG, lastS, Bool.or_assoc]

def partN (x : PPart) : List (Nat × Bs) := if x.name = [] then [] else [(0, x.name)]
def partBig (x : PPart) : Bool := x.starred && decide (9 < x.num)
/-- What the tokens of a sum come to. -/
structure SumT (v : Toks) (S : List PPart) : Prop where
  needs : needS v = S.flatMap partN
  count : cntPM v + 1 = S.length
  big : ∀ p, bigG p v = S.any partBig
  star : ∀ k, k < v.length → clsB (v.getD k (0, [])).2 = [42] → 0 < k ∧ clsB (v.getD (k - 1) (0, [])).2 = numberB
theorem SumT.join {u v : Toks} {t : Nat × Bs} {S S' : List PPart} (hu : SumT u S) (hv : SumT v S') (ht : clsB t.2 = [43] ∨ clsB t.2 = [45]) : SumT (u ++ t :: v) (S ++ S') := by
  have h1 : clsB t.2 ≠ nameB := by rcases ht with h | h <;> rw [h] <;> decide
  have h2 : clsB t.2 ≠ [42] := by rcases ht with h | h <;> rw [h] <;> decide
  refine ⟨?_, ?_, ?_, ?_⟩
  · rw [needS_app, needS, if_neg h1, hu.needs, hv.needs, List.flatMap_append, List.nil_append]
  · rw [cntPM_app, cntPM, if_pos ht, List.length_append, ← hu.count, ← hv.count]; omega
  · intro p; rw [bigG_app, bigG, hu.big, hv.big, decide_eq_false h2, List.any_append]; simp
  · intro k hk h
    rcases Nat.lt_trichotomy k u.length with h3 | h3 | h3
    · have e : ∀ i, i < u.length → (u ++ t :: v).getD i (0, []) = u.getD i (0, []) := fun i hi => by rw [List.getD, List.getD, List.getElem?_append_left hi]
      rw [e k h3] at h
      obtain ⟨h4, h5⟩ := hu.star k h3 h
      exact ⟨h4, by rw [e (k - 1) (by omega)]; exact h5⟩
    · subst h3
      rw [List.getD, List.getElem?_append_right (Nat.le_refl _)] at h
      simp only [Nat.sub_self, List.getElem?_cons_zero, Option.getD_some] at h
      exact absurd h h2
    · have e : ∀ i, u.length < i → (u ++ t :: v).getD i (0, []) = v.getD (i - u.length - 1) (0, []) := fun i hi => by
        rw [List.getD, List.getD, List.getElem?_append_right (by omega)]
        obtain ⟨m, hm⟩ : ∃ m, i - u.length = m + 1 := ⟨i - u.length - 1, by omega⟩
        rw [hm]; rfl
      rw [e k h3] at h
      obtain ⟨h4, h5⟩ := hv.star (k - u.length - 1) (by simp only [List.length_append, List.length_cons] at hk; omega) h
      exact ⟨by omega, by rw [e (k - 1) (by omega), show k - 1 - u.length - 1 = k - u.length - 1 - 1 by omega]; exact h5⟩
end Go.Proofs.YtnbpdffdnphbeaaGreat
