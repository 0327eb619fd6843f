/- Plain facts on what a guard becomes: which tokens are good for it, how long it gets. -/
import Derived.Test.YtlfffodehppgbaaDoorLex2
namespace Go.Proofs.YtlfffodehppgbaaDoor

/-- Tokens over which the document's way of tidying never comes to nothing. -/
def goodT : Nat → Toks → Bool
  | 0, _ => false
  | n + 1, ts =>
    if 0 ≤ outB ts kOr then goodT n (ts.take (outB ts kOr).toNat) && goodT n (ts.drop ((outB ts kOr).toNat + 1))
    else if 0 ≤ outB ts kAnd then goodT n (ts.take (outB ts kAnd).toNat) && goodT n (ts.drop ((outB ts kAnd).toNat + 1))
    else if clsB (ts.getD 0 (0, [])).2 = kNot then decide (0 < ts.length) && goodT n (ts.drop 1)
    else if clsB (ts.getD 0 (0, [])).2 = kOpen then decide (2 < ts.length) && goodT n ((ts.drop 1).take (ts.length - 2))
    else decide (0 < ts.length)

theorem outB_nil (word : Bs) : outB [] word = -1 := rfl

theorem goodT_pos {n : Nat} {ts : Toks} (h : goodT n ts = true) : 0 < ts.length := by
  cases n with
  | zero => simp [goodT] at h
  | succ n =>
    cases ts with
    | nil => simp [goodT, outB_nil] at h
    | cons t r => simp

theorem szT_split (ts : Toks) (k : Nat) (h : k < ts.length) : szT (ts.take k) + 1 + szT (ts.drop (k + 1)) ≤ szT ts := by
  have h1 := szT_take_drop ts k
  rw [drop_consT ts k h, szT] at h1
  omega

theorem tidG_len (n : Nat) : ∀ ts : Toks, (tidG n ts).1.length ≤ 16 * szT ts := by
  induction n with
  | zero => intro ts; simp [tidG]
  | succ n ih =>
    intro ts
    have bo := outB_bound ts kOr
    have ba := outB_bound ts kAnd
    rw [tidG]
    split
    · have h1 := ih (ts.take (outB ts kOr).toNat); have h2 := ih (ts.drop ((outB ts kOr).toNat + 1))
      have h3 := szT_split ts (outB ts kOr).toNat (by omega)
      simp only [List.length_append, List.length_cons, List.length_nil]; omega
    · split
      · have h1 := ih (ts.take (outB ts kAnd).toNat); have h2 := ih (ts.drop ((outB ts kAnd).toNat + 1))
        have h3 := szT_split ts (outB ts kAnd).toNat (by omega)
        have h4 : ∀ (c : Prop) [Decidable c] (a : Bs), (if c then brk a else a).length ≤ a.length + 4 := by
          intro c _ a; split <;> simp [brk]
        have h5 := h4 ((tidG n (ts.take (outB ts kAnd).toNat)).2 = 2) (tidG n (ts.take (outB ts kAnd).toNat)).1
        have h6 := h4 ((tidG n (ts.drop ((outB ts kAnd).toNat + 1))).2 = 2) (tidG n (ts.drop ((outB ts kAnd).toNat + 1))).1
        simp only [List.length_append, List.length_cons, List.length_nil]; omega
      · split
        · rename_i hn
          have h1 := ih (ts.drop 1)
          have h4 : ∀ (c : Prop) [Decidable c] (a : Bs), (if c then brk a else a).length ≤ a.length + 4 := by
            intro c _ a; split <;> simp [brk]
          have h5 := h4 (0 < (tidG n (ts.drop 1)).2) (tidG n (ts.drop 1)).1
          have h0 : 0 < ts.length := by
            cases ts with
            | nil => revert hn; decide
            | cons t r => simp
          have h3 := szT_split ts 0 h0
          simp only [List.length_append, List.length_cons, List.length_nil, Nat.zero_add] at h3 ⊢; omega
        · split
          · have h1 := ih ((ts.drop 1).take (ts.length - 2))
            have h2 := szT_take_le (ts.drop 1) (ts.length - 2); have h3 := szT_drop_le ts 1
            omega
          · have := gluF_len ts [] 0; simp only [gluedB]; simp at this; omega

theorem tidG_kind (n : Nat) : ∀ ts : Toks, 0 ≤ (tidG n ts).2 ∧ (tidG n ts).2 ≤ 2 := by
  induction n with
  | zero => intro ts; simp [tidG]
  | succ n ih =>
    intro ts
    rw [tidG]
    split
    · simp
    · split
      · simp
      · split
        · simp
        · split
          · exact ih _
          · simp

end Go.Proofs.YtlfffodehppgbaaDoor
