/- Plain functions: the lines of tokens, and the text that the document's answer makes of them. -/
import Derived.Test.YtnbpdffdnphbeaaGreatDoorForm
namespace Go.Proofs.YtnbpdffdnphbeaaGreatDoor

/-- The lines of tokens: where each begins, and how long it is. -/
def linesG : Toks → Nat → Nat → List (Nat × Nat)
  | [], _, _ => []
  | t :: r, i, a => if clsB t.2 = kEnd then (a, i - a) :: linesG r (i + 1) (i + 1) else linesG r (i + 1) a

def linesB (ts : Toks) : List (Nat × Nat) := linesG ts 0 0

/-- The tokens of a line. -/
def segT (ts : Toks) (p : Nat × Nat) : Toks := (ts.drop p.1).take p.2

/-- What a line becomes. -/
def lineText (n : Nat) (u : Toks) : Bs :=
  if clsB (u.getD 0 (0, [])).2 = kRule then gluedB (u.take ((whenB u).toNat + 1)) ++ [32] ++ (tidG n (u.drop ((whenB u).toNat + 1))).1 else gluedB u

/-- A line of which the document's answer makes its text without a fault. -/
def goodL (n : Nat) (u : Toks) : Prop :=
  0 < u.length ∧ (clsB (u.getD 0 (0, [])).2 = kRule → 0 ≤ whenB u ∧ whenB u + 1 < u.length ∧ goodT n (u.drop ((whenB u).toNat + 1)) = true)

def textG (n : Nat) (ts : Toks) : List (Nat × Nat) → Bs → Bs
  | [], s => s
  | p :: r, s => textG n ts r (s ++ lineText n (segT ts p) ++ [59, 10])

/-- What lines cost, in bytes, at most. -/
def costL (ts : Toks) : List (Nat × Nat) → Nat
  | [] => 0
  | p :: r => 20 * (szT (segT ts p) + 1) + costL ts r

theorem lineText_len (n : Nat) (u : Toks) : (lineText n u).length + 2 ≤ 20 * (szT u + 1) := by
  unfold lineText
  split
  · have h1 := gluF_len (u.take ((whenB u).toNat + 1)) [] 0
    have h2 := tidG_len n (u.drop ((whenB u).toNat + 1))
    have h3 := szT_take_drop u ((whenB u).toNat + 1)
    simp only [gluedB, List.length_append, List.length_cons, List.length_nil] at h1 ⊢
    omega
  · have h1 := gluF_len u [] 0
    simp only [gluedB]; simp only [List.length_nil] at h1; omega

theorem costL_le (ts : Toks) (m : Nat) : ∀ (i a : Nat), ts.length - i = m → a ≤ i → costL ts (linesG (ts.drop i) i a) ≤ 20 * szT (ts.drop a) := by
  induction m with
  | zero =>
    intro i a h _
    rw [List.drop_eq_nil_of_le (by omega), linesG, costL]; omega
  | succ m ih =>
    intro i a h ha
    rw [drop_consT ts i (by omega), linesG]
    split
    · rw [costL]
      have h1 := ih (i + 1) (i + 1) (by omega) (Nat.le_refl _)
      have h2 := szT_take_drop (ts.drop a) (i - a)
      rw [List.drop_drop, show a + (i - a) = i by omega, drop_consT ts i (by omega), szT] at h2
      simp only [segT]
      omega
    · exact ih (i + 1) a (by omega) (by omega)

theorem costL_all (ts : Toks) : costL ts (linesB ts) ≤ 20 * szT ts := by
  have := costL_le ts ts.length 0 0 (by omega) (Nat.le_refl _)
  simpa [linesB] using this

/-- The bytes of tokens, and one more for each, are no more than twice the text's. -/
theorem pieces_sz (n : Nat) : ∀ (l : Bs) (p : Nat), szT (pieces n l p) ≤ 2 * l.length := by
  induction n with
  | zero => intro l p; simp [pieces, szT]
  | succ n ih =>
    intro l p
    simp only [pieces]
    split
    · simp [szT]
    · split
      · have := ih (l.drop 1) (p + 1); rw [List.length_drop] at this; omega
      · rename_i h0 _
        have h1 := ih (l.drop (lenB l)) (p + lenB l); have h2 := lenB_pos l; have h3 := lenB_le (l := l) (by omega)
        rw [List.length_drop] at h1
        simp only [szT, List.length_take]
        omega

theorem toksAt_sz (l : Bs) : szT (toksAt l 0) ≤ 2 * l.length := by
  have := pieces_sz l.length l 0; simpa [toksAt] using this

/-- The document's Tidy of a text. -/
def tidyT (n : Nat) (l : Bs) : Bs := textG n (toksAt l 0) (linesB (toksAt l 0)) []

end Go.Proofs.YtnbpdffdnphbeaaGreatDoor

/- What Lines of the document's answer gives of a text: each line as a piece of the row of tokens. -/
namespace Go.Proofs.YtnbpdffdnphbeaaGreatDoor
open Go.RowKit

theorem SegR.below {w w' : World} {g o B : Nat} {ts : Toks} (h : SegR w g o ts) (hb : Below B w w') (hg : g < B) : SegR w' g o ts := by
  intro i hi
  obtain ⟨a, b, c⟩ := h i hi
  exact ⟨by rw [hb.cell (p := ⟨g, _, none⟩) hg]; exact a, by rw [hb.cell (p := ⟨g, _, none⟩) hg]; exact b, by rw [hb.cell (p := ⟨g, _, none⟩) hg]; exact c⟩

theorem own_block_le {w : World} {B : Nat} {e : TypeId} {size : Nat} {v : Value} {n : Nat} {xs : List Value} (hown : w.ownsRow B e size v n xs) : ∀ k, v.ownBlock = some k → B ≤ k := by
  intro k hk
  rcases hown.2 with ⟨h1, _⟩ | ⟨g, cap, cur, h1, h2, _⟩
  · rw [h1] at hk; simp [Value.ownBlock] at hk
  · rw [h1] at hk; simp [Value.ownBlock] at hk; omega

end Go.Proofs.YtnbpdffdnphbeaaGreatDoor

/- What Tidy of the document's answer gives of a text. -/
namespace Go.Proofs.YtnbpdffdnphbeaaGreatDoor
open Go.RowKit

/-- Tidy's answer by the document: the text, and the error. -/
def tidyB (n : Nat) (l : Bs) : Bs × Int := if 4000 < l.length then ([], 1) else if 0 ≤ formB l then ([], 2) else (tidyT n l, 0)

end Go.Proofs.YtnbpdffdnphbeaaGreatDoor
