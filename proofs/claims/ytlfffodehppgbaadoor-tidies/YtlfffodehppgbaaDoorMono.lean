/- The reader never goes back; a line takes a token, or fails. -/
import Derived.Test.YtlfffodehppgbaaDoorLine
namespace Go.Proofs.YtlfffodehppgbaaDoor
open Go.RowKit

theorem pName_mono (P : List PT) (s : St) : s.1 ≤ (pName P s).2.1 := adv_le _ _
theorem pNumber_mono (P : List PT) (s : St) : s.1 ≤ (pNumber P s).2.1 := adv_le _ _
theorem pWant_mono (P : List PT) (t : Bs) (s : St) : s.1 ≤ (pWant P t s).1 := adv_le _ _

theorem pSumG_mono (P : List PT) (n : Nat) : ∀ m s ps, s.1 ≤ (pSumG P n m s ps).2.1 := by
  induction n with
  | zero => intro m s ps; exact Nat.le_refl _
  | succ n ih =>
    intro m s ps
    have h1 := pPart_mono P m s
    have h2 := pSkip_mono P [45] (pPart P m s).2
    rw [pSumG]
    split
    · exact Nat.le_trans h1 (Nat.le_trans h2 (ih _ _ _))
    · have h3 := pSkip_mono P [43] (pSkip P [45] (pPart P m s).2).2
      split
      · exact Nat.le_trans h1 (Nat.le_trans h2 (Nat.le_trans h3 (ih _ _ _)))
      · exact Nat.le_trans h1 (Nat.le_trans h2 h3)

theorem loopB_mono (P : List PT) (item : GS → Int × GS) (tok : Bs) (kind : Int) (hit : ∀ q, q.s.1 ≤ (item q).2.s.1) (k : Nat) : ∀ l q, q.s.1 ≤ (loopB P item tok kind k l q).2.s.1 := by
  induction k with
  | zero => intro l q; exact Nat.le_refl _
  | succ k ih =>
    intro l q
    have h1 := pSkip_mono P tok q.s
    rw [loopB]
    split
    · exact h1
    · have h3 := ih ((item (q.to (pSkip P tok q.s).2)).2.nd.length : Nat) ((item (q.to (pSkip P tok q.s).2)).2.add ⟨kind, l, (item (q.to (pSkip P tok q.s).2)).1, [], [], [], 0⟩)
      exact Nat.le_trans h1 (Nat.le_trans (hit (q.to (pSkip P tok q.s).2)) h3)

theorem termsW_mono (P : List PT) (fact : GS → Int → Int × GS) (hf : ∀ q d, q.s.1 ≤ (fact q d).2.s.1) (q : GS) (d : Int) : q.s.1 ≤ (termsW P fact q d).2.s.1 :=
  Nat.le_trans (hf q d) (loopB_mono P _ _ _ (fun q => hf q d) _ _ _)
theorem altW_mono (P : List PT) (fact : GS → Int → Int × GS) (hf : ∀ q d, q.s.1 ≤ (fact q d).2.s.1) (q : GS) (d : Int) : q.s.1 ≤ (altW P fact q d).2.s.1 :=
  Nat.le_trans (termsW_mono P fact hf q d) (loopB_mono P _ _ _ (fun q => termsW_mono P fact hf q d) _ _ _)

theorem pFact_mono (P : List PT) (n : Nat) : ∀ q d, q.s.1 ≤ (pFact P n q d).2.s.1 := by
  induction n with
  | zero => intro q d; exact Nat.le_refl _
  | succ n ih =>
    intro q d
    have h1 := pSkip_mono P kNot q.s
    rw [pFact]
    split
    · exact Nat.le_trans h1 (ih (q.to (pSkip P kNot q.s).2) (d + 1))
    · have h2 := pSkip_mono P kOpen (pSkip P kNot q.s).2
      split
      · exact Nat.le_trans h1 (Nat.le_trans h2 (Nat.le_trans (altW_mono P _ ih (q.to (pSkip P kOpen (pSkip P kNot q.s).2).2) (d + 1)) (pWant_mono P _ _)))
      · exact Nat.le_trans h1 (Nat.le_trans h2 (pTest_mono P _))

theorem pGuard_mono (P : List PT) (s : St) : s.1 ≤ (pGuard P s).2.s.1 := altW_mono P _ (pFact_mono P P.length) ⟨s, [], 0, 0⟩ 0

theorem pNumLine_mono (P : List PT) (s : St) : s.1 ≤ (pNumLine P s).2.1 :=
  Nat.le_trans (pName_mono P s) (Nat.le_trans (pNumber_mono P _) (Nat.le_trans (pWant_mono P _ _) (Nat.le_trans (pNumber_mono P _) (pWant_mono P _ _))))
theorem pFlagLine_mono (P : List PT) (s : St) : s.1 ≤ (pFlagLine P s).2.1 := Nat.le_trans (pName_mono P s) (pWant_mono P _ _)
theorem pOverLine_mono (P : List PT) (s : St) : s.1 ≤ (pOverLine P s).2.1 := Nat.le_trans (pName_mono P s) (Nat.le_trans (pName_mono P _) (pWant_mono P _ _))
theorem pRuleLine_mono (P : List PT) (s : St) : s.1 ≤ (pRuleLine P s).2.1 :=
  Nat.le_trans (pName_mono P s) (Nat.le_trans (pWant_mono P _ _) (Nat.le_trans (pName_mono P _) (Nat.le_trans (pWant_mono P _ _) (Nat.le_trans (pSumG_mono P _ _ _ _) (Nat.le_trans (pWant_mono P _ _) (Nat.le_trans (pGuard_mono P _) (pWant_mono P _ _)))))))

theorem failed_want {P : List PT} {t : Bs} {s : St} (h : s.2 = true) : (pWant P t s).2 = true := by simp [pWant, skipB, h]
theorem failed_name {P : List PT} {s : St} (h : s.2 = true) : (pName P s).2.2 = true := by simp [pName, takeB, h]

theorem pLine_adv (P : List PT) (s : St) : s.1 < (pLine P s).2.1 ∨ (pLine P s).2.2 = true := by
  unfold pLine
  split
  · rename_i h; left; have h1 := pSkip_true h; have h2 := pNumLine_mono P (pSkip P [110, 117, 109] s).2; omega
  · have m0 := pSkip_mono P [110, 117, 109] s
    split
    · rename_i h; left; have h1 := pSkip_true h; have h2 := pFlagLine_mono P (pSkip P [102, 108, 97, 103] (pSkip P [110, 117, 109] s).2).2; omega
    · have m1 := pSkip_mono P [102, 108, 97, 103] (pSkip P [110, 117, 109] s).2
      split
      · rename_i h; left; have h1 := pSkip_true h; have h2 := pRuleLine_mono P (pSkip P [114, 117, 108, 101] (pSkip P [102, 108, 97, 103] (pSkip P [110, 117, 109] s).2).2).2; omega
      · have m2 := pSkip_mono P [114, 117, 108, 101] (pSkip P [102, 108, 97, 103] (pSkip P [110, 117, 109] s).2).2
        generalize (pSkip P [114, 117, 108, 101] (pSkip P [102, 108, 97, 103] (pSkip P [110, 117, 109] s).2).2).2 = s3 at *
        have m3 := pOverLine_mono P (pWant P [111, 118, 101, 114] s3)
        cases hb : skipB P [111, 118, 101, 114] s3.1 s3.2
        · right
          have hf : (pWant P [111, 118, 101, 114] s3).2 = true := by simp [pWant, hb]
          exact failed_want (failed_name (failed_name hf))
        · left
          have : (pWant P [111, 118, 101, 114] s3).1 = s3.1 + 1 := by simp [pWant, hb, adv]
          omega

theorem pLine_mono (P : List PT) (s : St) : s.1 ≤ (pLine P s).2.1 := by
  unfold pLine
  have m0 := pSkip_mono P [110, 117, 109] s
  split
  · exact Nat.le_trans m0 (pNumLine_mono P _)
  · have m1 := pSkip_mono P [102, 108, 97, 103] (pSkip P [110, 117, 109] s).2
    split
    · exact Nat.le_trans m0 (Nat.le_trans m1 (pFlagLine_mono P _))
    · have m2 := pSkip_mono P [114, 117, 108, 101] (pSkip P [102, 108, 97, 103] (pSkip P [110, 117, 109] s).2).2
      split
      · exact Nat.le_trans m0 (Nat.le_trans m1 (Nat.le_trans m2 (pRuleLine_mono P _)))
      · exact Nat.le_trans m0 (Nat.le_trans m1 (Nat.le_trans m2 (Nat.le_trans (pWant_mono P _ _) (pOverLine_mono P _))))

/-- The lines, one behind the other. -/
def pLines (P : List PT) : Nat → St → List PLine → List PLine × St
  | 0, s, acc => (acc, s)
  | n + 1, s, acc =>
    match s.2 with
    | true => (acc, s)
    | false => if (cur P s.1).k = 0 then (acc, s) else pLines P n (pLine P s).2 (acc ++ [(pLine P s).1])

/-- How far the reader still has to go. -/
def togo (P : List PT) (s : St) : Nat := 2 * (P.length - s.1) + (match s.2 with | true => 0 | false => 1)

theorem togo_line {P : List PT} {s : St} (h : s.2 = false) (ha : s.1 < P.length) : togo P (pLine P s).2 < togo P s := by
  have h1 := pLine_adv P s
  have h2 := pLine_mono P s
  unfold togo
  rw [h]
  rcases h1 with h1 | h1
  · split <;> omega
  · rw [h1]; simp only; omega

end Go.Proofs.YtlfffodehppgbaaDoor
