/- The reader never goes back; a line takes a token, or fails. -/
import Derived.Test.YtnbpdffdnphbeaaGreatLine
namespace Go.Proofs.YtnbpdffdnphbeaaGreat
open Go.RowKit

theorem pName_mono (P : List PT) (s : St) : s.1 ≤ (pName P s).2.1 := adv_le _ _
theorem pNumber_mono (P : List PT) (s : St) : s.1 ≤ (pNumber P s).2.1 := adv_le _ _
theorem pWant_mono (P : List PT) (t : Bs) (s : St) : s.1 ≤ (pWant P t s).1 := adv_le _ _

theorem pSumG_mono (P : List PT) (n : Nat) : ∀ m s ps, s.1 ≤ (pSumG P n m s ps).2.1 := by
  induction n with
  | zero => intro m s ps; exact Nat.le_refl _
  | succ n ih =>
    intro m s ps
    have h1 := pPart_mono P m s
    have h2 := pSkip_mono P [45] (pPart P m s).2
    rw [pSumG]
    split
    · exact Nat.le_trans h1 (Nat.le_trans h2 (ih _ _ _))
    · have h3 := pSkip_mono P [43] (pSkip P [45] (pPart P m s).2).2
      split
      · exact Nat.le_trans h1 (Nat.le_trans h2 (Nat.le_trans h3 (ih _ _ _)))
      · exact Nat.le_trans h1 (Nat.le_trans h2 h3)

theorem loopB_mono (P : List PT) (item : GS → Int × GS) (tok : Bs) (kind : Int) (hit : ∀ q, q.s.1 ≤ (item q).2.s.1) (k : Nat) : ∀ l q, q.s.1 ≤ (loopB P item tok kind k l q).2.s.1 := by
  induction k with
  | zero => intro l q; exact Nat.le_refl _
  | succ k ih =>
    intro l q
    have h1 := pSkip_mono P tok q.s
    rw [loopB]
    split
    · exact h1
    · have h3 := ih ((item (q.to (pSkip P tok q.s).2)).2.nd.length : Nat) ((item (q.to (pSkip P tok q.s).2)).2.add ⟨kind, l, (item (q.to (pSkip P tok q.s).2)).1, [], [], [], 0⟩)
      exact Nat.le_trans h1 (Nat.le_trans (hit (q.to (pSkip P tok q.s).2)) h3)

theorem termsW_mono (P : List PT) (fact : GS → Int → Int × GS) (hf : ∀ q d, q.s.1 ≤ (fact q d).2.s.1) (q : GS) (d : Int) : q.s.1 ≤ (termsW P fact q d).2.s.1 :=
  Nat.le_trans (hf q d) (loopB_mono P _ _ _ (fun q => hf q d) _ _ _)
theorem altW_mono (P : List PT) (fact : GS → Int → Int × GS) (hf : ∀ q d, q.s.1 ≤ (fact q d).2.s.1) (q : GS) (d : Int) : q.s.1 ≤ (altW P fact q d).2.s.1 :=
  Nat.le_trans (termsW_mono P fact hf q d) (loopB_mono P _ _ _ (fun q => termsW_mono P fact hf q d) _ _ _)

theorem pFact_mono (P : List PT) (n : Nat) : ∀ q d, q.s.1 ≤ (pFact P n q d).2.s.1 := by
  induction n with
  | zero => intro q d; exact Nat.le_refl _
  | succ n ih =>
    intro q d
    have h1 := pSkip_mono P kNot q.s
    rw [pFact]
    split
    · exact Nat.le_trans h1 (ih (q.to (pSkip P kNot q.s).2) (d + 1))
    · have h2 := pSkip_mono P kOpen (pSkip P kNot q.s).2
      split
      · exact Nat.le_trans h1 (Nat.le_trans h2 (Nat.le_trans (altW_mono P _ ih (q.to (pSkip P kOpen (pSkip P kNot q.s).2).2) (d + 1)) (pWant_mono P _ _)))
      · exact Nat.le_trans h1 (Nat.le_trans h2 (pTest_mono P _))

theorem pGuard_mono (P : List PT) (s : St) : s.1 ≤ (pGuard P s).2.s.1 := altW_mono P _ (pFact_mono P P.length) ⟨s, [], 0, 0⟩ 0

theorem pNumLine_mono (P : List PT) (s : St) : s.1 ≤ (pNumLine P s).2.1 :=
  Nat.le_trans (pName_mono P s) (Nat.le_trans (pNumber_mono P _) (Nat.le_trans (pWant_mono P _ _) (Nat.le_trans (pNumber_mono P _) (pWant_mono P _ _))))
theorem pFlagLine_mono (P : List PT) (s : St) : s.1 ≤ (pFlagLine P s).2.1 := Nat.le_trans (pName_mono P s) (pWant_mono P _ _)
theorem pOverLine_mono (P : List PT) (s : St) : s.1 ≤ (pOverLine P s).2.1 := Nat.le_trans (pName_mono P s) (Nat.le_trans (pName_mono P _) (pWant_mono P _ _))
theorem pRuleLine_mono (P : List PT) (s : St) : s.1 ≤ (pRuleLine P s).2.1 :=
  Nat.le_trans (pName_mono P s) (Nat.le_trans (pWant_mono P _ _) (Nat.le_trans (pName_mono P _) (Nat.le_trans (pWant_mono P _ _) (Nat.le_trans (pSumG_mono P _ _ _ _) (Nat.le_trans (pWant_mono P _ _) (Nat.le_trans (pGuard_mono P _) (pWant_mono P _ _)))))))

theorem failed_want {P : List PT} {t : Bs} {s : St} (h : s.2 = true) : (pWant P t s).2 = true := by simp [pWant, skipB, h]
theorem failed_name {P : List PT} {s : St} (h : s.2 = true) : (pName P s).2.2 = true := by simp [pName, takeB, h]

theorem pLine_adv (P : List PT) (s : St) : s.1 < (pLine P s).2.1 ∨ (pLine P s).2.2 = true := by
  unfold pLine
  split
  · rename_i h; left; have h1 := pSkip_true h; have h2 := pNumLine_mono P (pSkip P [110, 117, 109] s).2; omega
  · have m0 := pSkip_mono P [110, 117, 109] s
    split
    · rename_i h; left; have h1 := pSkip_true h; have h2 := pFlagLine_mono P (pSkip P [102, 108, 97, 103] (pSkip P [110, 117, 109] s).2).2; omega
    · have m1 := pSkip_mono P [102, 108, 97, 103] (pSkip P [110, 117, 109] s).2
      split
      · rename_i h; left; have h1 := pSkip_true h; have h2 := pRuleLine_mono P (pSkip P [114, 117, 108, 101] (pSkip P [102, 108, 97, 103] (pSkip P [110, 117, 109] s).2).2).2; omega
      · have m2 := pSkip_mono P [114, 117, 108, 101] (pSkip P [102, 108, 97, 103] (pSkip P [110, 117, 109] s).2).2
        generalize (pSkip P [114, 117, 108, 101] (pSkip P [102, 108, 97, 103] (pSkip P [110, 117, 109] s).2).2).2 = s3 at *
        have m3 := pOverLine_mono P (pWant P [111, 118, 101, 114] s3)
        cases hb : skipB P [111, 118, 101, 114] s3.1 s3.2
        · right
          have hf : (pWant P [111, 118, 101, 114] s3).2 = true := by simp [pWant, hb]
          exact failed_want (failed_name (failed_name hf))
        · left
          have : (pWant P [111, 118, 101, 114] s3).1 = s3.1 + 1 := by simp [pWant, hb, adv]
          omega

theorem pLine_mono (P : List PT) (s : St) : s.1 ≤ (pLine P s).2.1 := by
  unfold pLine
  have m0 := pSkip_mono P [110, 117, 109] s
  split
  · exact Nat.le_trans m0 (pNumLine_mono P _)
  · have m1 := pSkip_mono P [102, 108, 97, 103] (pSkip P [110, 117, 109] s).2
    split
    · exact Nat.le_trans m0 (Nat.le_trans m1 (pFlagLine_mono P _))
    · have m2 := pSkip_mono P [114, 117, 108, 101] (pSkip P [102, 108, 97, 103] (pSkip P [110, 117, 109] s).2).2
      split
      · exact Nat.le_trans m0 (Nat.le_trans m1 (Nat.le_trans m2 (pRuleLine_mono P _)))
      · exact Nat.le_trans m0 (Nat.le_trans m1 (Nat.le_trans m2 (Nat.le_trans (pWant_mono P _ _) (pOverLine_mono P _))))

/-- The lines, one behind the other. -/
def pLines (P : List PT) : Nat → St → List PLine → List PLine × St
  | 0, s, acc => (acc, s)
  | n + 1, s, acc =>
    match s.2 with
    | true => (acc, s)
    | false => if (cur P s.1).k = 0 then (acc, s) else pLines P n (pLine P s).2 (acc ++ [(pLine P s).1])

/-- How far the reader still has to go. -/
def togo (P : List PT) (s : St) : Nat := 2 * (P.length - s.1) + (match s.2 with | true => 0 | false => 1)

theorem togo_line {P : List PT} {s : St} (h : s.2 = false) (ha : s.1 < P.length) : togo P (pLine P s).2 < togo P s := by
  have h1 := pLine_adv P s
  have h2 := pLine_mono P s
  unfold togo
  rw [h]
  rcases h1 with h1 | h1
  · split <;> omega
  · rw [h1]; simp only; omega

end Go.Proofs.YtnbpdffdnphbeaaGreat

/- What Read of the program's book gives of a text: its lines, or the error and its place. -/
namespace Go.Proofs.YtnbpdffdnphbeaaGreat
open Go.RowKit

abbrev LX := PLine × (Value × Value)
def lineC (x : LX) : List Value := [.int .i64 x.1.kind, .string ⟨x.1.name.toArray⟩, .int .i64 x.1.low, .int .i64 x.1.high, .string ⟨x.1.conc.toArray⟩, x.2.1, x.2.2, .int .i64 x.1.root, .int .i64 x.1.tests, .int .i64 x.1.dep, .string ⟨x.1.lower.toArray⟩]
def flatL (ls : List LX) : List Value := ls.flatMap lineC
theorem flatL_snoc (ls : List LX) (x : LX) : flatL (ls ++ [x]) = flatL ls ++ lineC x := by simp [flatL]

def AllRows (w : World) (B : Nat) (ls : List LX) : Prop := ∀ x ∈ ls, LineRows w B x.2.1 x.2.2 x.1

/-- Lines lie in memory. -/
def LinesM (w : World) (B : Nat) (v : Value) (ls : List LX) : Prop := w.ownsRow B 83 11 v ls.length (flatL ls) ∧ AllRows w B ls

theorem infoLine : (Tryz.prog.info? 83).map (fun i => (i.zero, i.size, i.bytes)) = some (some (.agg #[.int .i64 0, .string ⟨#[]⟩, .int .i64 0, .int .i64 0, .string ⟨#[]⟩, .slice none 0 0, .slice none 0 0, .int .i64 0, .int .i64 0, .int .i64 0, .string ⟨#[]⟩]), 11, 144) := by kernel_rfl

theorem AllRows.keeps {w w' : World} {B R : Nat} {ls : List LX} (h : AllRows w B ls) (hk : Keeps w.heap.size R w w') (hR : R < B) : AllRows w' B ls :=
  fun x hx => ⟨owns_keeps (h x hx).1 hk hR, owns_keeps (h x hx).2 hk hR⟩
theorem AllRows.alloc {w : World} {B : Nat} {ls : List LX} (h : AllRows w B ls) (o : Obj) : AllRows (w.alloc o) B ls :=
  fun x hx => ⟨(h x hx).1.alloc _, (h x hx).2.alloc _⟩

/-- A row of another type than the one that was appended to. -/
theorem owns_other {w w' : World} {B B' : Nat} {e e' : TypeId} {size size' : Nat} {v v' : Value} {n n' : Nat} {xs xs' : List Value} (h : w.ownsRow B e size v n xs) (hl : w.ownsRow B' e' size' v' n' xs') (hne : e ≠ e') (hg : w.grownBy w' v'.ownBlock) : w'.ownsRow B e size v n xs := by
  refine ⟨h.1, ?_⟩
  rcases h.2 with h1 | ⟨g, cap, cur, h1, h2, h3, r⟩
  · exact .inl h1
  · refine .inr ⟨g, cap, cur, h1, h2, ?_, r⟩
    have hlt : g < w.heap.size := by
      rcases Nat.lt_or_ge g w.heap.size with h | h
      · exact h
      · rw [Array.getElem?_eq_none h] at h3; cases h3
    rw [hg.block g hlt ?_]; · exact h3
    intro hE
    rcases hl.2 with ⟨k1, _⟩ | ⟨g', cap', cur', k1, _, k3, _⟩
    · rw [k1] at hE; simp [Value.ownBlock] at hE
    · rw [k1] at hE
      simp [Value.ownBlock] at hE
      subst hE
      rw [h3] at k3
      simp at k3
      exact hne k3.2

theorem AllRows.grown {w w' : World} {B B' : Nat} {ls : List LX} {size' : Nat} {v' : Value} {n' : Nat} {xs' : List Value} (h : AllRows w B ls) (hl : w.ownsRow B' 83 size' v' n' xs') (hg : w.grownBy w' v'.ownBlock) : AllRows w' B ls :=
  fun x hx => ⟨owns_other (h x hx).1 hl (by decide) hg, owns_other (h x hx).2 hl (by decide) hg⟩

/-- The tokens of a text as the program has them, and the one behind them. -/
def toP (l : Bs) : List PT := (toksAt l 0).map (fun t => ⟨pkind t.2, t.2, pval t.2, t.1⟩) ++ [⟨0, [], 0, l.length⟩]

theorem toP_len (l : Bs) : (toP l).length = (toksAt l 0).length + 1 := by simp [toP]

theorem pkind_ne (s : Bs) : pkind s ≠ 0 := by
  unfold pkind
  split
  · split
    · decide
    · split <;> decide
  · split
    · split <;> decide
    · split <;> decide

theorem toP_endk (l : Bs) : ∀ i, i < (toP l).length → (cur (toP l) i).k ≠ 0 → i + 1 < (toP l).length := by
  intro i hi hk
  rw [toP_len] at hi ⊢
  rcases Nat.lt_or_ge i (toksAt l 0).length with h | h
  · omega
  · exfalso
    have e : i = (toksAt l 0).length := by omega
    apply hk
    unfold cur toP
    subst e
    simp [List.getD]

def flatPT (ps : List PT) : List Value := ps.flatMap (fun x => [.int .i64 x.k, .string ⟨x.s.toArray⟩, .int .i64 x.v, .int .i64 x.p])

theorem flatP_toP (l : Bs) : flatP (toksAt l 0) ++ endTok l.length = flatPT (toP l) := by
  simp only [flatP, flatPT, toP, List.flatMap_append, List.flatMap_map]
  rfl

theorem flatPT_get (ps : List PT) : ∀ i, i < ps.length →
    (flatPT ps)[i * 4]? = some (.int .i64 (cur ps i).k) ∧ (flatPT ps)[i * 4 + 1]? = some (.string ⟨(cur ps i).s.toArray⟩) ∧ (flatPT ps)[i * 4 + 2]? = some (.int .i64 (cur ps i).v) ∧ (flatPT ps)[i * 4 + 3]? = some (.int .i64 (cur ps i).p) := by
  induction ps with
  | nil => intro i h; simp at h
  | cons t r ih =>
    intro i h
    have e : flatPT (t :: r) = [.int .i64 t.k, .string ⟨t.s.toArray⟩, .int .i64 t.v, .int .i64 t.p] ++ flatPT r := by simp [flatPT]
    cases i with
    | zero => rw [e]; simp [cur]
    | succ i =>
      have hi := ih i (by simpa using h)
      have hc : cur (t :: r) (i + 1) = cur r i := by simp [cur]
      rw [e, hc]
      refine ⟨?_, ?_, ?_, ?_⟩
      · rw [List.getElem?_append_right (by simp; omega), show (i + 1) * 4 - [Value.int .i64 t.k, .string ⟨t.s.toArray⟩, .int .i64 t.v, .int .i64 t.p].length = i * 4 by simp; omega]; exact hi.1
      · rw [List.getElem?_append_right (by simp; omega), show (i + 1) * 4 + 1 - [Value.int .i64 t.k, .string ⟨t.s.toArray⟩, .int .i64 t.v, .int .i64 t.p].length = i * 4 + 1 by simp; omega]; exact hi.2.1
      · rw [List.getElem?_append_right (by simp; omega), show (i + 1) * 4 + 2 - [Value.int .i64 t.k, .string ⟨t.s.toArray⟩, .int .i64 t.v, .int .i64 t.p].length = i * 4 + 2 by simp; omega]; exact hi.2.2.1
      · rw [List.getElem?_append_right (by simp; omega), show (i + 1) * 4 + 3 - [Value.int .i64 t.k, .string ⟨t.s.toArray⟩, .int .i64 t.v, .int .i64 t.p].length = i * 4 + 3 by simp; omega]; exact hi.2.2.2

theorem cell_take2 {w : World} {g : Nat} {cur : Array Value} {e : TypeId} {fz : Nat × Nat} {k n : Nat} {xs : List Value} {u : Value}
    (hb : w.heap[g]? = some (.cells cur e fz)) (ht : cur.toList.take n = xs) (hx : xs[k]? = some u) : w.cell? ⟨g, k, none⟩ = some u := by
  have h1 : cur.toList[k]? = some u := by
    rw [← ht, List.getElem?_take] at hx
    split at hx
    · exact hx
    · cases hx
  simp [World.cell?, hb]
  simpa using h1

/-- The row of tokens that Read gave: its value, and where it lies. -/
theorem owns_toks {w : World} {base : Nat} {v : Value} {ps : List PT} (h : w.ownsRow base 86 4 v ps.length (flatPT ps)) (h0 : 0 < ps.length) :
    ∃ g cap, v = .slice (some ⟨g, 0, none⟩) ps.length cap ∧ base ≤ g ∧ g < w.heap.size ∧ ps.length ≤ cap ∧ cap ≤ maxLen ∧ TokM w g ps := by
  rcases h.2 with ⟨_, h2⟩ | ⟨g, cap, c, h1, h2, h3, h4, h5, h6, h7⟩
  · omega
  · refine ⟨g, cap, h1, h2, ?_, h4, h5, fun i hi => ?_⟩
    · rcases Nat.lt_or_ge g w.heap.size with h | h
      · exact h
      · rw [Array.getElem?_eq_none h] at h3; cases h3
    · obtain ⟨a, b, c', d⟩ := flatPT_get ps i hi
      exact ⟨cell_take2 h3 h7 a, cell_take2 h3 h7 b, cell_take2 h3 h7 c', cell_take2 h3 h7 d⟩

end Go.Proofs.YtnbpdffdnphbeaaGreat
