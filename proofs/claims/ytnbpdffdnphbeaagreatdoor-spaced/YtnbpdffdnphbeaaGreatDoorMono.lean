/- The reader never goes back; a line takes a token, or fails. -/
import Derived.Test.YtnbpdffdnphbeaaGreatDoorBLines
namespace Go.Proofs.YtnbpdffdnphbeaaGreatDoor
open Go.RowKit

theorem pName_mono (P : List PT) (s : St) : s.1 ≤ (pName P s).2.1 := adv_le _ _
theorem pNumber_mono (P : List PT) (s : St) : s.1 ≤ (pNumber P s).2.1 := adv_le _ _
theorem pWant_mono (P : List PT) (t : Bs) (s : St) : s.1 ≤ (pWant P t s).1 := adv_le _ _

theorem pSumG_mono (P : List PT) (n : Nat) : ∀ m s ps, s.1 ≤ (pSumG P n m s ps).2.1 := by
  induction n with
  | zero => intro m s ps; exact Nat.le_refl _
  | succ n ih =>
    intro m s ps
    have h1 := pPart_mono P m s
    have h2 := pSkip_mono P [45] (pPart P m s).2
    rw [pSumG]
    split
    · exact Nat.le_trans h1 (Nat.le_trans h2 (ih _ _ _))
    · have h3 := pSkip_mono P [43] (pSkip P [45] (pPart P m s).2).2
      split
      · exact Nat.le_trans h1 (Nat.le_trans h2 (Nat.le_trans h3 (ih _ _ _)))
      · exact Nat.le_trans h1 (Nat.le_trans h2 h3)

theorem loopB_mono (P : List PT) (item : GS → Int × GS) (tok : Bs) (kind : Int) (hit : ∀ q, q.s.1 ≤ (item q).2.s.1) (k : Nat) : ∀ l q, q.s.1 ≤ (loopB P item tok kind k l q).2.s.1 := by
  induction k with
  | zero => intro l q; exact Nat.le_refl _
  | succ k ih =>
    intro l q
    have h1 := pSkip_mono P tok q.s
    rw [loopB]
    split
    · exact h1
    · have h3 := ih ((item (q.to (pSkip P tok q.s).2)).2.nd.length : Nat) ((item (q.to (pSkip P tok q.s).2)).2.add ⟨kind, l, (item (q.to (pSkip P tok q.s).2)).1, [], [], [], 0⟩)
      exact Nat.le_trans h1 (Nat.le_trans (hit (q.to (pSkip P tok q.s).2)) h3)

theorem termsW_mono (P : List PT) (fact : GS → Int → Int × GS) (hf : ∀ q d, q.s.1 ≤ (fact q d).2.s.1) (q : GS) (d : Int) : q.s.1 ≤ (termsW P fact q d).2.s.1 :=
  Nat.le_trans (hf q d) (loopB_mono P _ _ _ (fun q => hf q d) _ _ _)
theorem altW_mono (P : List PT) (fact : GS → Int → Int × GS) (hf : ∀ q d, q.s.1 ≤ (fact q d).2.s.1) (q : GS) (d : Int) : q.s.1 ≤ (altW P fact q d).2.s.1 :=
  Nat.le_trans (termsW_mono P fact hf q d) (loopB_mono P _ _ _ (fun q => termsW_mono P fact hf q d) _ _ _)

theorem pFact_mono (P : List PT) (n : Nat) : ∀ q d, q.s.1 ≤ (pFact P n q d).2.s.1 := by
  induction n with
  | zero => intro q d; exact Nat.le_refl _
  | succ n ih =>
    intro q d
    have h1 := pSkip_mono P kNot q.s
    rw [pFact]
    split
    · exact Nat.le_trans h1 (ih (q.to (pSkip P kNot q.s).2) (d + 1))
    · have h2 := pSkip_mono P kOpen (pSkip P kNot q.s).2
      split
      · exact Nat.le_trans h1 (Nat.le_trans h2 (Nat.le_trans (altW_mono P _ ih (q.to (pSkip P kOpen (pSkip P kNot q.s).2).2) (d + 1)) (pWant_mono P _ _)))
      · exact Nat.le_trans h1 (Nat.le_trans h2 (pTest_mono P _))

theorem pGuard_mono (P : List PT) (s : St) : s.1 ≤ (pGuard P s).2.s.1 := altW_mono P _ (pFact_mono P P.length) ⟨s, [], 0, 0⟩ 0

theorem pNumLine_mono (P : List PT) (s : St) : s.1 ≤ (pNumLine P s).2.1 :=
  Nat.le_trans (pName_mono P s) (Nat.le_trans (pNumber_mono P _) (Nat.le_trans (pWant_mono P _ _) (Nat.le_trans (pNumber_mono P _) (pWant_mono P _ _))))
theorem pFlagLine_mono (P : List PT) (s : St) : s.1 ≤ (pFlagLine P s).2.1 := Nat.le_trans (pName_mono P s) (pWant_mono P _ _)
theorem pOverLine_mono (P : List PT) (s : St) : s.1 ≤ (pOverLine P s).2.1 := Nat.le_trans (pName_mono P s) (Nat.le_trans (pName_mono P _) (pWant_mono P _ _))
theorem pRuleLine_mono (P : List PT) (s : St) : s.1 ≤ (pRuleLine P s).2.1 :=
  Nat.le_trans (pName_mono P s) (Nat.le_trans (pWant_mono P _ _) (Nat.le_trans (pName_mono P _) (Nat.le_trans (pWant_mono P _ _) (Nat.le_trans (pSumG_mono P _ _ _ _) (Nat.le_trans (pWant_mono P _ _) (Nat.le_trans (pGuard_mono P _) (pWant_mono P _ _)))))))

theorem failed_want {P : List PT} {t : Bs} {s : St} (h : s.2 = true) : (pWant P t s).2 = true := by simp [pWant, skipB, h]
theorem failed_name {P : List PT} {s : St} (h : s.2 = true) : (pName P s).2.2 = true := by simp [pName, takeB, h]

theorem pLine_adv (P : List PT) (s : St) : s.1 < (pLine P s).2.1 ∨ (pLine P s).2.2 = true := by
  unfold pLine
  split
  · rename_i h; left; have h1 := pSkip_true h; have h2 := pNumLine_mono P (pSkip P [110, 117, 109] s).2; omega
  · have m0 := pSkip_mono P [110, 117, 109] s
    split
    · rename_i h; left; have h1 := pSkip_true h; have h2 := pFlagLine_mono P (pSkip P [102, 108, 97, 103] (pSkip P [110, 117, 109] s).2).2; omega
    · have m1 := pSkip_mono P [102, 108, 97, 103] (pSkip P [110, 117, 109] s).2
      split
      · rename_i h; left; have h1 := pSkip_true h; have h2 := pRuleLine_mono P (pSkip P [114, 117, 108, 101] (pSkip P [102, 108, 97, 103] (pSkip P [110, 117, 109] s).2).2).2; omega
      · have m2 := pSkip_mono P [114, 117, 108, 101] (pSkip P [102, 108, 97, 103] (pSkip P [110, 117, 109] s).2).2
        generalize (pSkip P [114, 117, 108, 101] (pSkip P [102, 108, 97, 103] (pSkip P [110, 117, 109] s).2).2).2 = s3 at *
        have m3 := pOverLine_mono P (pWant P [111, 118, 101, 114] s3)
        cases hb : skipB P [111, 118, 101, 114] s3.1 s3.2
        · right
          have hf : (pWant P [111, 118, 101, 114] s3).2 = true := by simp [pWant, hb]
          exact failed_want (failed_name (failed_name hf))
        · left
          have : (pWant P [111, 118, 101, 114] s3).1 = s3.1 + 1 := by simp [pWant, hb, adv]
          omega

theorem pLine_mono (P : List PT) (s : St) : s.1 ≤ (pLine P s).2.1 := by
  unfold pLine
  have m0 := pSkip_mono P [110, 117, 109] s
  split
  · exact Nat.le_trans m0 (pNumLine_mono P _)
  · have m1 := pSkip_mono P [102, 108, 97, 103] (pSkip P [110, 117, 109] s).2
    split
    · exact Nat.le_trans m0 (Nat.le_trans m1 (pFlagLine_mono P _))
    · have m2 := pSkip_mono P [114, 117, 108, 101] (pSkip P [102, 108, 97, 103] (pSkip P [110, 117, 109] s).2).2
      split
      · exact Nat.le_trans m0 (Nat.le_trans m1 (Nat.le_trans m2 (pRuleLine_mono P _)))
      · exact Nat.le_trans m0 (Nat.le_trans m1 (Nat.le_trans m2 (Nat.le_trans (pWant_mono P _ _) (pOverLine_mono P _))))

/-- The lines, one behind the other. -/
def pLines (P : List PT) : Nat → St → List PLine → List PLine × St
  | 0, s, acc => (acc, s)
  | n + 1, s, acc =>
    match s.2 with
    | true => (acc, s)
    | false => if (cur P s.1).k = 0 then (acc, s) else pLines P n (pLine P s).2 (acc ++ [(pLine P s).1])

/-- How far the reader still has to go. -/
def togo (P : List PT) (s : St) : Nat := 2 * (P.length - s.1) + (match s.2 with | true => 0 | false => 1)

theorem togo_line {P : List PT} {s : St} (h : s.2 = false) (ha : s.1 < P.length) : togo P (pLine P s).2 < togo P s := by
  have h1 := pLine_adv P s
  have h2 := pLine_mono P s
  unfold togo
  rw [h]
  rcases h1 with h1 | h1
  · split <;> omega
  · rw [h1]; simp only; omega

end Go.Proofs.YtnbpdffdnphbeaaGreatDoor

/- What Read of the program's book gives of a text: its lines, or the error and its place. -/
namespace Go.Proofs.YtnbpdffdnphbeaaGreatDoor
open Go.RowKit

abbrev LX := PLine × (Value × Value)
def lineC (x : LX) : List Value := [.int .i64 x.1.kind, .string ⟨x.1.name.toArray⟩, .int .i64 x.1.low, .int .i64 x.1.high, .string ⟨x.1.conc.toArray⟩, x.2.1, x.2.2, .int .i64 x.1.root, .int .i64 x.1.tests, .int .i64 x.1.dep, .string ⟨x.1.lower.toArray⟩]
def flatL (ls : List LX) : List Value := ls.flatMap lineC
theorem flatL_snoc (ls : List LX) (x : LX) : flatL (ls ++ [x]) = flatL ls ++ lineC x := by simp [flatL]

def AllRows (w : World) (B : Nat) (ls : List LX) : Prop := ∀ x ∈ ls, LineRows w B x.2.1 x.2.2 x.1

/-- Lines lie in memory. -/
def LinesM (w : World) (B : Nat) (v : Value) (ls : List LX) : Prop := w.ownsRow B 234 11 v ls.length (flatL ls) ∧ AllRows w B ls

theorem infoLine : (Tryz.prog.info? 234).map (fun i => (i.zero, i.size, i.bytes)) = some (some (.agg #[.int .i64 0, .string ⟨#[]⟩, .int .i64 0, .int .i64 0, .string ⟨#[]⟩, .slice none 0 0, .slice none 0 0, .int .i64 0, .int .i64 0, .int .i64 0, .string ⟨#[]⟩]), 11, 144) := by kernel_rfl

theorem AllRows.keeps {w w' : World} {B R : Nat} {ls : List LX} (h : AllRows w B ls) (hk : Keeps w.heap.size R w w') (hR : R < B) : AllRows w' B ls :=
  fun x hx => ⟨owns_keeps (h x hx).1 hk hR, owns_keeps (h x hx).2 hk hR⟩
theorem AllRows.alloc {w : World} {B : Nat} {ls : List LX} (h : AllRows w B ls) (o : Obj) : AllRows (w.alloc o) B ls :=
  fun x hx => ⟨(h x hx).1.alloc _, (h x hx).2.alloc _⟩

/-- A row of another type than the one that was appended to. -/
theorem owns_other {w w' : World} {B B' : Nat} {e e' : TypeId} {size size' : Nat} {v v' : Value} {n n' : Nat} {xs xs' : List Value} (h : w.ownsRow B e size v n xs) (hl : w.ownsRow B' e' size' v' n' xs') (hne : e ≠ e') (hg : w.grownBy w' v'.ownBlock) : w'.ownsRow B e size v n xs := by
  refine ⟨h.1, ?_⟩
  rcases h.2 with h1 | ⟨g, cap, cur, h1, h2, h3, r⟩
  · exact .inl h1
  · refine .inr ⟨g, cap, cur, h1, h2, ?_, r⟩
    have hlt : g < w.heap.size := by
      rcases Nat.lt_or_ge g w.heap.size with h | h
      · exact h
      · rw [Array.getElem?_eq_none h] at h3; cases h3
    rw [hg.block g hlt ?_]; · exact h3
    intro hE
    rcases hl.2 with ⟨k1, _⟩ | ⟨g', cap', cur', k1, _, k3, _⟩
    · rw [k1] at hE; simp [Value.ownBlock] at hE
    · rw [k1] at hE
      simp [Value.ownBlock] at hE
      subst hE
      rw [h3] at k3
      simp at k3
      exact hne k3.2

theorem AllRows.grown {w w' : World} {B B' : Nat} {ls : List LX} {size' : Nat} {v' : Value} {n' : Nat} {xs' : List Value} (h : AllRows w B ls) (hl : w.ownsRow B' 234 size' v' n' xs') (hg : w.grownBy w' v'.ownBlock) : AllRows w' B ls :=
  fun x hx => ⟨owns_other (h x hx).1 hl (by decide) hg, owns_other (h x hx).2 hl (by decide) hg⟩

/-- The tokens of a text as the program has them, and the one behind them. -/
def toP (l : Bs) : List PT := (toksAt l 0).map (fun t => ⟨pkind t.2, t.2, pval t.2, t.1⟩) ++ [⟨0, [], 0, l.length⟩]

theorem toP_len (l : Bs) : (toP l).length = (toksAt l 0).length + 1 := by simp [toP]

theorem toP_endk (l : Bs) : ∀ i, i < (toP l).length → (cur (toP l) i).k ≠ 0 → i + 1 < (toP l).length := by
  intro i hi hk
  rw [toP_len] at hi ⊢
  rcases Nat.lt_or_ge i (toksAt l 0).length with h | h
  · omega
  · exfalso
    have e : i = (toksAt l 0).length := by omega
    apply hk
    unfold cur toP
    subst e
    simp [List.getD]

def flatPT (ps : List PT) : List Value := ps.flatMap (fun x => [.int .i64 x.k, .string ⟨x.s.toArray⟩, .int .i64 x.v, .int .i64 x.p])

theorem flatP_toP (l : Bs) : flatP (toksAt l 0) ++ endTok l.length = flatPT (toP l) := by
  simp only [flatP, flatPT, toP, List.flatMap_append, List.flatMap_map]
  rfl

theorem flatPT_get (ps : List PT) : ∀ i, i < ps.length →
    (flatPT ps)[i * 4]? = some (.int .i64 (cur ps i).k) ∧ (flatPT ps)[i * 4 + 1]? = some (.string ⟨(cur ps i).s.toArray⟩) ∧ (flatPT ps)[i * 4 + 2]? = some (.int .i64 (cur ps i).v) ∧ (flatPT ps)[i * 4 + 3]? = some (.int .i64 (cur ps i).p) := by
  induction ps with
  | nil => intro i h; simp at h
  | cons t r ih =>
    intro i h
    have e : flatPT (t :: r) = [.int .i64 t.k, .string ⟨t.s.toArray⟩, .int .i64 t.v, .int .i64 t.p] ++ flatPT r := by simp [flatPT]
    cases i with
    | zero => rw [e]; simp [cur]
    | succ i =>
      have hi := ih i (by simpa using h)
      have hc : cur (t :: r) (i + 1) = cur r i := by simp [cur]
      rw [e, hc]
      refine ⟨?_, ?_, ?_, ?_⟩
      · rw [List.getElem?_append_right (by simp; omega), show (i + 1) * 4 - [Value.int .i64 t.k, .string ⟨t.s.toArray⟩, .int .i64 t.v, .int .i64 t.p].length = i * 4 by simp; omega]; exact hi.1
      · rw [List.getElem?_append_right (by simp; omega), show (i + 1) * 4 + 1 - [Value.int .i64 t.k, .string ⟨t.s.toArray⟩, .int .i64 t.v, .int .i64 t.p].length = i * 4 + 1 by simp; omega]; exact hi.2.1
      · rw [List.getElem?_append_right (by simp; omega), show (i + 1) * 4 + 2 - [Value.int .i64 t.k, .string ⟨t.s.toArray⟩, .int .i64 t.v, .int .i64 t.p].length = i * 4 + 2 by simp; omega]; exact hi.2.2.1
      · rw [List.getElem?_append_right (by simp; omega), show (i + 1) * 4 + 3 - [Value.int .i64 t.k, .string ⟨t.s.toArray⟩, .int .i64 t.v, .int .i64 t.p].length = i * 4 + 3 by simp; omega]; exact hi.2.2.2

theorem cell_take2 {w : World} {g : Nat} {cur : Array Value} {e : TypeId} {fz : Nat × Nat} {k n : Nat} {xs : List Value} {u : Value}
    (hb : w.heap[g]? = some (.cells cur e fz)) (ht : cur.toList.take n = xs) (hx : xs[k]? = some u) : w.cell? ⟨g, k, none⟩ = some u := by
  have h1 : cur.toList[k]? = some u := by
    rw [← ht, List.getElem?_take] at hx
    split at hx
    · exact hx
    · cases hx
  simp [World.cell?, hb]
  simpa using h1

/-- The row of tokens that Read gave: its value, and where it lies. -/
theorem owns_toks {w : World} {base : Nat} {v : Value} {ps : List PT} (h : w.ownsRow base 237 4 v ps.length (flatPT ps)) (h0 : 0 < ps.length) :
    ∃ g cap, v = .slice (some ⟨g, 0, none⟩) ps.length cap ∧ base ≤ g ∧ g < w.heap.size ∧ ps.length ≤ cap ∧ cap ≤ maxLen ∧ TokM w g ps := by
  rcases h.2 with ⟨_, h2⟩ | ⟨g, cap, c, h1, h2, h3, h4, h5, h6, h7⟩
  · omega
  · refine ⟨g, cap, h1, h2, ?_, h4, h5, fun i hi => ?_⟩
    · rcases Nat.lt_or_ge g w.heap.size with h | h
      · exact h
      · rw [Array.getElem?_eq_none h] at h3; cases h3
    · obtain ⟨a, b, c', d⟩ := flatPT_get ps i hi
      exact ⟨cell_take2 h3 h7 a, cell_take2 h3 h7 b, cell_take2 h3 h7 c', cell_take2 h3 h7 d⟩

end Go.Proofs.YtnbpdffdnphbeaaGreatDoor

/- What Read of the program's book gives of a text: its lines, or the error and its place. -/
namespace Go.Proofs.YtnbpdffdnphbeaaGreatDoor
open Go.RowKit

def readV (lv : Value) (err place : Int) : Value := .agg #[lv, .int .i64 err, .int .i64 place]

/-- The lines of a text, and where the reader stands behind them. -/
def readB (l : Bs) : List PLine × St := pLines (toP l) (2 * (toP l).length + 1) (0, false) []

/-- What Read gives, by the reader's last state. -/
def ReadIs (w w' : World) (l : Bs) (e : Ending) : Prop :=
  match (readB l).2.2 with
  | true => e = .returned (readV (.slice none 0 0) 2 (cur (toP l) (readB l).2.1).p)
  | false => ∃ lv ls, e = .returned (readV lv 0 0) ∧ ls.map Prod.fst = (readB l).1 ∧ LinesM w' w.heap.size lv ls

def readMeas (P : List PT) (R : Nat) (w : World) : Nat := 2 * (P.length - rdAt w R) + (match w.cell? ⟨R, 2, none⟩ with | some (.bool true) => 0 | _ => 1)
theorem Ctx.readMeas {w : World} {R g cap : Nat} {P : List PT} {s : St} (h : CtxS w R g cap P s) : readMeas P R w = togo P s := by
  unfold Go.Proofs.YtnbpdffdnphbeaaGreatDoor.readMeas togo
  rw [Ctx.rdAt h, h.cells.2.2]
  cases s.2 <;> rfl

theorem AllRows.base {w : World} {B B' : Nat} {ls : List LX} (h : AllRows w B ls) (hb : B' ≤ B) : AllRows w B' ls := fun x hx => ⟨owns_base2 (h x hx).1 hb, owns_base2 (h x hx).2 hb⟩
theorem AllRows.set {w : World} {B : Nat} {ls : List LX} {b o : Nat} {u : Value} (h : AllRows w B ls) (hb : b < B) : AllRows (w.setCell ⟨b, o, none⟩ u) B ls := fun x hx => ⟨owns_set (h x hx).1 hb, owns_set (h x hx).2 hb⟩
theorem LineRows.base {w : World} {B B' : Nat} {sv nv : Value} {x : PLine} (h : LineRows w B sv nv x) (hb : B' ≤ B) : LineRows w B' sv nv x := ⟨owns_base2 h.1 hb, owns_base2 h.2 hb⟩

set_option maxHeartbeats 1000000 in
theorem BookRead_long (l : Bs) (w : World) (hmax : l.length ≤ maxLen) (hl : 4000 < l.length) :
    Calls Tryz.prog 60 #[.string ⟨l.toArray⟩] w fun e w' => e = .returned (readV (.slice none 0 0) 1 0) ∧ Below w.heap.size w w' := by
  unfold maxLen at hmax
  go_enter Tryz.func60, Tryz.ntmps60
  go_wp2_with fail
  refine bodyPost_ret (v := readV (.slice none 0 0) 1 0) (by simp [results, Tryz.results60, go_sem, readV]) rfl ⟨rfl, ?_⟩
  exact (Below.refl _ _).alloc (Nat.le_refl _) _

theorem pLines_exit (P : List PT) (n : Nat) (s : St) (acc : List PLine) (h : s.2 = true ∨ (cur P s.1).k = 0) : pLines P n s acc = (acc, s) := by
  cases n with
  | zero => rfl
  | succ n =>
    rw [pLines]
    cases hs : s.2
    · rcases h with h | h
      · rw [hs] at h; cases h
      · simp only [h, if_true]
    · rfl

theorem Keeps.below {B B' R : Nat} {w w' : World} (h : Keeps B R w w') (h1 : B' ≤ B) (h2 : B' ≤ R) : Below B' w w' := ⟨h.os, h.tape, h.output, h.size, fun k hk => h.block k (by omega) (by omega)⟩

theorem Ctx.start {w : World} {g cap : Nat} {P : List PT} (htok : TokM w g P) (hg : g < w.heap.size) (h0 : 0 < P.length) (hc : P.length ≤ cap) (hm : cap ≤ maxLen) (h4 : P.length ≤ 4001) (he : ∀ i, i < P.length → (cur P i).k ≠ 0 → i + 1 < P.length) :
    CtxS (w.alloc (rdObj g cap P 0 false)) w.heap.size g cap P (0, false) := by
  refine ⟨hb_end _ _, ?_, by omega, by simp; omega, h0, hc, hm, h4, he⟩
  intro i hi
  have hb : ∀ o, (w.alloc (rdObj g cap P 0 false)).cell? ⟨g, o, none⟩ = w.cell? ⟨g, o, none⟩ := fun o => World.cell?_of_block (w := w) (Below.heap_alloc _ _ _ hg)
  rw [hb, hb, hb, hb]; exact htok i hi

set_option maxHeartbeats 2000000 in
theorem BookRead_any (l : Bs) (w : World) (hl : l.length ≤ 4000) :
    Calls Tryz.prog 60 #[.string ⟨l.toArray⟩] w fun e w' => ReadIs w w' l e ∧ Below w.heap.size w w' := by
  obtain ⟨i0, hi0, hz0, hz1, hz2⟩ := info_parts infoLine
  have HRead := hideP2 (fun w => Read_any l w hl)
  have hcount := toksAt_len l 0
  have HPl := hideP2 (toP_len l)
  have hP0 : 0 < (toP l).length := by rw [toP_len]; omega
  have hP1 : (toP l).length ≤ 4001 := by rw [toP_len]; omega
  have HEk := hideP2 (toP_endk l)
  have HFl := hideP2 (flatP_toP l)
  have HRB : Hid (readB l = pLines (toP l) (2 * (toP l).length + 1) (0, false) []) := rfl
  have HRI : Hid (∀ w' e, ReadIs w w' l e = (match (readB l).2.2 with | true => e = .returned (readV (.slice none 0 0) 2 (cur (toP l) (readB l).2.1).p) | false => ∃ lv ls, e = .returned (readV lv 0 0) ∧ ls.map Prod.fst = (readB l).1 ∧ LinesM w' w.heap.size lv ls)) := fun _ _ => rfl
  generalize readB l = F at *
  have HCt := hideP2 hcount
  generalize hPP : toP l = P at *
  have HPP := hideP2 hPP
  clear hcount hPP
  have hl2 : ¬ (4000 : Int) < (l.length : Int) := by omega
  have HI0 := hideP2 hi0; have HZ0 := hideP2 hz0; have HZ1 := hideP2 hz1; have HZ2 := hideP2 hz2
  have HP0 := hideP2 hP0; have HP1 := hideP2 hP1
  clear hi0 hz0 hz1 hz2 hl hP0 hP1
  go_enter Tryz.func60, Tryz.ntmps60
  go_wp2_with fail
  refine (HRead.out _).mono ?_
  rintro e w1 ⟨tv, rfl, hown1, hbel1⟩
  rw [HFl.out, show (toksAt l 0).length + 1 = P.length from HPl.out.symm] at hown1
  obtain ⟨g, cap, rfl, hg0, hg1, hcap, hcm, htok⟩ := owns_toks hown1 HP0.out
  have hs1 := hbel1.size
  have b1 : w1.heap[w.heap.size]? = some (.cells #[.slice none 0 0, .int .i64 0, .int .i64 0] 151 (0, 0)) := by
    rw [hbel1.block w.heap.size (by simp)]; exact hb_end _ _
  have HB1 : Hid (Below w.heap.size w w1) := ((Below.refl _ _).alloc (Nat.le_refl _) _).trans (hbel1.mono (by simp))
  have HTok := hideP2 htok
  have hsz1 : w.heap.size < w1.heap.size := by simp at hs1; omega
  clear hown1 hbel1 hs1 htok HRead HFl HPl
  obtain ⟨R, hR⟩ : ∃ R, w1.heap.size = R := ⟨_, rfl⟩
  have hc0 : CtxS ((w1.alloc (rdObj g cap P 0 false)).alloc (.cells #[] 234)) R g cap P (0, false) := by
    rw [← hR]; exact Ctx.alloc (Ctx.start HTok.out hg1 HP0.out hcap hcm HP1.out HEk.out) _
  have hrow0 : ((w1.alloc (rdObj g cap P 0 false)).alloc (.cells #[] 234)).ownsRow (R + 1) 234 11 (.slice (some ⟨R + 1, 0, none⟩) 0 0) 0 (flatL []) :=
    ⟨rfl, .inr ⟨R + 1, 0, #[], rfl, Nat.le_refl _, by
      have h1 := hb_end (w1.alloc (rdObj g cap P 0 false)) (.cells #[] 234)
      rw [show (w1.alloc (rdObj g cap P 0 false)).heap.size = R + 1 by simp; exact hR] at h1; exact h1, Nat.le_refl _, by simp [maxLen], rfl, rfl⟩⟩
  have hbel0 : Below R w1 ((w1.alloc (rdObj g cap P 0 false)).alloc (.cells #[] 234)) := ((Below.refl _ _).alloc (Nat.le_of_eq hR.symm) _).alloc (by simp; omega) _
  have HC0 := hideP2 hc0
  have HO0 := hideP2 hrow0
  have HBe0 := hideP2 hbel0
  have HRs := hideP2 hR
  have hgR : g < R := by omega
  have hwR : w.heap.size < R := by omega
  clear hc0 hrow0 hbel0 HTok
  go_wp2_with fail
  clear hR hg1 hsz1
  go_loopw [4] (fun lv wr => ∃ (n : Nat) (s : St) (ls : List LX), wr.ownsRow (R + 1) 234 11 lv ls.length (flatL ls) ∧ Hid (CtxS wr R g cap P s) ∧ Hid (AllRows wr (R + 1) ls) ∧ Hid (Below R w1 wr) ∧ Hid (ls.length + togo P s ≤ 2 * P.length + 1 ∧ togo P s ≤ n ∧ pLines P n s (ls.map Prod.fst) = F)) (fun _ wr => readMeas P R wr)
  case atStart => exact ⟨2 * P.length + 1, (0, false), [], HO0.out, HC0, hideP2 (fun x hx => by cases hx), HBe0, hideP2 ⟨by show 0 + (2 * (P.length - 0) + 1) ≤ _; omega, by show 2 * (P.length - 0) + 1 ≤ _; omega, HRB.out.symm⟩⟩
  case round =>
    obtain ⟨n, s, ls, hown, HC, HA, HBe, HH⟩ := hrel
    clear HC0 HO0 HBe0 HRB
    obtain ⟨c0, c1, c2⟩ := HC.out.cells
    have hat := HC.out.at'
    cases hf : s.2
    · rw [hf] at c2
      by_cases hk : (cur P s.1).k = 0
      · have hE : F = (ls.map Prod.fst, s) := by rw [← HH.out.2.2]; exact pLines_exit P n s _ (.inr hk)
        have HE := hideP2 hE
        have HS2 := hideP2 hf
        have HF2 : Hid (F.2.2 = false) := by unfold Hid; rw [hE]; exact hf
        have HK := hideP2 hk
        have bz : wr.heap[w.heap.size]? = some (.cells #[.slice none 0 0, .int .i64 0, .int .i64 0] 151 (0, 0)) := by rw [HBe.out.block w.heap.size hwR]; exact b1
        have cz := fun j => cell_of_row _ _ j _ _ _ bz
        have fz : ∀ o, wr.frozen? ⟨w.heap.size, o, none⟩ = false := fun o => by simp [World.frozen?, bz]
        have HFin : Hid (Below w.heap.size w wr) := HB1.out.trans (HBe.out.mono (Nat.le_of_lt hwR))
        clear hE hf hk HH b1
        go_wp2_with fail
        refine (next_s R g cap P _ s 0 HC.out).mono ?_
        rintro e w2 ⟨rfl, hc2, hk2⟩
        rw [show ((cur P s.1).k == 0) = true by rw [HK.out]; rfl]
        have hown2 := owns_keeps hown hk2 (Nat.lt_succ_self R)
        have HA2 := hideP2 (HA.out.keeps hk2 (Nat.lt_succ_self R))
        have hlt := hk2.size
        have b2 : w2.heap[w.heap.size]? = some (.cells #[.slice none 0 0, .int .i64 0, .int .i64 0] 151 (0, 0)) := hb_keeps bz hk2 (by omega)
        have cz2 := fun j => cell_of_row _ _ j _ _ _ b2
        have fz2 : ∀ o, w2.frozen? ⟨w.heap.size, o, none⟩ = false := fun o => by simp [World.frozen?, b2]
        have HB2 : Hid (Below w.heap.size w w2) := HFin.out.trans (hk2.below (Nat.le_trans (Nat.le_of_lt hwR) (Nat.le_of_lt HC.out.rlt)) (Nat.le_of_lt hwR))
        have d2 : w2.cell? ⟨R, 2, none⟩ = some (.bool false) := by have h9 := hc2.cells.2.2; rw [HS2.out] at h9; exact h9
        have HC2 := hideP2 hc2
        obtain ⟨la, ln, lc, rfl⟩ := own_slice hown2
        have HO2 := hideP2 hown2
        clear hown hown2 hc2 hk2 HC HA HBe c0 c1 c2 cz fz bz
        go_wp2_with fail
        refine bodyPost_ret (v := readV (.slice la ln lc) 0 0) (by simp (maxDischargeDepth := 8) [results, Tryz.results60, go_sem, readV, cz2]) rfl ⟨?_, ((HB2.out.setCell (Nat.le_refl _) _).setCell (Nat.le_refl _) _).setCell (Nat.le_refl _) _⟩
        rw [HRI.out, HF2.out]
        refine ⟨_, ls, rfl, by rw [HE.out], owns_base2 (b := R + 1) ?_ (by omega), AllRows.base (B := R + 1) ?_ (by omega)⟩
        · repeat (with_reducible refine owns_set ?_ (by omega))
          exact HO2.out
        · repeat (with_reducible refine AllRows.set ?_ (by omega))
          exact HA2.out
      · obtain ⟨hh1, hh2, hh3⟩ := HH.out
        obtain ⟨n, rfl⟩ : ∃ k, n = k + 1 := by
          refine ⟨n - 1, ?_⟩
          have h9 : 1 ≤ togo P s := by unfold togo; rw [hf]; simp only; omega
          omega
        rw [pLines, hf] at hh3
        simp only [if_neg hk] at hh3
        have htg := togo_line hf hat
        have HM : Hid (readMeas P R wr = togo P s) := Ctx.readMeas HC.out
        have HK : Hid (((cur P s.1).k == 0) = false) := by unfold Hid; simpa using hk
        have HE := hideP2 hh3
        have hls : ls.length ≤ 10000 := by have h9 := HP1.out; omega
        have HL1 := hideP2 hh1
        have HN1 := hideP2 hh2
        have HRl := HC.out.rlt
        clear hh1 hh2 hh3 HH hk hf
        go_wp2_with fail
        refine (next_s R g cap P _ s 0 HC.out).mono ?_
        rintro e w2 ⟨rfl, hc2, hk2⟩
        rw [HK.out]
        have hown2 := owns_keeps hown hk2 (Nat.lt_succ_self R)
        have HA2 := hideP2 (HA.out.keeps hk2 (Nat.lt_succ_self R))
        have HBe2 : Hid (Below R w1 w2) := HBe.out.trans (hk2.below (Nat.le_of_lt HRl) (Nat.le_refl R))
        have HC2 := hideP2 hc2
        have HR2 := hc2.rlt
        clear hown hc2 hk2 HA HBe c0 c1 c2 HC HK
        go_wp2_with fail
        refine (line_s w2 R g cap P s HC2.out).mono ?_
        rintro e w3 ⟨sv, nv, rfl, hlr, hc3, hk3⟩
        have hown3 := owns_keeps hown2 hk3 (Nat.lt_succ_self R)
        have HA3 := hideP2 (HA2.out.keeps hk3 (Nat.lt_succ_self R))
        have HBe3 : Hid (Below R w1 w3) := HBe2.out.trans (hk3.below (Nat.le_of_lt HR2) (Nat.le_refl R))
        have HLR : Hid (LineRows w3 (R + 1) sv nv (pLine P s).1) := hlr.base HR2
        have HC3 := hideP2 hc3
        have HR3 := hc3.rlt
        obtain ⟨sva, svn, svc, rfl⟩ := own_slice hlr.1
        obtain ⟨nva, nvn, nvc, rfl⟩ := own_slice hlr.2
        have HOB := hideP2 (own_block_lt hown3)
        generalize pLine P s = pl at *
        obtain ⟨x, s2⟩ := pl
        simp only at HC3 HLR HE htg
        have hx : lineC (x, (Value.slice sva svn svc, Value.slice nva nvn nvc)) = [.int .i64 x.kind, .string ⟨x.name.toArray⟩, .int .i64 x.low, .int .i64 x.high, .string ⟨x.conc.toArray⟩, .slice sva svn svc, .slice nva nvn nvc, .int .i64 x.root, .int .i64 x.tests, .int .i64 x.dep, .string ⟨x.lower.toArray⟩] := rfl
        have HX := hideP2 hx
        clear hown2 hc3 hk3 hlr HA2 HBe2 HC2 hx
        unfold lineV
        have hi0 := HI0.out; have hz0 := HZ0.out; have hz1 := HZ1.out; have hz2 := HZ2.out
        go_wp2_with (at_builtin; refine wpList_append_own _ rfl _ _ 149 rfl (R + 1) 234 i0 _ 11 144 Tryz.underlying149 hi0 hz0 hz1 hz2 rfl (by decide) _ _ _ rfl ((hown3.alloc _).alloc _) ⟨w3.heap.size + 1, 0, none⟩ 1 1 (lineC (x, (Value.slice sva svn svc, Value.slice nva nvn nvc))) rfl rfl ?c1 ?c2 ?c3 ?c4 ?c5 ?_)
        case c1 => rw [HX.out]; exact news_cellsH _ _ _ _ rfl (by simp)
        case c2 => rw [HX.out]; intro u hu; simp at hu; rcases hu with rfl | rfl | rfl | rfl | rfl | rfl | rfl | rfl | rfl | rfl | rfl <;> rfl
        case c3 => unfold maxLen; omega
        case c4 => omega
        case c5 => simp; omega
        intro v' w4 hown4 hgrow _
        have hc4 : CtxS w4 R g cap P s2 := Ctx.grown (Ctx.alloc (Ctx.alloc HC3.out _) _) hgrow
          (fun e => by have h1 := (HOB.out R e).1; omega) (fun e => by have h1 := (HOB.out g e).1; omega)
        have ha4 : AllRows w4 (R + 1) (ls ++ [(x, (Value.slice sva svn svc, Value.slice nva nvn nvc))]) := by
          refine AllRows.grown (B' := R + 1) (fun y hy => ?_) ((hown3.alloc _).alloc _) hgrow
          rcases List.mem_append.1 hy with hy | hy
          · exact ((HA3.out.alloc _).alloc _) y hy
          · rw [List.mem_singleton.1 hy]
            exact ⟨(HLR.out.1.alloc _).alloc _, (HLR.out.2.alloc _).alloc _⟩
        have HBe4 : Hid (Below R w1 w4) := ((HBe3.out.alloc (by omega) _).alloc (by simp; omega) _).grown hgrow (by simp; omega) (fun k hk => by have h1 := (HOB.out k hk).1; omega)
        have HC4 := hideP2 hc4
        have HA4 := hideP2 ha4
        have hown4' : w4.ownsRow (R + 1) 234 11 v' (ls ++ [(x, (Value.slice sva svn svc, Value.slice nva nvn nvc))]).length (flatL (ls ++ [(x, (Value.slice sva svn svc, Value.slice nva nvn nvc))])) := by rw [flatL_snoc, List.length_append]; exact hown4
        have HT4 : Hid (readMeas P R w4 = togo P s2) := Ctx.readMeas hc4
        clear hown3 hown4 hgrow HOB hc4 ha4 HC3 HA3 HBe3 HLR hi0 hz0 hz1 hz2
        go_wp2_with fail
        go_roundw
        case rel => exact ⟨n, s2, _, hown4', HC4, HA4, HBe4, hideP2 ⟨by have h1 := HL1.out; rw [List.length_append, List.length_singleton]; omega, by have h1 := HN1.out; omega, by rw [List.map_append]; exact HE.out⟩⟩
        case measure => rw [HM.out, HT4.out]; exact htg
    · have hE : F = (ls.map Prod.fst, s) := by rw [← HH.out.2.2]; exact pLines_exit P n s _ (.inl hf)
      have HE := hideP2 hE
      have HF2 : Hid (F.2.2 = true) := by unfold Hid; rw [hE]; exact hf
      have HF1 : Hid (F.2.1 = s.1) := by unfold Hid; rw [hE]
      rw [hf] at c2
      have bz : wr.heap[w.heap.size]? = some (.cells #[.slice none 0 0, .int .i64 0, .int .i64 0] 151 (0, 0)) := by rw [HBe.out.block w.heap.size hwR]; exact b1
      have cz := fun j => cell_of_row _ _ j _ _ _ bz
      have fz : ∀ o, wr.frozen? ⟨w.heap.size, o, none⟩ = false := fun o => by simp [World.frozen?, bz]
      have HFin : Hid (Below w.heap.size w wr) := HB1.out.trans (HBe.out.mono (Nat.le_of_lt hwR))
      obtain ⟨_, _, _, t3⟩ := HC.out.tok s.1 hat
      have i1 : (0 : Int) ≤ (s.1 : Int) := by omega
      have i2 : (s.1 : Int) < (P.length : Int) := by omega
      generalize hcu : (cur P s.1).p = pp at *
      have HCu := hideP2 hcu
      clear hE hf HH b1 hcu hown HA HBe
      go_wp2_with fail
      refine bodyPost_ret (v := readV (.slice none 0 0) 2 pp) (by simp (maxDischargeDepth := 8) [results, Tryz.results60, go_sem, readV, cz]) rfl ⟨?_, ((HFin.out.setCell (Nat.le_refl _) _).setCell (Nat.le_refl _) _).setCell (Nat.le_refl _) _⟩
      rw [HRI.out, HF2.out, HF1.out, HCu.out]
end Go.Proofs.YtnbpdffdnphbeaaGreatDoor
