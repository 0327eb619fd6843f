/- Plain: what is read of a text that was written word by word. -/
import Derived.Test.YtnbpdffdnphbeaaGreatDoorMono
import Derived.Test.YtnbpdffdnphbeaaGreatDoorPure5
namespace Go.Proofs.YtnbpdffdnphbeaaGreatDoor

/-- A line's tokens behind the first, as they are written: a blank ahead of each but ';'. -/
def wrL : List Bs → Bs
  | [] => [10]
  | w :: r => (if w = [59] then w else 32 :: w) ++ wrL r
def wrLine : List Bs → Bs
  | [] => [10]
  | w :: r => w ++ wrL r
/-- Lines, as Tidy writes them. -/
def wrB (L : List (List Bs)) : Bs := L.flatMap wrLine

def sepB (c : UInt8) : Bool := c == 32 || c == 59 || c == 10
/-- A word that ends where a blank, an end of line or ';' follows. -/
def Wd (w : Bs) : Prop := w ≠ [] ∧ so (w.getD 0 0) ≠ 3 ∧ ∀ c r, sepB c = true → lenB (w ++ c :: r) = w.length

theorem sep_cases {c : UInt8} (h : sepB c = true) : c = 32 ∨ c = 59 ∨ c = 10 := by
  unfold sepB at h; simp only [Bool.or_eq_true, beq_iff_eq] at h; rcases h with (h | h) | h
  · exact .inl h
  · exact .inr (.inl h)
  · exact .inr (.inr h)
theorem runL_app (k : Int) (l : Bs) (c : UInt8) (r : Bs) (h : ∀ x ∈ l, so x = k) (hc : so c ≠ k) : runL k (l ++ c :: r) = l.length := by
  induction l with
  | nil => simp [runL, hc]
  | cons x l ih => rw [List.cons_append, runL, if_pos (h x (by simp)), ih (fun y hy => h y (by simp [hy])), List.length_cons]
theorem wd_run {w : Bs} (k : Int) (hk : k = 1 ∨ k = 2) (h0 : w ≠ []) (h : ∀ x ∈ w, so x = k) : Wd w := by
  obtain ⟨x, l, rfl⟩ : ∃ x l, w = x :: l := by
    cases w with
    | nil => exact absurd rfl h0
    | cons x l => exact ⟨x, l, rfl⟩
  have hx : so x = k := h x (by simp)
  refine ⟨h0, ?_, fun c r hc => ?_⟩
  · show so x ≠ 3
    rw [hx]; rcases hk with rfl | rfl <;> decide
  · have hs : so c ≠ k := by rcases hk with rfl | rfl <;> rcases sep_cases hc with rfl | rfl | rfl <;> decide
    show lenB (x :: (l ++ c :: r)) = _
    unfold lenB
    rw [show (x :: (l ++ c :: r)).getD 0 0 = x from rfl, hx, if_neg (by rcases hk with rfl | rfl <;> decide)]
    rw [show (x :: (l ++ c :: r)).drop 1 = l ++ c :: r from rfl, runL_app k l c r (fun y hy => h y (by simp [hy])) hs, List.length_cons, Nat.add_comm]
theorem twoB_two (m c : UInt8) (r : Bs) : twoB (m :: c :: r) = amongB twoMarks [m, c] := by
  unfold twoB
  rw [show (m :: c :: r).take 2 = [m, c] from rfl, decide_eq_true (by simp), Bool.true_and]
theorem wd_mark {m : UInt8} (h : so m = 0) (h1 : amongB twoMarks [m, 32] = false) (h2 : amongB twoMarks [m, 59] = false) (h3 : amongB twoMarks [m, 10] = false) : Wd [m] := by
  refine ⟨by simp, ?_, fun c r hc => ?_⟩
  · show so m ≠ 3
    rw [h]; decide
  · show lenB (m :: c :: r) = 1
    unfold lenB
    rw [show (m :: c :: r).getD 0 0 = m from rfl, if_pos h, twoB_two]
    rcases sep_cases hc with rfl | rfl | rfl
    · rw [h1]; rfl
    · rw [h2]; rfl
    · rw [h3]; rfl
theorem wd_mark2 {m n : UInt8} (h : so m = 0) (h1 : amongB twoMarks [m, n] = true) : Wd [m, n] := by
  refine ⟨by simp, ?_, fun c r _ => ?_⟩
  · show so m ≠ 3
    rw [h]; decide
  · show lenB (m :: n :: c :: r) = 2
    unfold lenB
    rw [show (m :: n :: c :: r).getD 0 0 = m from rfl, if_pos h, twoB_two, h1]; rfl

/-- The tokens of a text, without their places. -/
def tw (l : Bs) : List Bs := (pieces l.length l 0).map Prod.snd
theorem pieces_snd (n : Nat) : ∀ (l : Bs) (p q : Nat), (pieces n l p).map Prod.snd = (pieces n l q).map Prod.snd := by
  induction n with
  | zero => intro l p q; rfl
  | succ n ih =>
    intro l p q
    simp only [pieces]
    split
    · rfl
    · split
      · exact ih _ _ _
      · simp only [List.map_cons]; rw [ih]
theorem tw_fuel {n : Nat} {l : Bs} (p : Nat) (h : l.length ≤ n) : (pieces n l p).map Prod.snd = tw l := by
  unfold tw; rw [pieces_fuel n l.length l p h (Nat.le_refl _)]; exact pieces_snd _ _ _ _
theorem tw_blank {c : UInt8} (r : Bs) (h : so c = 3) : tw (c :: r) = tw r := by
  unfold tw
  rw [show (c :: r).length = r.length + 1 from rfl, pieces, if_neg (by simp), if_pos (show so ((c :: r).getD 0 0) = 3 from h)]
  exact tw_fuel _ (Nat.le_refl _)
theorem tw_word {w : Bs} (hw : Wd w) {c : UInt8} (r : Bs) (hc : sepB c = true) : tw (w ++ c :: r) = w :: tw (c :: r) := by
  obtain ⟨h0, h3, hl⟩ := hw
  have hl := hl c r hc
  have hg : (w ++ c :: r).getD 0 0 = w.getD 0 0 := by
    cases w with
    | nil => exact absurd rfl h0
    | cons x l => rfl
  rw [show tw (w ++ c :: r) = (pieces (w ++ c :: r).length (w ++ c :: r) 0).map Prod.snd from rfl]
  rw [pieces_fuel _ ((w ++ c :: r).length + 1) _ _ (Nat.le_refl _) (by omega), pieces, if_neg (by simp), if_neg (by rw [hg]; exact h3), hl]
  rw [List.map_cons, List.take_left' rfl, List.drop_left' rfl, tw_fuel _ (by simp)]
theorem wrL_head (ws : List Bs) (rest : Bs) : ∃ c r, wrL ws ++ rest = c :: r ∧ sepB c = true := by
  cases ws with
  | nil => exact ⟨10, rest, rfl, rfl⟩
  | cons w r =>
    rw [wrL]
    by_cases h : w = [59]
    · rw [if_pos h, h]; exact ⟨59, _, rfl, rfl⟩
    · rw [if_neg h]; exact ⟨32, _, rfl, rfl⟩
theorem tw_wrL (ws : List Bs) : (∀ w ∈ ws, Wd w) → ∀ rest, tw (wrL ws ++ rest) = ws ++ tw rest := by
  induction ws with
  | nil => intro _ rest; exact tw_blank (c := 10) rest (by decide)
  | cons w r ih =>
    intro h rest
    obtain ⟨c, r', e, hc⟩ := wrL_head r rest
    have hw := h w (by simp)
    have hr := ih (fun x hx => h x (by simp [hx])) rest
    have h1 : tw (w ++ (wrL r ++ rest)) = w :: (r ++ tw rest) := by rw [e, tw_word hw r' hc, ← e, hr]
    rw [wrL]
    by_cases h0 : w = [59]
    · rw [if_pos h0, List.append_assoc]; exact h1
    · rw [if_neg h0, List.cons_append, List.cons_append, tw_blank _ (by decide), List.append_assoc]; exact h1
theorem tw_line {ws : List Bs} (h : ∀ w ∈ ws, Wd w) (rest : Bs) : tw (wrLine ws ++ rest) = ws ++ tw rest := by
  cases ws with
  | nil => exact tw_blank (c := 10) rest (by decide)
  | cons w r =>
    obtain ⟨c, r', e, hc⟩ := wrL_head r rest
    rw [wrLine, List.append_assoc, e, tw_word (h w (by simp)) r' hc, ← e, tw_wrL r (fun x hx => h x (by simp [hx]))]; rfl
theorem tw_wrB (L : List (List Bs)) : (∀ ws ∈ L, ∀ w ∈ ws, Wd w) → tw (wrB L) = L.flatten := by
  induction L with
  | nil => intro _; rfl
  | cons ws r ih =>
    intro h
    rw [wrB, List.flatMap_cons, tw_line (h ws (by simp)), List.flatten_cons]
    rw [show tw (List.flatMap wrLine r) = r.flatten from ih (fun x hx => h x (by simp [hx]))]

/-- A token of the program's row is this word. -/
def At (P : List PT) (a : Nat) (w : Bs) : Prop := (cur P a).k = pkind w ∧ (cur P a).s = w ∧ (cur P a).v = pval w
def AtL (P : List PT) : Nat → List Bs → Prop
  | _, [] => True
  | a, w :: r => At P a w ∧ AtL P (a + 1) r
theorem AtL.app {P : List PT} {us : List Bs} : ∀ {a : Nat} {ws : List Bs}, AtL P a (ws ++ us) → AtL P a ws ∧ AtL P (a + ws.length) us := by
  intro a ws
  induction ws generalizing a with
  | nil => intro h; exact ⟨trivial, h⟩
  | cons w r ih =>
    intro h
    obtain ⟨h1, h2⟩ := ih h.2
    exact ⟨⟨h.1, h1⟩, by rw [List.length_cons, show a + (r.length + 1) = a + 1 + r.length by omega]; exact h2⟩
theorem toks_snd (l : Bs) : (toksAt l 0).map Prod.snd = tw l := by
  unfold toksAt; rw [List.drop_zero]; exact tw_fuel 0 (Nat.le_refl _)
theorem cur_app (A B : List PT) (i : Nat) : cur (A ++ B) (A.length + i) = cur B i := by
  unfold cur; simp only [List.getD, List.getElem?_append]; rw [if_neg (by omega), Nat.add_sub_cancel_left]
theorem atl_map (f : Nat × Bs → PT) (hf : ∀ t, (f t).k = pkind t.2 ∧ (f t).s = t.2 ∧ (f t).v = pval t.2) (E : List PT) (ts : List (Nat × Bs)) : ∀ A : List PT, AtL (A ++ (ts.map f ++ E)) A.length (ts.map Prod.snd) := by
  induction ts with
  | nil => intro A; trivial
  | cons t r ih =>
    intro A
    refine ⟨?_, ?_⟩
    · have e : cur (A ++ (List.map f (t :: r) ++ E)) A.length = f t := cur_app A _ 0
      unfold At; rw [e]; exact hf t
    · have := ih (A ++ [f t])
      simpa using this
theorem toP_atl (l : Bs) : AtL (toP l) 0 (tw l) := by
  rw [← toks_snd]
  exact atl_map _ (fun t => ⟨rfl, rfl, rfl⟩) _ (toksAt l 0) []
theorem toP_k0 (l : Bs) : (cur (toP l) (tw l).length).k = 0 := by
  have e : (tw l).length = ((toksAt l 0).map (fun t => (⟨pkind t.2, t.2, pval t.2, t.1⟩ : PT))).length := by rw [← toks_snd, List.length_map, List.length_map]
  unfold toP
  rw [e]; exact congrArg PT.k (cur_app _ _ 0)
theorem toP_n (l : Bs) : (toP l).length = (tw l).length + 1 := by
  unfold toP; rw [List.length_append, List.length_map, ← toks_snd, List.length_map]; rfl

/- Steps of the reader. -/
theorem skip_y {P : List PT} {a : Nat} {t : Bs} (h : At P a t) (hk : pkind t = 4) : pSkip P t (a, false) = (true, (a + 1, false)) := by
  have e : skipB P t a false = true := by unfold skipB; rw [h.1, h.2.1, hk]; simp
  unfold pSkip; simp only [e, adv]
theorem skip_n {P : List PT} {a : Nat} {w : Bs} (h : At P a w) (t : Bs) (hn : pkind w = 4 → w ≠ t) : pSkip P t (a, false) = (false, (a, false)) := by
  have e : skipB P t a false = false := by
    unfold skipB; rw [h.1, h.2.1]
    by_cases hk : pkind w = 4
    · simp [hn hk]
    · simp [hk]
  unfold pSkip; simp only [e, adv]
theorem want_y {P : List PT} {a : Nat} {t : Bs} (h : At P a t) (hk : pkind t = 4) : pWant P t (a, false) = (a + 1, false) := by
  have e : skipB P t a false = true := by unfold skipB; rw [h.1, h.2.1, hk]; simp
  unfold pWant; simp only [e, adv, Bool.not_true]
theorem name_y {P : List PT} {a : Nat} {w : Bs} (h : At P a w) (hk : pkind w = 2) : pName P (a, false) = (w, (a + 1, false)) := by
  have e : takeB P 2 a false = true := by unfold takeB; rw [h.1, hk]; simp
  unfold pName; simp only [e, adv, tk, Bool.not_true, h.2.1]
theorem number_y {P : List PT} {a : Nat} {w : Bs} (h : At P a w) (hk : pkind w = 3) : pNumber P (a, false) = (pval w, (a + 1, false)) := by
  have e : takeB P 3 a false = true := by unfold takeB; rw [h.1, hk]; simp
  unfold pNumber; simp only [e, adv, tk, Bool.not_true, h.2.2]
theorem isNum_y {P : List PT} {a : Nat} {w : Bs} (h : At P a w) (hk : pkind w = 3) : isNum P (a, false) = true := by
  unfold isNum; rw [h.1, hk]; rfl
theorem isNum_n {P : List PT} {a : Nat} {w : Bs} (h : At P a w) (hk : pkind w ≠ 3) : isNum P (a, false) = false := by
  unfold isNum; rw [h.1]; simpa using hk
theorem part_name {P : List PT} {a : Nat} {w : Bs} (m : Bool) (h : At P a w) (hk : pkind w = 2) : pPart P m (a, false) = (⟨m, false, 0, w⟩, (a + 1, false)) := by
  unfold pPart; rw [isNum_n h (by rw [hk]; decide), name_y h hk]
theorem part_num {P : List PT} {a : Nat} {w v : Bs} (m : Bool) (h : At P a w) (hk : pkind w = 3) (h2 : At P (a + 1) v) (hv : pkind v = 4 → v ≠ [42]) : pPart P m (a, false) = (⟨m, false, pval w, []⟩, (a + 1, false)) := by
  unfold pPart; rw [isNum_y h hk, number_y h hk]; simp only [skip_n h2 [42] hv]
theorem part_star {P : List PT} {a : Nat} {w v : Bs} (m : Bool) (h : At P a w) (hk : pkind w = 3) (h2 : At P (a + 1) [42]) (h3 : At P (a + 1 + 1) v) (hv : pkind v = 2) : pPart P m (a, false) = (⟨m, true, pval w, v⟩, (a + 1 + 1 + 1, false)) := by
  unfold pPart; rw [isNum_y h hk, number_y h hk]; simp only [skip_y h2 (by decide), name_y h3 hv]
theorem sum_end {P : List PT} {n : Nat} {m : Bool} {s : St} {ps : List PPart} {x : PPart} {b : Nat} {v : Bs} (h : pPart P m s = (x, (b, false))) (h2 : At P b v) (hv : pkind v = 4 → v ≠ [45] ∧ v ≠ [43]) : pSumG P (n + 1) m s ps = (ps ++ [x], (b, false)) := by
  rw [pSumG, h]; simp only [skip_n h2 [45] (fun k => (hv k).1), skip_n h2 [43] (fun k => (hv k).2)]
theorem sum_minus {P : List PT} {n : Nat} {m : Bool} {s : St} {ps : List PPart} {x : PPart} {b : Nat} (h : pPart P m s = (x, (b, false))) (h2 : At P b [45]) : pSumG P (n + 1) m s ps = pSumG P n true (b + 1, false) (ps ++ [x]) := by
  rw [pSumG, h]; simp only [skip_y h2 (by decide)]
theorem sum_plus {P : List PT} {n : Nat} {m : Bool} {s : St} {ps : List PPart} {x : PPart} {b : Nat} (h : pPart P m s = (x, (b, false))) (h2 : At P b [43]) : pSumG P (n + 1) m s ps = pSumG P n false (b + 1, false) (ps ++ [x]) := by
  rw [pSumG, h]; simp only [skip_n h2 [45] (fun _ => by decide), skip_y h2 (by decide)]

def kAlwW : Bs := [97, 108, 119, 97, 121, 115]
def kHasW : Bs := [104, 97, 115]
theorem test_alw {P : List PT} {a : Nat} (h : At P a kAlwW) : pTest P (a, false) = (⟨4, 0, 0, [], [], [], 0⟩, (a + 1, false)) := by
  unfold pTest; simp only [show ([97, 108, 119, 97, 121, 115] : Bs) = kAlwW from rfl, skip_y h (by decide)]
theorem test_has {P : List PT} {a : Nat} {w : Bs} (h : At P a kHasW) (h2 : At P (a + 1) w) (hw : pkind w = 2) : pTest P (a, false) = (⟨5, 0, 0, w, [], [], 0⟩, (a + 1 + 1, false)) := by
  unfold pTest; simp only [show ([104, 97, 115] : Bs) = kHasW from rfl, skip_n h [97, 108, 119, 97, 121, 115] (fun _ => by decide), skip_y h (by decide), name_y h2 hw]

/-- The greatest depth, one test more. -/
def dp (a d : Int) : Int := if a < d then d else a
theorem factP_test {P : List PT} {n a b : Nat} {w : Bs} {x : PNode} (nd : List PNode) (t p d : Int) (h : At P a w) (h1 : pkind w = 4 → w ≠ kNot ∧ w ≠ kOpen) (ht : pTest P (a, false) = (x, (b, false))) : pFact P (n + 1) ⟨(a, false), nd, t, p⟩ d = (((nd.length : Nat) : Int), ⟨(b, false), nd ++ [x], t + 1, dp p d⟩) := by
  rw [pFact]; simp only [skip_n h kNot (fun k => (h1 k).1), skip_n h kOpen (fun k => (h1 k).2), ht, GS.tested, GS.to, GS.add, dp]
theorem factP_not {P : List PT} {n a : Nat} {i : Int} {q' : GS} (nd : List PNode) (t p d : Int) (h : At P a kNot) (hf : pFact P n ⟨(a + 1, false), nd, t, p⟩ (d + 1) = (i, q')) : pFact P (n + 1) ⟨(a, false), nd, t, p⟩ d = (((q'.nd.length : Nat) : Int), q'.add ⟨3, i, 0, [], [], [], 0⟩) := by
  rw [pFact]; simp only [skip_y h (by decide), GS.to, hf]
theorem loop_end {P : List PT} {item : GS → Int × GS} {tok : Bs} {kind : Int} {k : Nat} {left : Int} {b : Nat} {nd : List PNode} {t p : Int} {v : Bs} (h : At P b v) (hv : pkind v = 4 → v ≠ tok) : loopB P item tok kind (k + 1) left ⟨(b, false), nd, t, p⟩ = (left, ⟨(b, false), nd, t, p⟩) := by
  rw [loopB]; simp only [skip_n h tok hv, GS.to]
theorem loop_on {P : List PT} {item : GS → Int × GS} {tok : Bs} {kind : Int} {k : Nat} {left i : Int} {b : Nat} {nd : List PNode} {t p : Int} {q' : GS} (h : At P b tok) (hk : pkind tok = 4) (hi : item ⟨(b + 1, false), nd, t, p⟩ = (i, q')) : loopB P item tok kind (k + 1) left ⟨(b, false), nd, t, p⟩ = loopB P item tok kind k (q'.nd.length : Nat) (q'.add ⟨kind, left, i, [], [], [], 0⟩) := by
  rw [loopB]; simp only [skip_y h hk, GS.to, hi]
theorem terms_one {P : List PT} {fact : GS → Int → Int × GS} {q : GS} {d i : Int} {b : Nat} {nd : List PNode} {t p : Int} {v : Bs} (hP : 0 < P.length) (hf : fact q d = (i, ⟨(b, false), nd, t, p⟩)) (h : At P b v) (hv : pkind v = 4 → v ≠ kAnd) : termsW P fact q d = (i, ⟨(b, false), nd, t, p⟩) := by
  obtain ⟨k, hk⟩ : ∃ k, P.length = k + 1 := ⟨P.length - 1, by omega⟩
  unfold termsW; rw [hf, hk]; exact loop_end h hv
theorem alt_one {P : List PT} {fact : GS → Int → Int × GS} {q : GS} {d i : Int} {b : Nat} {nd : List PNode} {t p : Int} {v : Bs} (hP : 0 < P.length) (hf : termsW P fact q d = (i, ⟨(b, false), nd, t, p⟩)) (h : At P b v) (hv : pkind v = 4 → v ≠ kOr) : altW P fact q d = (i, ⟨(b, false), nd, t, p⟩) := by
  obtain ⟨k, hk⟩ : ∃ k, P.length = k + 1 := ⟨P.length - 1, by omega⟩
  unfold altW; rw [hf, hk]; exact loop_end h hv

/-- A sum is read of these words, 'when' behind them; a guard, ';' behind it; a line. -/
def SumR (ps : List PPart) (S : List Bs) : Prop := ∀ P a, AtL P a (S ++ [kWhen]) → a + S.length < P.length → pSum P (a, false) = (ps, (a + S.length, false))
def Reads (x : PLine) (ws : List Bs) : Prop := (∀ w r, ws = w :: r → pkind w ≠ 0) ∧ 0 < ws.length ∧ ∀ P a, AtL P a ws → a + ws.length < P.length → pLine P (a, false) = (x, (a + ws.length, false))

theorem reads_over {r c : Bs} (hr : pkind r = 2) (hc : pkind c = 2) : Reads ⟨4, r, 0, 0, [], [], [], 0, 0, 0, c⟩ [kOver, r, c, kEnd] := by
  refine ⟨fun w r h => by cases h; decide, by simp, fun P a h _ => ?_⟩
  obtain ⟨h0, h1, h2, h3, _⟩ := h
  unfold pLine
  simp only [skip_n h0 [110, 117, 109] (fun _ => by decide), skip_n h0 [102, 108, 97, 103] (fun _ => by decide), skip_n h0 [114, 117, 108, 101] (fun _ => by decide), show ([111, 118, 101, 114] : Bs) = kOver from rfl, want_y h0 (by decide)]
  unfold pOverLine
  simp only [name_y h1 hr, name_y h2 hc, show ([59] : Bs) = kEnd from rfl, want_y h3 (by decide)]
  rfl

end Go.Proofs.YtnbpdffdnphbeaaGreatDoor
