/- Plain facts: a guard's tests and depth by the document, and the names in a rule's tokens with what each must be. -/
import Derived.Test.YtnbpdffdnphbeaaGreatDoorForm
import Derived.Test.YtnbpdffdnphbeaaGreatDoorWnum
import Derived.Test.YtnbpdffdnphbeaaGreatDoorWsum
namespace Go.Proofs.YtnbpdffdnphbeaaGreatDoor

def wtJoin (a b : Int × Int) : Int × Int := (a.1 + b.1, if a.2 < b.2 then b.2 else a.2)
/-- How many tests are in a guard, and the greatest depth. -/
def weightG : Nat → Toks → Int × Int
  | 0, _ => (0, 0)
  | n + 1, ts =>
    if 0 ≤ outB ts kOr then wtJoin (weightG n (ts.take (outB ts kOr).toNat)) (weightG n (ts.drop ((outB ts kOr).toNat + 1)))
    else if 0 ≤ outB ts kAnd then wtJoin (weightG n (ts.take (outB ts kAnd).toNat)) (weightG n (ts.drop ((outB ts kAnd).toNat + 1)))
    else if clsB (ts.getD 0 (0, [])).2 = kNot then ((weightG n (ts.drop 1)).1, (weightG n (ts.drop 1)).2 + 1)
    else if clsB (ts.getD 0 (0, [])).2 = kOpen then ((weightG n ((ts.drop 1).take (ts.length - 2))).1, (weightG n ((ts.drop 1).take (ts.length - 2))).2 + 1)
    else (1, 0)

/-- The class of the token that comes next. -/
def nextc (r : Toks) (nx : Bs) : Bs := match r with | [] => nx | s :: _ => clsB s.2
def lastc (p : Bs) : Toks → Bs
  | [] => p
  | t :: r => lastc (clsB t.2) r
def lastS (p : Bs) : Toks → Bs
  | [] => p
  | t :: r => lastS t.2 r
/-- What a name in a guard must be: 1 a conclusion (behind has), 2 a num, 3 a flag. -/
def needK (p nx : Bs) : Nat := if p = [104, 97, 115] then 1 else if p ∈ cmpL ∨ nx ∈ cmpL then 2 else 3
/-- The names in a guard's tokens, and what each must be. -/
def needG : Bs → Toks → Bs → List (Nat × Bs)
  | _, [], _ => []
  | p, t :: r, nx => (if clsB t.2 = nameB then [(needK p (nextc r nx), t.2)] else []) ++ needG (clsB t.2) r nx

theorem nextc_app (u v : Toks) (nx : Bs) : nextc (u ++ v) nx = nextc u (nextc v nx) := by cases u <;> rfl
theorem needG_app (u v : Toks) (nx : Bs) : ∀ p, needG p (u ++ v) nx = needG p u (nextc v nx) ++ needG (lastc p u) v nx := by
  induction u with
  | nil => intro p; rfl
  | cons t r ih => intro p; rw [List.cons_append, needG, ih, needG, lastc, nextc_app, List.append_assoc]

def neut (c : Bs) : Prop := c ≠ [104, 97, 115] ∧ c ∉ cmpL
/-- The names of tokens, whatever stands around them. -/
def Needs (u : Toks) (L : List (Nat × Bs)) : Prop := ∀ p nx, neut p → nx ∉ cmpL → needG p u nx = L

theorem Needs.join {u v : Toks} {t : Nat × Bs} {L L' : List (Nat × Bs)} (hu : Needs u L) (hv : Needs v L') (ht : clsB t.2 ≠ nameB) (hn : neut (clsB t.2)) : Needs (u ++ t :: v) (L ++ L') := by
  intro p nx hp hnx
  rw [needG_app, show nextc (t :: v) nx = clsB t.2 from rfl, hu p _ hp hn.2, needG, if_neg ht, List.nil_append, hv _ _ hn hnx]
theorem Needs.ahead {u : Toks} {t : Nat × Bs} {L : List (Nat × Bs)} (hu : Needs u L) (ht : clsB t.2 ≠ nameB) (hn : neut (clsB t.2)) : Needs (t :: u) L := by
  intro p nx _ hnx
  rw [needG, if_neg ht, List.nil_append, hu _ _ hn hnx]
theorem Needs.behind {u : Toks} {t : Nat × Bs} {L : List (Nat × Bs)} (hu : Needs u L) (ht : clsB t.2 ≠ nameB) (hn : neut (clsB t.2)) : Needs (u ++ [t]) L := by
  intro p nx hp _
  rw [needG_app, show nextc [t] nx = clsB t.2 from rfl, hu p _ hp hn.2, needG, if_neg ht, needG]; simp

/-- The names in a node of the program's guard. -/
def nodeN (x : PNode) : List (Nat × Bs) :=
  if x.kind = 5 then [(1, x.name)] else if x.kind = 6 then [(3, x.name)] else if x.kind = 7 then (2, x.name) :: (if x.other = [] then [] else [(2, x.other)]) else []
def needsN (N : List PNode) : List (Nat × Bs) := N.flatMap nodeN
theorem needsN_app (N M : List PNode) : needsN (N ++ M) = needsN N ++ needsN M := by simp [needsN]

/-- Sums: the names, how many signs stand between parts, whether a factor is too great. -/
def needS : Toks → List (Nat × Bs)
  | [] => []
  | t :: r => (if clsB t.2 = nameB then [(0, t.2)] else []) ++ needS r
def cntPM : Toks → Nat
  | [] => 0
  | t :: r => (if clsB t.2 = [43] ∨ clsB t.2 = [45] then 1 else 0) + cntPM r
def bigG : Bs → Toks → Bool
  | _, [] => false
  | p, t :: r => (decide (clsB t.2 = [42]) && decide (9 < valF 0 p)) || bigG t.2 r
theorem needS_app (u v : Toks) : needS (u ++ v) = needS u ++ needS v := by
  induction u with
  | nil => rfl
  | cons t r ih => rw [List.cons_append, needS, ih, needS, List.append_assoc]
theorem cntPM_app (u v : Toks) : cntPM (u ++ v) = cntPM u + cntPM v := by
  induction u with
  | nil => simp [cntPM]
  | cons t r ih => rw [List.cons_append, cntPM, ih, cntPM]; omega
theorem bigG_app (u v : Toks) : ∀ p, bigG p (u ++ v) = (bigG p u || bigG (lastS p u) v) := by
  induction u with
  | nil => intro p; simp [bigG, lastS]
  | cons t r ih => intro p; rw [List.cons_append, bigG, ih, bigG, lastS, Bool.or_assoc]

def partN (x : PPart) : List (Nat × Bs) := if x.name = [] then [] else [(0, x.name)]
def partBig (x : PPart) : Bool := x.starred && decide (9 < x.num)
/-- What the tokens of a sum come to. -/
structure SumT (v : Toks) (S : List PPart) : Prop where
  needs : needS v = S.flatMap partN
  count : cntPM v + 1 = S.length
  big : ∀ p, bigG p v = S.any partBig
  star : ∀ k, k < v.length → clsB (v.getD k (0, [])).2 = [42] → 0 < k ∧ clsB (v.getD (k - 1) (0, [])).2 = numberB
theorem SumT.join {u v : Toks} {t : Nat × Bs} {S S' : List PPart} (hu : SumT u S) (hv : SumT v S') (ht : clsB t.2 = [43] ∨ clsB t.2 = [45]) : SumT (u ++ t :: v) (S ++ S') := by
  have h1 : clsB t.2 ≠ nameB := by rcases ht with h | h <;> rw [h] <;> decide
  have h2 : clsB t.2 ≠ [42] := by rcases ht with h | h <;> rw [h] <;> decide
  refine ⟨?_, ?_, ?_, ?_⟩
  · rw [needS_app, needS, if_neg h1, hu.needs, hv.needs, List.flatMap_append, List.nil_append]
  · rw [cntPM_app, cntPM, if_pos ht, List.length_append, ← hu.count, ← hv.count]; omega
  · intro p; rw [bigG_app, bigG, hu.big, hv.big, decide_eq_false h2, List.any_append]; simp
  · intro k hk h
    rcases Nat.lt_trichotomy k u.length with h3 | h3 | h3
    · have e : ∀ i, i < u.length → (u ++ t :: v).getD i (0, []) = u.getD i (0, []) := fun i hi => by rw [List.getD, List.getD, List.getElem?_append_left hi]
      rw [e k h3] at h
      obtain ⟨h4, h5⟩ := hu.star k h3 h
      exact ⟨h4, by rw [e (k - 1) (by omega)]; exact h5⟩
    · subst h3
      rw [List.getD, List.getElem?_append_right (Nat.le_refl _)] at h
      simp only [Nat.sub_self, List.getElem?_cons_zero, Option.getD_some] at h
      exact absurd h h2
    · have e : ∀ i, u.length < i → (u ++ t :: v).getD i (0, []) = v.getD (i - u.length - 1) (0, []) := fun i hi => by
        rw [List.getD, List.getD, List.getElem?_append_right (by omega)]
        obtain ⟨m, hm⟩ : ∃ m, i - u.length = m + 1 := ⟨i - u.length - 1, by omega⟩
        rw [hm]; rfl
      rw [e k h3] at h
      obtain ⟨h4, h5⟩ := hv.star (k - u.length - 1) (by simp only [List.length_append, List.length_cons] at hk; omega) h
      exact ⟨by omega, by rw [e (k - 1) (by omega), show k - 1 - u.length - 1 = k - u.length - 1 - 1 by omega]; exact h5⟩
end Go.Proofs.YtnbpdffdnphbeaaGreatDoor

/- Plain facts: the program's kinds of tokens and the document's classes agree; how the document's form goes on from a token. -/
namespace Go.Proofs.YtnbpdffdnphbeaaGreatDoor

def nexts (st : Bs) : List Bs := (List.range 43).filterMap fun i => if folL.getD (i * 3) [] = st then some (folL.getD (i * 3 + 1) []) else none

theorem look_in (st cl : Bs) (n : Nat) : ∀ i, i + n ≤ 43 → cl ∉ nexts st → lookF st cl n i = [] := by
  induction n with
  | zero => intro i _ _; rfl
  | succ n ih =>
    intro i hi h
    rw [lookF, if_neg, ih (i + 1) (by omega) h]
    rintro ⟨h1, h2⟩
    refine h (List.mem_filterMap.2 ⟨i, List.mem_range.2 (by omega), ?_⟩)
    rw [if_pos h1, h2]

theorem next_plain {st cl : Bs} {op : Int} (h1 : st ≠ sNamed) (h2 : st ≠ sDone) : nextB st cl op = lookF st cl 43 0 := by
  unfold nextB
  simp only [h1, false_and, if_false, h2]

theorem next_none {st cl : Bs} {op : Int} (h1 : st ≠ sNamed) (h2 : st ≠ sDone) (h : cl ∉ nexts st) : nextB st cl op = [] := by
  rw [next_plain h1 h2]; exact look_in st cl 43 0 (by omega) h

theorem nexts_done : nexts sDone = [kOr, kAnd, kShut, kEnd] := by decide
theorem nexts_named : nexts sNamed = cmpL := by decide

theorem next_done (cl : Bs) (op : Int) : nextB sDone cl op = if cl = kShut ∧ op = 0 ∨ cl = kEnd ∧ 0 < op then [] else lookF sDone cl 43 0 := by
  unfold nextB
  simp only [ite_self, true_and]

theorem done_none {cl : Bs} {op : Int} (h1 : cl ≠ kOr) (h2 : cl ≠ kAnd) (h3 : cl = kShut → op = 0) (h4 : cl = kEnd → 0 < op) : nextB sDone cl op = [] := by
  rw [next_done]
  split
  · rfl
  · rename_i h
    refine look_in _ _ 43 0 (by omega) ?_
    rw [nexts_done]
    simp only [List.mem_cons, List.not_mem_nil, or_false, h1, h2, false_or]
    rintro (e | e)
    · exact h (.inl ⟨e, h3 e⟩)
    · exact h (.inr ⟨e, h4 e⟩)

theorem named_done {cl : Bs} {op : Int} (h : cl ∉ cmpL) : nextB sNamed cl op = nextB sDone cl op := by
  by_cases hc : cl = kOr ∨ cl = kAnd ∨ cl = kShut ∨ cl = kEnd
  · unfold nextB
    simp only [hc, and_self, if_true, ite_self]
  · have e1 : nextB sNamed cl op = lookF sNamed cl 43 0 := by
      unfold nextB
      simp only [hc, and_false, if_false]
      rw [if_neg (by intro h; exact absurd h.1 (by decide))]
    rw [e1, look_in _ _ 43 0 (by omega) (by rw [nexts_named]; exact h)]
    rw [done_none (fun e => hc (.inl e)) (fun e => hc (.inr (.inl e))) (fun e => absurd (.inr (.inr (.inl e))) hc) (fun e => absurd (.inr (.inr (.inr e))) hc)]

/-- Kept words and marks. -/
def kwL : List Bs := keptL ++ markL

theorem kw_cls : ∀ t ∈ kwL, clsB t = t ∧ pkind t = 4 ∧ t ≠ badB ∧ t ≠ nameB ∧ t ≠ numberB := by decide

/-- What classes there are. -/
theorem cls_cases (s : Bs) : (pkind s = 4 ∧ s ∈ kwL ∧ clsB s = s) ∨ (pkind s = 2 ∧ clsB s = nameB) ∨ (pkind s = 3 ∧ clsB s = numberB) ∨ (pkind s = 1 ∧ clsB s = badB) := by
  unfold pkind clsB
  rw [among_kept, among_marks]
  split
  · split
    · exact .inr (.inr (.inr ⟨rfl, rfl⟩))
    · split
      · rename_i h
        refine .inl ⟨rfl, ?_, rfl⟩
        unfold isKeptB at h
        exact List.mem_append.2 (.inl (by simpa using h))
      · exact .inr (.inl ⟨rfl, rfl⟩)
  · split
    · split
      · exact .inr (.inr (.inr ⟨rfl, rfl⟩))
      · exact .inr (.inr (.inl ⟨rfl, rfl⟩))
    · split
      · rename_i h
        refine .inl ⟨rfl, ?_, rfl⟩
        unfold isMarkB at h
        exact List.mem_append.2 (.inr (by simpa using h))
      · exact .inr (.inr (.inr ⟨rfl, rfl⟩))

theorem cls_kw {s t : Bs} (ht : t ∈ kwL) : (pkind s = 4 ∧ s = t) ↔ clsB s = t := by
  obtain ⟨a, b, c, d, e⟩ := kw_cls t ht
  constructor
  · rintro ⟨_, rfl⟩; exact a
  · intro h
    rcases cls_cases s with ⟨h1, _, h2⟩ | ⟨_, h2⟩ | ⟨_, h2⟩ | ⟨_, h2⟩
    · exact ⟨h1, h2.symm.trans h⟩
    · exact absurd (h.symm.trans h2) d
    · exact absurd (h.symm.trans h2) e
    · exact absurd (h.symm.trans h2) c
theorem cls_name (s : Bs) : pkind s = 2 ↔ clsB s = nameB := by
  rcases cls_cases s with ⟨h1, h3, h2⟩ | ⟨h1, h2⟩ | ⟨h1, h2⟩ | ⟨h1, h2⟩
  · obtain ⟨a, b, c, d, e⟩ := kw_cls s h3
    exact ⟨fun h => absurd (h1.symm.trans h) (by decide), fun h => absurd (h2.symm.trans h) d⟩
  · exact ⟨fun _ => h2, fun _ => h1⟩
  · exact ⟨fun h => absurd (h1.symm.trans h) (by decide), fun h => absurd (h2.symm.trans h) (by decide)⟩
  · exact ⟨fun h => absurd (h1.symm.trans h) (by decide), fun h => absurd (h2.symm.trans h) (by decide)⟩
theorem cls_number (s : Bs) : pkind s = 3 ↔ clsB s = numberB := by
  rcases cls_cases s with ⟨h1, h3, h2⟩ | ⟨h1, h2⟩ | ⟨h1, h2⟩ | ⟨h1, h2⟩
  · obtain ⟨a, b, c, d, e⟩ := kw_cls s h3
    exact ⟨fun h => absurd (h1.symm.trans h) (by decide), fun h => absurd (h2.symm.trans h) e⟩
  · exact ⟨fun h => absurd (h1.symm.trans h) (by decide), fun h => absurd (h2.symm.trans h) (by decide)⟩
  · exact ⟨fun _ => h2, fun _ => h1⟩
  · exact ⟨fun h => absurd (h1.symm.trans h) (by decide), fun h => absurd (h2.symm.trans h) (by decide)⟩

/-- The program's tokens of tokens, its end behind them. -/
def pp (ts : Toks) (len : Nat) : List PT := ts.map (fun t => ⟨pkind t.2, t.2, pval t.2, t.1⟩) ++ [⟨0, [], 0, len⟩]
theorem pp_len (ts : Toks) (len : Nat) : (pp ts len).length = ts.length + 1 := by simp [pp]

def tA (ts : Toks) (i : Nat) : Bs := (ts.getD i (0, [])).2
/-- The class at a place; behind the end: bad. -/
def cA (ts : Toks) (i : Nat) : Bs := clsB (tA ts i)

theorem cA_end {ts : Toks} {i : Nat} (h : ts.length ≤ i) : cA ts i = badB := by
  unfold cA tA; rw [List.getD, List.getElem?_eq_none h]; decide
theorem cA_lt {ts : Toks} {i : Nat} (h : cA ts i ≠ badB) : i < ts.length := by
  rcases Nat.lt_or_ge i ts.length with h1 | h1
  · exact h1
  · exact absurd (cA_end h1) h
theorem cA_kw {ts : Toks} {i : Nat} {t : Bs} (ht : t ∈ kwL) (h : cA ts i = t) : i < ts.length ∧ tA ts i = t :=
  ⟨cA_lt (by rw [h]; exact (kw_cls t ht).2.2.1), ((cls_kw ht).2 h).2⟩

theorem cur_pp {ts : Toks} {len i : Nat} (h : i < ts.length) : cur (pp ts len) i = ⟨pkind (tA ts i), tA ts i, pval (tA ts i), (ts.getD i (0, [])).1⟩ := by
  unfold cur pp tA
  rw [List.getD, List.getElem?_append_left (by simpa using h)]
  simp [List.getD, h]
theorem cur_end {ts : Toks} {len : Nat} : cur (pp ts len) ts.length = ⟨0, [], 0, len⟩ := by
  unfold cur pp
  simp [List.getD]

theorem skip_pp {ts : Toks} {len i : Nat} (h : i ≤ ts.length) {t : Bs} (ht : t ∈ kwL) : skipB (pp ts len) t i false = decide (cA ts i = t) := by
  unfold skipB
  rcases Nat.lt_or_ge i ts.length with h1 | h1
  · rw [cur_pp h1]
    simp only [Bool.not_false, Bool.true_and, ← Bool.decide_and]
    exact decide_eq_decide.2 (cls_kw ht)
  · obtain rfl : i = ts.length := by omega
    rw [cur_end, cA_end (Nat.le_refl _)]
    have h2 := (kw_cls t ht).2.2.1
    have h3 : ¬ badB = t := fun e => h2 e.symm
    rw [decide_eq_false h3]
    rfl
theorem take2_pp {ts : Toks} {len i : Nat} (h : i ≤ ts.length) : takeB (pp ts len) 2 i false = decide (cA ts i = nameB) := by
  unfold takeB
  rcases Nat.lt_or_ge i ts.length with h1 | h1
  · rw [cur_pp h1]
    simp only [Bool.not_false, Bool.true_and]
    exact decide_eq_decide.2 (cls_name _)
  · obtain rfl : i = ts.length := by omega
    rw [cur_end, cA_end (Nat.le_refl _)]; rfl
theorem take3_pp {ts : Toks} {len i : Nat} (h : i ≤ ts.length) : takeB (pp ts len) 3 i false = decide (cA ts i = numberB) := by
  unfold takeB
  rcases Nat.lt_or_ge i ts.length with h1 | h1
  · rw [cur_pp h1]
    simp only [Bool.not_false, Bool.true_and]
    exact decide_eq_decide.2 (cls_number _)
  · obtain rfl : i = ts.length := by omega
    rw [cur_end, cA_end (Nat.le_refl _)]; rfl

section steps
variable {ts : Toks} {len i : Nat}

theorem skip_c (h : i ≤ ts.length) {t : Bs} (ht : t ∈ kwL) : (cA ts i = t ∧ i < ts.length ∧ pSkip (pp ts len) t (i, false) = (true, (i + 1, false))) ∨ (cA ts i ≠ t ∧ pSkip (pp ts len) t (i, false) = (false, (i, false))) := by
  by_cases hc : cA ts i = t
  · refine .inl ⟨hc, (cA_kw ht hc).1, ?_⟩
    simp only [pSkip, skip_pp h ht, hc, decide_true, adv]
  · refine .inr ⟨hc, ?_⟩
    simp only [pSkip, skip_pp h ht, hc, decide_false, adv]
theorem want_c (h : i ≤ ts.length) {t : Bs} (ht : t ∈ kwL) : (cA ts i = t ∧ i < ts.length ∧ pWant (pp ts len) t (i, false) = (i + 1, false)) ∨ (cA ts i ≠ t ∧ pWant (pp ts len) t (i, false) = (i, true)) := by
  by_cases hc : cA ts i = t
  · refine .inl ⟨hc, (cA_kw ht hc).1, ?_⟩
    simp only [pWant, skip_pp h ht, hc, decide_true, adv, Bool.not_true]
  · refine .inr ⟨hc, ?_⟩
    simp only [pWant, skip_pp h ht, hc, decide_false, adv, Bool.not_false]
theorem name_c (h : i ≤ ts.length) : (cA ts i = nameB ∧ i < ts.length ∧ pName (pp ts len) (i, false) = (tA ts i, (i + 1, false))) ∨ (cA ts i ≠ nameB ∧ pName (pp ts len) (i, false) = ([], (i, true))) := by
  by_cases hc : cA ts i = nameB
  · have hi : i < ts.length := cA_lt (by rw [hc]; decide)
    refine .inl ⟨hc, hi, ?_⟩
    simp only [pName, take2_pp h, hc, decide_true, adv, tk, cur_pp hi, Bool.not_true]
  · refine .inr ⟨hc, ?_⟩
    simp only [pName, take2_pp h, hc, decide_false, adv, tk, pz, Bool.not_false]
theorem pval_num {s : Bs} (h : clsB s = numberB) : pval s = valF 0 s := by unfold pval; rw [if_pos ((cls_number s).2 h)]
theorem number_c (h : i ≤ ts.length) : (cA ts i = numberB ∧ i < ts.length ∧ pNumber (pp ts len) (i, false) = (valF 0 (tA ts i), (i + 1, false))) ∨ (cA ts i ≠ numberB ∧ pNumber (pp ts len) (i, false) = (0, (i, true))) := by
  by_cases hc : cA ts i = numberB
  · have hi : i < ts.length := cA_lt (by rw [hc]; decide)
    refine .inl ⟨hc, hi, ?_⟩
    simp only [pNumber, take3_pp h, hc, decide_true, adv, tk, cur_pp hi, Bool.not_true, pval_num hc]
  · refine .inr ⟨hc, ?_⟩
    simp only [pNumber, take3_pp h, hc, decide_false, adv, tk, pz, Bool.not_false]
theorem isNum_c (h : i ≤ ts.length) (b : Bool) : isNum (pp ts len) (i, b) = decide (cA ts i = numberB) := by
  rw [← take3_pp (len := len) h]
  simp only [isNum, takeB, Bool.not_false, Bool.true_and]
  rfl
theorem cmp_kw : ∀ t ∈ cmpL, t ∈ kwL := by decide
theorem comp_c (h : i ≤ ts.length) : (cA ts i ∈ cmpL ∧ i < ts.length ∧ tA ts i = cA ts i ∧ pComp (pp ts len) (i, false) = (cA ts i, (i + 1, false))) ∨ (cA ts i ∉ cmpL ∧ pComp (pp ts len) (i, false) = ([], (i, false))) := by
  by_cases hc : cA ts i ∈ cmpL
  · obtain ⟨h1, h2⟩ := cA_kw (cmp_kw _ hc) rfl
    refine .inl ⟨hc, h1, h2, ?_⟩
    unfold pComp
    have e : (cur (pp ts len) i).s = cA ts i := by rw [cur_pp h1]; exact h2
    simp only [e]
    rcases skip_c (len := len) h (cmp_kw _ hc) with ⟨_, _, h3⟩ | ⟨h3, _⟩
    · simp only [List.contains_iff_mem.2 hc, h3]
    · exact absurd rfl h3
  · refine .inr ⟨hc, ?_⟩
    unfold pComp
    have e : cmpL.contains (cur (pp ts len) i).s = false := by
      rw [Bool.eq_false_iff]
      intro h1
      have h2 := List.contains_iff_mem.1 h1
      rcases Nat.lt_or_ge i ts.length with h3 | h3
      · rw [cur_pp h3] at h2
        have h4 : tA ts i ∈ cmpL := h2
        exact hc (by unfold cA; rw [(kw_cls _ (cmp_kw _ h4)).1]; exact h4)
      · obtain rfl : i = ts.length := by omega
        rw [cur_end] at h2; exact absurd (show ([] : Bs) ∈ cmpL from h2) (by decide)
    simp only [e]

theorem skip_f (P : List PT) (t : Bs) (i : Nat) : pSkip P t (i, true) = (false, (i, true)) := rfl
theorem want_f (P : List PT) (t : Bs) (i : Nat) : pWant P t (i, true) = (i, true) := rfl
theorem name_f (P : List PT) (i : Nat) : pName P (i, true) = ([], (i, true)) := rfl
theorem number_f (P : List PT) (i : Nat) : pNumber P (i, true) = (0, (i, true)) := rfl
end steps

/-- The document's form of what is left at a place. -/
def FA (ts : Toks) (len : Nat) (i : Nat) (st : Bs) (op : Int) : Int := formTo len (ts.drop i) st op

theorem FA_go {ts : Toks} {len i : Nat} {st cl st' : Bs} {op op' : Int} (h : i < ts.length) (hc : cA ts i = cl) (h1 : nextB st cl op = st') (h2 : st' ≠ []) (h3 : opn cl op = op') : FA ts len i st op = FA ts len (i + 1) st' op' := by
  unfold FA
  subst hc h1 h3
  rw [drop_consT ts i h, formTo]
  exact if_neg h2
theorem FA_bad {ts : Toks} {len i : Nat} {st : Bs} {op : Int} (h0 : i ≤ ts.length) (h1 : nextB st (cA ts i) op = []) (h2 : i < ts.length ∨ st ≠ sLine) : FA ts len i st op = ((cur (pp ts len) i).p : Int) := by
  unfold FA
  rcases Nat.lt_or_ge i ts.length with h | h
  · rw [drop_consT ts i h, formTo, cur_pp h]
    show (if nextB st (cA ts i) op = [] then _ else _) = _
    rw [if_pos h1]
  · obtain rfl : i = ts.length := by omega
    rw [List.drop_length, formTo, if_neg (by rcases h2 with h2 | h2; omega; exact h2), cur_end]
theorem FA_named {ts : Toks} {len i : Nat} {op : Int} (h : cA ts i ∉ cmpL) : FA ts len i sNamed op = FA ts len i sDone op := by
  unfold FA
  rcases Nat.lt_or_ge i ts.length with h1 | h1
  · rw [drop_consT ts i h1, formTo, formTo]
    have e : nextB sNamed (clsB (ts.getD i (0, [])).2) op = nextB sDone (clsB (ts.getD i (0, [])).2) op := named_done h
    rw [e]
  · rw [List.drop_eq_nil_of_le h1, formTo, formTo]; rfl

end Go.Proofs.YtnbpdffdnphbeaaGreatDoor

/- Plain facts on guards as trees: what the document's way makes of their tokens, and what the program's writer writes of their nodes. -/
namespace Go.Proofs.YtnbpdffdnphbeaaGreatDoor

abbrev plainC (c : Bs) : Prop := c ≠ kOr ∧ c ≠ kAnd ∧ c ≠ kShut ∧ c ≠ kOpen ∧ c ≠ kEnd ∧ c ≠ kNot

def opG : Toks → Int → Int
  | [], op => op
  | t :: r, op => opG r (opn (clsB t.2) op)

theorem opG_app (u v : Toks) : ∀ op, opG (u ++ v) op = opG v (opG u op) := by
  induction u with
  | nil => intro op; rfl
  | cons t r ih => intro op; exact ih _
theorem outG_app (w : Bs) (u v : Toks) : ∀ i op at', outG w (u ++ v) i op at' = outG w v (i + u.length) (opG u op) (outG w u i op at') := by
  induction u with
  | nil => intro i op a; rfl
  | cons t r ih => intro i op a; rw [List.cons_append, outG, ih, outG, opG, List.length_cons]; congr 1; omega

theorem opn_plain {c : Bs} (h : plainC c) (op : Int) : opn c op = op := by unfold opn; rw [if_neg h.2.2.2.1, if_neg h.2.2.1]

theorem test_op (u : Toks) (h : ∀ t ∈ u, plainC (clsB t.2)) : ∀ op, opG u op = op := by
  induction u with
  | nil => intro op; rfl
  | cons t r ih => intro op; rw [opG, opn_plain (h t (List.mem_cons_self ..)), ih (fun x hx => h x (List.mem_cons_of_mem _ hx))]
theorem test_out (w : Bs) (hw : w = kOr ∨ w = kAnd) (u : Toks) (h : ∀ t ∈ u, plainC (clsB t.2)) : ∀ i op at', outG w u i op at' = at' := by
  induction u with
  | nil => intro i op a; rfl
  | cons t r ih =>
    intro i op a
    have h1 := h t (List.mem_cons_self ..)
    rw [outG, if_neg, ih (fun x hx => h x (List.mem_cons_of_mem _ hx))]
    rintro ⟨_, h2⟩
    rcases hw with rfl | rfl
    · exact h1.1 h2
    · exact h1.2.1 h2

theorem opn_open (op : Int) : opn kOpen op = op + 1 := if_pos rfl
theorem opn_shut (op : Int) : opn kShut op = op - 1 := by unfold opn; rw [if_neg (by decide), if_pos rfl]
theorem opn_not (op : Int) : opn kNot op = op := by unfold opn; rw [if_neg (by decide), if_neg (by decide)]
theorem opn_or (op : Int) : opn kOr op = op := by unfold opn; rw [if_neg (by decide), if_neg (by decide)]
theorem opn_and (op : Int) : opn kAnd op = op := by unfold opn; rw [if_neg (by decide), if_neg (by decide)]

theorem tidG_or {n : Nat} {ts : Toks} {k : Nat} (h : outB ts kOr = k) : tidG (n + 1) ts = ((tidG n (ts.take k)).1 ++ [32, 111, 114, 32] ++ (tidG n (ts.drop (k + 1))).1, 2) ∧ goodT (n + 1) ts = (goodT n (ts.take k) && goodT n (ts.drop (k + 1))) := by
  rw [tidG, goodT, h, if_pos (by omega), if_pos (by omega)]
  exact ⟨rfl, rfl⟩
theorem tidG_and {n : Nat} {ts : Toks} {k : Nat} (h0 : outB ts kOr = -1) (h : outB ts kAnd = k) : tidG (n + 1) ts = ((if (tidG n (ts.take k)).2 = 2 then brk (tidG n (ts.take k)).1 else (tidG n (ts.take k)).1) ++ [32, 97, 110, 100, 32] ++ (if (tidG n (ts.drop (k + 1))).2 = 2 then brk (tidG n (ts.drop (k + 1))).1 else (tidG n (ts.drop (k + 1))).1), 1) ∧ goodT (n + 1) ts = (goodT n (ts.take k) && goodT n (ts.drop (k + 1))) := by
  constructor
  · rw [tidG, h0, h, if_neg (by omega), if_pos (Int.natCast_nonneg k)]; rfl
  · rw [goodT, h0, h, if_neg (by omega), if_pos (Int.natCast_nonneg k)]; rfl

theorem wPut_app (s r : Bs) (st : WSt) : wPut (s ++ [32] ++ r) st = wPut r (wPut s st) := by
  obtain ⟨o, il⟩ := st
  cases il <;> simp [wPut, putB]

/-- Tokens written one behind the other. -/
def putAll : Toks → WSt → WSt
  | [], st => st
  | t :: r, st => putAll r (wPut t.2 st)

theorem putAll_app (u v : Toks) : ∀ st, putAll (u ++ v) st = putAll v (putAll u st) := by
  induction u with
  | nil => intro st; rfl
  | cons t r ih => intro st; exact ih _

theorem putAll_gluF (r : Toks) : ∀ (s : Bs) (i : Nat) (st : WSt), wPut (gluF s (i + 1) r) st = putAll r (wPut s st) := by
  induction r with
  | nil => intro s i st; rfl
  | cons t r ih => intro s i st; rw [gluF, if_pos (by omega), ih, wPut_app, putAll]

theorem putAll_glued {u : Toks} (h : u ≠ []) (st : WSt) : putAll u st = wPut (gluedB u) st := by
  cases u with
  | nil => exact absurd rfl h
  | cons t r => rw [gluedB, gluF, if_neg (by omega), List.nil_append, putAll_gluF, putAll]

theorem wPut_brk (s : Bs) (st : WSt) : wPut (brk s) st = wPut kShut (wPut s (wPut kOpen st)) := by
  rw [← wPut_app, ← wPut_app]; simp [brk, kShut, kOpen]

theorem nAt_app {N M : List PNode} {a : Nat} (h : a < N.length) : nAt (N ++ M) a = nAt N a := by
  unfold nAt; rw [List.getD, List.getElem?_append_left h]; rfl

abbrev lf (N : List PNode) (a : Int) : Int := (nAt N a.toNat).left
abbrev rg (N : List PNode) (a : Int) : Int := (nAt N a.toNat).right
/-- The tokens of a test, and what its node says. -/
def TestT (x : PNode) (u : Toks) : Prop :=
  (x.kind = 4 ∧ ∃ t, u = [t] ∧ clsB t.2 = [97, 108, 119, 97, 121, 115]) ∨
  (x.kind = 5 ∧ ∃ t s, u = [t, s] ∧ clsB t.2 = [104, 97, 115] ∧ clsB s.2 = nameB ∧ x.name = s.2) ∨
  (x.kind = 6 ∧ ∃ t, u = [t] ∧ clsB t.2 = nameB ∧ x.name = t.2) ∨
  (x.kind = 7 ∧ ∃ t m s, u = [t, m, s] ∧ clsB t.2 = nameB ∧ x.name = t.2 ∧ m.2 ∈ cmpL ∧ x.mark = m.2 ∧ ((clsB s.2 = numberB ∧ x.other = [] ∧ x.num = valF 0 s.2) ∨ (clsB s.2 = nameB ∧ x.other = s.2 ∧ s.2 ≠ [])))
def TestN (N : List PNode) (a : Int) (u : Toks) : Prop := 0 ≤ a ∧ a < N.length ∧ (4 ≤ (nAt N a.toNat).kind) ∧ (∀ st, wTest (nAt N a.toNat) st = putAll u st) ∧ TestT (nAt N a.toNat) u
def NegN (N : List PNode) (a : Int) : Prop := 0 ≤ a ∧ a < N.length ∧ (nAt N a.toNat).kind = 3 ∧ lf N a < a
def BinN (kd : Int) (N : List PNode) (a : Int) : Prop := 0 ≤ a ∧ a < N.length ∧ (nAt N a.toNat).kind = kd ∧ lf N a < a ∧ rg N a < a
def testOk (u : Toks) : Prop := u ≠ [] ∧ ∀ t ∈ u, plainC (clsB t.2)

def negT (x : Bs × Int) : Bs × Int := ([110, 111, 116, 32] ++ (if 0 < x.2 then brk x.1 else x.1), 0)
def andT (x y : Bs × Int) : Bs × Int := ((if x.2 = 2 then brk x.1 else x.1) ++ [32, 97, 110, 100, 32] ++ (if y.2 = 2 then brk y.1 else y.1), 1)
def orT (x y : Bs × Int) : Bs × Int := (x.1 ++ [32, 111, 114, 32] ++ y.1, 2)

/-- The rules by which guards are made: of a level (0 a factor, 1 terms, 2 alternatives), of tokens, with a text and its kind, as a node among nodes. -/
structure Cl (R : Nat → Toks → Bs × Int → List PNode → Int → Prop) : Prop where
  test : ∀ k u N a, testOk u → TestN N a u → R k u (gluedB u, 0) N a
  neg : ∀ k t u x N a, clsB t.2 = kNot → NegN N a → R 0 u x N (lf N a) → R k (t :: u) (negT x) N a
  br : ∀ k o u c x N a, clsB o.2 = kOpen → clsB c.2 = kShut → R 2 u x N a → R k (o :: (u ++ [c])) x N a
  and : ∀ k u t v x y N a, 1 ≤ k → clsB t.2 = kAnd → BinN 2 N a → R 1 u x N (lf N a) → R 0 v y N (rg N a) → R k (u ++ t :: v) (andT x y) N a
  or : ∀ k u t v x y N a, 2 ≤ k → clsB t.2 = kOr → BinN 1 N a → R 2 u x N (lf N a) → R 1 v y N (rg N a) → R k (u ++ t :: v) (orT x y) N a

/-- What the rules make. -/
def Gr (k : Nat) (u : Toks) (x : Bs × Int) (N : List PNode) (a : Int) : Prop := ∀ R, Cl R → R k u x N a

theorem grCl : Cl Gr := {
  test := fun k u N a h1 h2 _ c => c.test k u N a h1 h2
  neg := fun k t u x N a h1 h2 h _ c => c.neg k t u x N a h1 h2 (h _ c)
  br := fun k o u e x N a h1 h2 h _ c => c.br k o u e x N a h1 h2 (h _ c)
  and := fun k u t v x y N a h1 h2 h3 h h' _ c => c.and k u t v x y N a h1 h2 h3 (h _ c) (h' _ c)
  or := fun k u t v x y N a h1 h2 h3 h h' _ c => c.or k u t v x y N a h1 h2 h3 (h _ c) (h' _ c) }

theorem Gr.ind {R : Nat → Toks → Bs × Int → List PNode → Int → Prop}
    (test : ∀ k u N a, testOk u → TestN N a u → R k u (gluedB u, 0) N a)
    (neg : ∀ k t u x N a, clsB t.2 = kNot → NegN N a → Gr 0 u x N (lf N a) → R 0 u x N (lf N a) → R k (t :: u) (negT x) N a)
    (br : ∀ k o u c x N a, clsB o.2 = kOpen → clsB c.2 = kShut → Gr 2 u x N a → R 2 u x N a → R k (o :: (u ++ [c])) x N a)
    (and : ∀ k u t v x y N a, 1 ≤ k → clsB t.2 = kAnd → BinN 2 N a → Gr 1 u x N (lf N a) → Gr 0 v y N (rg N a) → R 1 u x N (lf N a) → R 0 v y N (rg N a) → R k (u ++ t :: v) (andT x y) N a)
    (or : ∀ k u t v x y N a, 2 ≤ k → clsB t.2 = kOr → BinN 1 N a → Gr 2 u x N (lf N a) → Gr 1 v y N (rg N a) → R 2 u x N (lf N a) → R 1 v y N (rg N a) → R k (u ++ t :: v) (orT x y) N a)
    {k : Nat} {u : Toks} {x : Bs × Int} {N : List PNode} {a : Int} (h : Gr k u x N a) : R k u x N a :=
  (h (fun k u x N a => Gr k u x N a ∧ R k u x N a) {
    test := fun k u N a h1 h2 => ⟨grCl.test k u N a h1 h2, test k u N a h1 h2⟩
    neg := fun k t u x N a h1 h2 h => ⟨grCl.neg k t u x N a h1 h2 h.1, neg k t u x N a h1 h2 h.1 h.2⟩
    br := fun k o u c x N a h1 h2 h => ⟨grCl.br k o u c x N a h1 h2 h.1, br k o u c x N a h1 h2 h.1 h.2⟩
    and := fun k u t v x y N a h1 h2 h3 h h' => ⟨grCl.and k u t v x y N a h1 h2 h3 h.1 h'.1, and k u t v x y N a h1 h2 h3 h.1 h'.1 h.2 h'.2⟩
    or := fun k u t v x y N a h1 h2 h3 h h' => ⟨grCl.or k u t v x y N a h1 h2 h3 h.1 h'.1, or k u t v x y N a h1 h2 h3 h.1 h'.1 h.2 h'.2⟩ }).2

section gr
variable {k : Nat} {u : Toks} {x : Bs × Int} {N : List PNode} {a : Int}

theorem Gr.le (h : Gr k u x N a) {k' : Nat} (hk : k ≤ k') : Gr k' u x N a := by
  refine Gr.ind (R := fun k u x N a => ∀ k', k ≤ k' → Gr k' u x N a) ?_ ?_ ?_ ?_ ?_ h k' hk
  · intro k u N a h1 h2 k' _; exact grCl.test _ _ _ _ h1 h2
  · intro k t u x N a h1 h2 h3 _ k' _; exact grCl.neg _ _ _ _ _ _ h1 h2 h3
  · intro k o u c x N a h1 h2 h3 _ k' _; exact grCl.br _ _ _ _ _ _ _ h1 h2 h3
  · intro k u t v x y N a h1 h2 h3 h4 h5 _ _ k' hk; exact grCl.and _ _ _ _ _ _ _ _ (Nat.le_trans h1 hk) h2 h3 h4 h5
  · intro k u t v x y N a h1 h2 h3 h4 h5 _ _ k' hk; exact grCl.or _ _ _ _ _ _ _ _ (Nat.le_trans h1 hk) h2 h3 h4 h5

theorem Gr.op (h : Gr k u x N a) (op : Int) : opG u op = op := by
  refine Gr.ind (R := fun _ u _ _ _ => ∀ op, opG u op = op) ?_ ?_ ?_ ?_ ?_ h op
  · intro k u N a h1 _ op; exact test_op u h1.2 op
  · intro k t u x N a h1 _ _ ih op; rw [opG, h1, opn_not, ih]
  · intro k o u c x N a h1 h2 _ ih op; rw [opG, h1, opn_open, opG_app, ih, opG, h2, opn_shut, opG]; omega
  · intro k u t v x y N a _ h2 _ _ _ ihu ihv op; rw [opG_app, ihu, opG, h2, opn_and, ihv]
  · intro k u t v x y N a _ h2 _ _ _ ihu ihv op; rw [opG_app, ihu, opG, h2, opn_or, ihv]

theorem Gr.inner (h : Gr k u x N a) (w : Bs) (hw : w = kOr ∨ w = kAnd) (i : Nat) (op at' : Int) (ho : 0 < op) : outG w u i op at' = at' := by
  refine Gr.ind (R := fun _ u _ _ _ => ∀ (i : Nat) (op at' : Int), 0 < op → outG w u i op at' = at') ?_ ?_ ?_ ?_ ?_ h i op at' ho
  · intro k u N a h1 _ i op at' _; exact test_out w hw u h1.2 i op at'
  · intro k t u x N a h1 _ _ ih i op at' ho
    rw [outG, h1, opn_not, if_neg (by intro e; omega), ih _ _ _ ho]
  · intro k o u c x N a h1 h2 h3 ih i op at' ho
    rw [outG, h1, opn_open, if_neg (by intro e; omega), outG_app, ih _ _ _ (by omega), h3.op, outG, h2, opn_shut, if_neg (by intro e; omega), outG]
  · intro k u t v x y N a _ h2 _ h4 _ ihu ihv i op at' ho
    rw [outG_app, ihu _ _ _ ho, h4.op, outG, h2, opn_and, if_neg (by intro e; omega), ihv _ _ _ ho]
  · intro k u t v x y N a _ h2 _ h4 _ ihu ihv i op at' ho
    rw [outG_app, ihu _ _ _ ho, h4.op, outG, h2, opn_or, if_neg (by intro e; omega), ihv _ _ _ ho]

theorem br_out (w : Bs) (hw : w = kOr ∨ w = kAnd) {o c : Nat × Bs} (h1 : clsB o.2 = kOpen) (h2 : clsB c.2 = kShut) (h3 : Gr k u x N a) (i : Nat) (at' : Int) : outG w (o :: (u ++ [c])) i 0 at' = at' := by
  rw [outG, h1, opn_open, if_neg (by intro e; omega), outG_app, h3.inner w hw _ _ _ (by omega), h3.op, outG, h2, opn_shut, if_neg, outG]
  rintro ⟨_, e⟩
  rcases hw with rfl | rfl
  · exact absurd e (by decide)
  · exact absurd e (by decide)

/-- Outside of brackets, a factor has neither word. -/
theorem Gr.out0 (h : Gr 0 u x N a) (w : Bs) (hw : w = kOr ∨ w = kAnd) (i : Nat) (at' : Int) : outG w u i 0 at' = at' := by
  refine Gr.ind (R := fun k u _ _ _ => k = 0 → ∀ (i : Nat) (at' : Int), outG w u i 0 at' = at') ?_ ?_ ?_ ?_ ?_ h rfl i at'
  · intro k u N a h1 _ _ i at'; exact test_out w hw u h1.2 i 0 at'
  · intro k t u x N a h1 _ _ ih _ i at'
    rw [outG, h1, opn_not, if_neg, ih rfl]
    rintro ⟨_, e⟩
    rcases hw with rfl | rfl
    · exact absurd e (by decide)
    · exact absurd e (by decide)
  · intro k o u c x N a h1 h2 h3 _ _ i at'; exact br_out w hw h1 h2 h3 i at'
  · intro k u t v x y N a h1 _ _ _ _ _ _ e; omega
  · intro k u t v x y N a h1 _ _ _ _ _ _ e; omega

/-- Outside of brackets, terms have no or. -/
theorem Gr.out1 (h : Gr k u x N a) (hk : k ≤ 1) (i : Nat) (at' : Int) : outG kOr u i 0 at' = at' := by
  refine Gr.ind (R := fun k u _ _ _ => k ≤ 1 → ∀ (i : Nat) (at' : Int), outG kOr u i 0 at' = at') ?_ ?_ ?_ ?_ ?_ h hk i at'
  · intro k u N a h1 _ _ i at'; exact test_out kOr (.inl rfl) u h1.2 i 0 at'
  · intro k t u x N a h1 _ _ ih _ i at'
    rw [outG, h1, opn_not, if_neg (by rintro ⟨_, e⟩; exact absurd e (by decide)), ih (by decide)]
  · intro k o u c x N a h1 h2 h3 _ _ i at'; exact br_out kOr (.inl rfl) h1 h2 h3 i at'
  · intro k u t v x y N a _ h2 _ h4 _ ihu ihv _ i at'
    rw [outG_app, ihu (by decide), h4.op, outG, h2, opn_and, if_neg (by rintro ⟨_, e⟩; exact absurd e (by decide)), ihv (by decide)]
  · intro k u t v x y N a h1 _ _ _ _ _ _ e; omega

theorem Gr.pos (h : Gr k u x N a) : 0 < u.length := by
  refine Gr.ind (R := fun _ u _ _ _ => 0 < u.length) ?_ ?_ ?_ ?_ ?_ h
  · intro k u N a h1 _; exact List.length_pos_iff.2 h1.1
  · intro k t u x N a _ _ _ _; simp
  · intro k o u c x N a _ _ _ _; simp
  · intro k u t v x y N a _ _ _ _ _ _ _; simp only [List.length_append, List.length_cons]; omega
  · intro k u t v x y N a _ _ _ _ _ _ _; simp only [List.length_append, List.length_cons]; omega

theorem Gr.bound (h : Gr k u x N a) : 0 ≤ a ∧ a < N.length := by
  refine Gr.ind (R := fun _ _ _ N a => 0 ≤ a ∧ a < (N.length : Int)) ?_ ?_ ?_ ?_ ?_ h
  · intro k u N a _ h; exact ⟨h.1, h.2.1⟩
  · intro k t u x N a _ h _ _; exact ⟨h.1, h.2.1⟩
  · intro k o u c x N a _ _ _ ih; exact ih
  · intro k u t v x y N a _ _ h _ _ _ _; exact ⟨h.1, h.2.1⟩
  · intro k u t v x y N a _ _ h _ _ _ _; exact ⟨h.1, h.2.1⟩

theorem Gr.noEnd (h : Gr k u x N a) : ∀ t ∈ u, clsB t.2 ≠ kEnd := by
  refine Gr.ind (R := fun _ u _ _ _ => ∀ t ∈ u, clsB t.2 ≠ kEnd) ?_ ?_ ?_ ?_ ?_ h
  · intro k u N a h1 _ t ht; exact (h1.2 t ht).2.2.2.2.1
  · intro k o u x N a h1 _ _ ih t ht
    rcases List.mem_cons.1 ht with rfl | ht
    · rw [h1]; decide
    · exact ih t ht
  · intro k o u c x N a h1 h2 _ ih t ht
    rcases List.mem_cons.1 ht with rfl | ht
    · rw [h1]; decide
    · rcases List.mem_append.1 ht with ht | ht
      · exact ih t ht
      · obtain rfl := List.mem_singleton.1 ht; rw [h2]; decide
  · intro k u o v x y N a _ h2 _ _ _ ihu ihv t ht
    rcases List.mem_append.1 ht with ht | ht
    · exact ihu t ht
    · rcases List.mem_cons.1 ht with rfl | ht
      · rw [h2]; decide
      · exact ihv t ht
  · intro k u o v x y N a _ h2 _ _ _ ihu ihv t ht
    rcases List.mem_append.1 ht with ht | ht
    · exact ihu t ht
    · rcases List.mem_cons.1 ht with rfl | ht
      · rw [h2]; decide
      · exact ihv t ht
end gr

theorem tid_gr {k : Nat} {u : Toks} {x : Bs × Int} {N : List PNode} {a : Int} (h : Gr k u x N a) (n : Nat) (hn : u.length < n) : tidG n u = x ∧ goodT n u = true := by
  refine Gr.ind (R := fun _ u x _ _ => ∀ n, u.length < n → tidG n u = x ∧ goodT n u = true) ?_ ?_ ?_ ?_ ?_ h n hn
  · intro k u N a h _ n hn
    obtain ⟨n, rfl⟩ : ∃ m, n = m + 1 := ⟨n - 1, by omega⟩
    have e1 : outB u kOr = -1 := test_out kOr (.inl rfl) u h.2 0 0 (-1)
    have e2 : outB u kAnd = -1 := test_out kAnd (.inr rfl) u h.2 0 0 (-1)
    have hp : plainC (clsB (u.getD 0 (0, [])).2) := by
      obtain ⟨h1, h2⟩ := h
      cases u with
      | nil => exact absurd rfl h1
      | cons t r => exact h2 t (List.mem_cons_self ..)
    have hl : 0 < u.length := List.length_pos_iff.2 h.1
    rw [tidG, goodT, e1, e2, if_neg (by omega), if_neg (by omega), if_neg hp.2.2.2.2.2, if_neg hp.2.2.2.1, if_neg (by omega), if_neg (by omega), if_neg hp.2.2.2.2.2, if_neg hp.2.2.2.1]
    exact ⟨rfl, decide_eq_true hl⟩
  · intro k t u x N a h1 h2 h3 ih n hn
    obtain ⟨n, rfl⟩ : ∃ m, n = m + 1 := ⟨n - 1, by omega⟩
    have hW : Gr 0 (t :: u) (negT x) N a := grCl.neg _ _ _ _ _ _ h1 h2 h3
    have e1 : outB (t :: u) kOr = -1 := hW.out0 kOr (.inl rfl) 0 (-1)
    have e2 : outB (t :: u) kAnd = -1 := hW.out0 kAnd (.inr rfl) 0 (-1)
    have hc : clsB ((t :: u).getD 0 (0, [])).2 = kNot := h1
    obtain ⟨i1, i2⟩ := ih n (by simp at hn; omega)
    rw [tidG, goodT, e1, e2, if_neg (by omega), if_neg (by omega), if_pos hc, if_neg (by omega), if_neg (by omega), if_pos hc]
    simp only [List.drop_succ_cons, List.drop_zero, i1, i2, negT, List.length_cons]
    exact ⟨trivial, by simp⟩
  · intro k o u c x N a h1 h2 h3 ih n hn
    obtain ⟨n, rfl⟩ : ∃ m, n = m + 1 := ⟨n - 1, by omega⟩
    have e1 : outB (o :: (u ++ [c])) kOr = -1 := br_out kOr (.inl rfl) h1 h2 h3 0 (-1)
    have e2 : outB (o :: (u ++ [c])) kAnd = -1 := br_out kAnd (.inr rfl) h1 h2 h3 0 (-1)
    have hc : clsB ((o :: (u ++ [c])).getD 0 (0, [])).2 = kOpen := h1
    have hc' : ¬ clsB ((o :: (u ++ [c])).getD 0 (0, [])).2 = kNot := by rw [hc]; decide
    have hp := h3.pos
    obtain ⟨i1, i2⟩ := ih n (by simp at hn; omega)
    rw [tidG, goodT, e1, e2, if_neg (by omega), if_neg (by omega), if_neg hc', if_pos hc, if_neg (by omega), if_neg (by omega), if_neg hc', if_pos hc]
    have e3 : ((o :: (u ++ [c])).drop 1).take ((o :: (u ++ [c])).length - 2) = u := by simp
    rw [e3, i1, i2]
    refine ⟨rfl, ?_⟩
    simp; omega
  · intro k u t v x y N a h1 h2 h3 h4 h5 ihu ihv n hn
    obtain ⟨n, rfl⟩ : ∃ m, n = m + 1 := ⟨n - 1, by omega⟩
    have hW : Gr 1 (u ++ t :: v) (andT x y) N a := grCl.and _ _ _ _ _ _ _ _ (Nat.le_refl _) h2 h3 h4 h5
    have e1 : outB (u ++ t :: v) kOr = -1 := hW.out1 (Nat.le_refl _) 0 (-1)
    have e2 : outB (u ++ t :: v) kAnd = u.length := by
      unfold outB
      rw [outG_app, h4.op, outG, h2, opn_and, if_pos ⟨rfl, rfl⟩, h5.out0 kAnd (.inr rfl)]; omega
    obtain ⟨x1, x2⟩ := tidG_and (n := n) e1 e2
    have hl : (u ++ t :: v).length = u.length + 1 + v.length := by simp; omega
    obtain ⟨i1, i2⟩ := ihu n (by omega)
    obtain ⟨j1, j2⟩ := ihv n (by omega)
    have t1 : (u ++ t :: v).take u.length = u := by simp
    have t2 : (u ++ t :: v).drop (u.length + 1) = v := by simp
    rw [t1, t2, i1, j1] at x1
    rw [t1, t2, i2, j2] at x2
    exact ⟨x1, x2⟩
  · intro k u t v x y N a h1 h2 h3 h4 h5 ihu ihv n hn
    obtain ⟨n, rfl⟩ : ∃ m, n = m + 1 := ⟨n - 1, by omega⟩
    have e2 : outB (u ++ t :: v) kOr = u.length := by
      unfold outB
      rw [outG_app, h4.op, outG, h2, opn_or, if_pos ⟨rfl, rfl⟩, h5.out1 (Nat.le_refl _)]; omega
    obtain ⟨x1, x2⟩ := tidG_or (n := n) e2
    have hl : (u ++ t :: v).length = u.length + 1 + v.length := by simp; omega
    obtain ⟨i1, i2⟩ := ihu n (by omega)
    obtain ⟨j1, j2⟩ := ihv n (by omega)
    have t1 : (u ++ t :: v).take u.length = u := by simp
    have t2 : (u ++ t :: v).drop (u.length + 1) = v := by simp
    rw [t1, t2, i1, j1] at x1
    rw [t1, t2, i2, j2] at x2
    exact ⟨x1, x2⟩

theorem len_app {N M : List PNode} {a : Int} (h : a < N.length) : a < ((N ++ M).length : Int) := by simp only [List.length_append]; omega

theorem Gr.ext {k : Nat} {u : Toks} {x : Bs × Int} {N : List PNode} {a : Int} (h : Gr k u x N a) (M : List PNode) : Gr k u x (N ++ M) a := by
  refine Gr.ind (R := fun k u x N a => Gr k u x (N ++ M) a) ?_ ?_ ?_ ?_ ?_ h
  · intro k u N a h1 h
    have e : nAt (N ++ M) a.toNat = nAt N a.toNat := nAt_app (by have := h.1; have := h.2.1; omega)
    refine grCl.test _ _ _ _ h1 ⟨h.1, len_app h.2.1, ?_⟩
    rw [e]; exact h.2.2
  · intro k t u x N a h1 h _ ih
    have e : nAt (N ++ M) a.toNat = nAt N a.toNat := nAt_app (by have := h.1; have := h.2.1; omega)
    have el : lf (N ++ M) a = lf N a := by unfold lf; rw [e]
    exact grCl.neg _ _ _ _ _ _ h1 ⟨h.1, len_app h.2.1, by rw [e]; exact h.2.2.1, by rw [el]; exact h.2.2.2⟩ (by rw [el]; exact ih)
  · intro k o u c x N a h1 h2 _ ih; exact grCl.br _ _ _ _ _ _ _ h1 h2 ih
  · intro k u t v x y N a h1 h2 h _ _ ihu ihv
    have e : nAt (N ++ M) a.toNat = nAt N a.toNat := nAt_app (by have := h.1; have := h.2.1; omega)
    have el : lf (N ++ M) a = lf N a := by unfold lf; rw [e]
    have er : rg (N ++ M) a = rg N a := by unfold rg; rw [e]
    exact grCl.and _ _ _ _ _ _ _ _ h1 h2 ⟨h.1, len_app h.2.1, by rw [e]; exact h.2.2.1, by rw [el]; exact h.2.2.2.1, by rw [er]; exact h.2.2.2.2⟩ (by rw [el]; exact ihu) (by rw [er]; exact ihv)
  · intro k u t v x y N a h1 h2 h _ _ ihu ihv
    have e : nAt (N ++ M) a.toNat = nAt N a.toNat := nAt_app (by have := h.1; have := h.2.1; omega)
    have el : lf (N ++ M) a = lf N a := by unfold lf; rw [e]
    have er : rg (N ++ M) a = rg N a := by unfold rg; rw [e]
    exact grCl.or _ _ _ _ _ _ _ _ h1 h2 ⟨h.1, len_app h.2.1, by rw [e]; exact h.2.2.1, by rw [el]; exact h.2.2.2.1, by rw [er]; exact h.2.2.2.2⟩ (by rw [el]; exact ihu) (by rw [er]; exact ihv)

theorem Gr.kind {k : Nat} {u : Toks} {x : Bs × Int} {N : List PNode} {a : Int} (h : Gr k u x N a) : ((nAt N a.toNat).kind = 1 ∧ x.2 = 2) ∨ ((nAt N a.toNat).kind = 2 ∧ x.2 = 1) ∨ (¬ (nAt N a.toNat).kind = 1 ∧ ¬ (nAt N a.toNat).kind = 2 ∧ x.2 = 0) := by
  refine Gr.ind (R := fun _ _ x N a => ((nAt N a.toNat).kind = 1 ∧ x.2 = 2) ∨ ((nAt N a.toNat).kind = 2 ∧ x.2 = 1) ∨ (¬ (nAt N a.toNat).kind = 1 ∧ ¬ (nAt N a.toNat).kind = 2 ∧ x.2 = 0)) ?_ ?_ ?_ ?_ ?_ h
  · intro k u N a _ h; have h3 := h.2.2.1; exact .inr (.inr ⟨by omega, by omega, rfl⟩)
  · intro k t u x N a _ h _ _; have h3 := h.2.2.1; exact .inr (.inr ⟨by omega, by omega, rfl⟩)
  · intro k o u c x N a _ _ _ ih; exact ih
  · intro k u t v x y N a _ _ h _ _ _ _; exact .inr (.inl ⟨h.2.2.1, rfl⟩)
  · intro k u t v x y N a _ _ h _ _ _ _; exact .inl ⟨h.2.2.1, rfl⟩

theorem side_gr {k : Nat} {u : Toks} {x : Bs × Int} {N : List PNode} {a : Int} (hr : Gr k u x N a) {f : Nat → WSt → WSt} (hf : ∀ st, f a.toNat st = wPut x.1 st) (st : WSt) : sideW N f a.toNat st = wPut (if x.2 = 2 then brk x.1 else x.1) st := by
  unfold sideW
  rcases hr.kind with ⟨h1, h2⟩ | ⟨h1, h2⟩ | ⟨h1, _, h2⟩
  · rw [if_pos h1, if_pos h2, hf, wPut_brk]
  · rw [if_neg (by omega), if_neg (by omega), hf]
  · rw [if_neg h1, if_neg (by omega), hf]
theorem neg_gr {k : Nat} {u : Toks} {x : Bs × Int} {N : List PNode} {a : Int} (hr : Gr k u x N a) {f : Nat → WSt → WSt} (hf : ∀ st, f a.toNat st = wPut x.1 st) (st : WSt) : negW N f a.toNat st = wPut (if 0 < x.2 then brk x.1 else x.1) st := by
  unfold negW
  rcases hr.kind with ⟨h1, h2⟩ | ⟨h1, h2⟩ | ⟨h1, h3, h2⟩
  · rw [if_pos (.inl h1), if_pos (by omega), hf, wPut_brk]
  · rw [if_pos (.inr h1), if_pos (by omega), hf, wPut_brk]
  · rw [if_neg (by omega), if_neg (by omega), hf]

theorem w_gr {k : Nat} {u : Toks} {x : Bs × Int} {N : List PNode} {a : Int} (h : Gr k u x N a) (m : Nat) (st : WSt) (hm : a.toNat < m) : wNode N m a.toNat st = wPut x.1 st := by
  refine Gr.ind (R := fun _ _ x N a => ∀ (m : Nat) (st : WSt), a.toNat < m → wNode N m a.toNat st = wPut x.1 st) ?_ ?_ ?_ ?_ ?_ h m st hm
  · intro k u N a hk h m st hm
    obtain ⟨m, rfl⟩ : ∃ j, m = j + 1 := ⟨m - 1, by omega⟩
    have h3 := h.2.2.1
    rw [wNode, if_neg (by omega), if_neg (by omega), if_neg (by omega), h.2.2.2.1, putAll_glued hk.1]
  · intro k t u x N a _ h hg ih m st hm
    obtain ⟨m, rfl⟩ : ∃ j, m = j + 1 := ⟨m - 1, by omega⟩
    have h3 := h.2.2.1
    have hb := hg.bound
    have hl := h.2.2.2
    rw [wNode, if_neg (by omega), if_neg (by omega), if_pos h3, neg_gr hg (fun st => ih m st (by omega)), ← wPut_app, negT]
    rfl
  · intro k o u c x N a _ _ _ ih; exact ih
  · intro k u t v x y N a _ _ h hu hv ihu ihv m st hm
    obtain ⟨m, rfl⟩ : ∃ j, m = j + 1 := ⟨m - 1, by omega⟩
    obtain ⟨h1, h2, h3, h4, h5⟩ := h
    have hb := hu.bound
    have hc := hv.bound
    rw [wNode, if_neg (by omega), if_pos h3, side_gr hv (fun st => ihv m st (by omega)), side_gr hu (fun st => ihu m st (by omega)), ← wPut_app, ← wPut_app, andT]
    simp [kAnd]
  · intro k u t v x y N a _ _ h hu hv ihu ihv m st hm
    obtain ⟨m, rfl⟩ : ∃ j, m = j + 1 := ⟨m - 1, by omega⟩
    obtain ⟨h1, h2, h3, h4, h5⟩ := h
    have hb := hu.bound
    have hc := hv.bound
    rw [wNode, if_pos h3, ihu m _ (by omega), ihv m _ (by omega), ← wPut_app, ← wPut_app, orT]
    simp [kOr]

end Go.Proofs.YtnbpdffdnphbeaaGreatDoor

/- Plain facts: tokens that are numbers, and what the program's reader reads of a test. -/
namespace Go.Proofs.YtnbpdffdnphbeaaGreatDoor

theorem so_dig2 {c : UInt8} (h : so c = 2) : 48 ≤ c.toNat ∧ c.toNat ≤ 57 := by
  unfold so sortI at h
  split at h
  · omega
  · split at h
    · omega
    · split at h <;> omega

def valN : Nat → List Nat → Nat
  | a, [] => a
  | a, d :: r => valN (10 * a + d) r
def digs (s : Bs) : List Nat := s.map fun c => c.toNat - 48

theorem valF_cons (a : Int) (c : UInt8) (r : Bs) : valF a (c :: r) = valF (10 * a + ((c.toNat : Int) - 48)) r := rfl

theorem valF_N (s : Bs) : ∀ (a : Nat), (∀ c ∈ s, so c = 2) → valF a s = valN a (digs s) := by
  induction s with
  | nil => intro a _; rfl
  | cons c r ih =>
    intro a h
    have h1 := so_dig2 (h c (List.mem_cons_self ..))
    have h2 := ih (10 * a + (c.toNat - 48)) (fun x hx => h x (List.mem_cons_of_mem _ hx))
    unfold digs at h2 ⊢
    rw [valF_cons, List.map_cons, valN, ← h2]
    congr 1; omega

theorem valN_lt (s : List Nat) : ∀ (a : Nat), (∀ d ∈ s, d ≤ 9) → valN a s + 1 ≤ (a + 1) * 10 ^ s.length := by
  induction s with
  | nil => intro a _; simp [valN]
  | cons d r ih =>
    intro a h
    have h1 := h d (List.mem_cons_self ..)
    rw [valN, List.length_cons, Nat.pow_succ]
    have h2 := ih (10 * a + d) (fun x hx => h x (List.mem_cons_of_mem _ hx))
    refine Nat.le_trans h2 ?_
    have h3 : (10 * a + d + 1) ≤ (a + 1) * 10 := by omega
    have h4 := Nat.mul_le_mul_right (10 ^ r.length) h3
    rw [Nat.mul_assoc] at h4
    rw [Nat.mul_comm (10 ^ r.length) 10]; exact h4

theorem digs_le (s : Bs) (h : ∀ c ∈ s, so c = 2) : ∀ d ∈ digs s, d ≤ 9 := by
  intro d hd
  unfold digs at hd
  obtain ⟨c, hc, rfl⟩ := List.mem_map.1 hd
  have h1 := so_dig2 (h c hc)
  omega

theorem dec_snoc {u d : Nat} (h : 1 ≤ u) (hd : d < 10) : Lib.decDigits (10 * u + d) = Lib.decDigits u ++ [UInt8.ofNat (48 + d)] := by
  rw [Lib.decDigits, dif_neg (by omega), show (10 * u + d) / 10 = u by omega, show (10 * u + d) % 10 = d by omega]

theorem byte_back {c : UInt8} (h : 48 ≤ c.toNat) : UInt8.ofNat (48 + (c.toNat - 48)) = c := by
  rw [show 48 + (c.toNat - 48) = c.toNat by omega]; simp

theorem dec_val (s : List Nat) : ∀ (a : Nat), 1 ≤ a → (∀ d ∈ s, d ≤ 9) → Lib.decDigits (valN a s) = Lib.decDigits a ++ s.map (fun d => UInt8.ofNat (48 + d)) := by
  induction s with
  | nil => intro a _ _; simp [valN]
  | cons d r ih =>
    intro a ha h
    have h1 := h d (List.mem_cons_self ..)
    rw [valN, ih _ (by omega) (fun x hx => h x (List.mem_cons_of_mem _ hx)), dec_snoc ha (by omega)]
    simp

theorem digs_back (s : Bs) (h : ∀ c ∈ s, so c = 2) : (digs s).map (fun d => UInt8.ofNat (48 + d)) = s := by
  induction s with
  | nil => rfl
  | cons c r ih =>
    have h1 := so_dig2 (h c (List.mem_cons_self ..))
    have h2 := ih (fun x hx => h x (List.mem_cons_of_mem _ hx))
    unfold digs at h2 ⊢
    rw [List.map_cons, List.map_cons, h2, byte_back h1.1]

/-- What is known of each token. -/
def TokOk (s : Bs) : Prop := s ≠ [] ∧ (so (s.getD 0 0) = 2 → ∀ c ∈ s, so c = 2)

theorem num_ok {s : Bs} (h : TokOk s) (hc : clsB s = numberB) : (0 ≤ valF 0 s ∧ valF 0 s ≤ 9999) ∧ Lib.itoa (valF 0 s) = s := by
  have hk := (cls_number s).2 hc
  unfold pkind at hk
  split at hk
  · split at hk
    · exact absurd hk (by decide)
    · split at hk <;> exact absurd hk (by decide)
  · split at hk
    · rename_i _ h2
      split at hk
      · exact absurd hk (by decide)
      · rename_i h3
        have hd := h.2 h2
        have e := valF_N s 0 hd
        have hl := valN_lt (digs s) 0 (digs_le s hd)
        have hln : (digs s).length = s.length := by simp [digs]
        rw [hln] at hl
        have h4 : s.length ≤ 4 := by omega
        have h5 : 10 ^ s.length ≤ 10 ^ 4 := Nat.pow_le_pow_right (by decide) h4
        refine ⟨⟨by rw [show (0 : Int) = ((0 : Nat) : Int) from rfl, e]; omega, by rw [show (0 : Int) = ((0 : Nat) : Int) from rfl, e]; omega⟩, ?_⟩
        rw [show (0 : Int) = ((0 : Nat) : Int) from rfl, e, Lib.itoa, if_neg (by omega), Int.toNat_natCast]
        have hb := digs_back s hd
        have hle := digs_le s hd
        cases hs : s with
        | nil => exact absurd hs h.1
        | cons c r =>
          rw [hs] at hd hb hle h3
          have h6 := so_dig2 (hd c (List.mem_cons_self ..))
          have ed : digs (c :: r) = (c.toNat - 48) :: digs r := by unfold digs; rw [List.map_cons]
          rw [ed] at hb hle ⊢
          rw [valN]
          generalize hz : c.toNat - 48 = z at hb hle ⊢
          by_cases hz0 : z = 0
          · have hc0 : c = 48 := by
              apply UInt8.toNat_inj.1; show c.toNat = 48; omega
            have hr : r = [] := by
              cases r with
              | nil => rfl
              | cons x y => exact absurd (Or.inr ⟨by simp, by simpa using hc0⟩) h3
            subst hr
            rw [hz0, hc0]
            show Lib.decDigits 0 = [48]
            rw [Lib.decDigits, dif_pos (by omega)]; rfl
          · rw [dec_val (digs r) _ (by omega) (fun x hx => hle x (List.mem_cons_of_mem _ hx)), Lib.decDigits, dif_pos (by have := hle z (List.mem_cons_self ..); omega), show 10 * 0 + z = z by omega]
            rw [List.map_cons] at hb
            exact hb
    · split at hk <;> exact absurd hk (by decide)

theorem runL_take (k : Int) (l : Bs) : ∀ c ∈ l.take (runL k l), so c = k := by
  induction l with
  | nil => intro c h; simp at h
  | cons x r ih =>
    intro c h
    rw [runL] at h
    split at h
    · rename_i hx
      rw [List.take_succ_cons] at h
      rcases List.mem_cons.1 h with rfl | h
      · exact hx
      · exact ih c h
    · simp at h

theorem pieces_ok (n : Nat) : ∀ (l : Bs) (p : Nat), ∀ t ∈ pieces n l p, TokOk t.2 := by
  induction n with
  | zero => intro l p t h; simp [pieces] at h
  | succ n ih =>
    intro l p t h
    rw [pieces] at h
    split at h
    · simp at h
    · split at h
      · exact ih _ _ t h
      · rename_i h0 _
        rcases List.mem_cons.1 h with rfl | h
        · cases l with
          | nil => exact absurd rfl h0
          | cons c r =>
            have hp := lenB_pos (c :: r)
            obtain ⟨m, hm⟩ : ∃ m, lenB (c :: r) = m + 1 := ⟨lenB (c :: r) - 1, by omega⟩
            simp only [hm, List.take_succ_cons]
            refine ⟨by simp, ?_⟩
            intro hs
            have hs' : so c = 2 := hs
            have e : m = runL 2 r := by
              unfold lenB at hm
              simp only [List.getD_cons_zero, hs', List.drop_succ_cons, List.drop_zero] at hm
              rw [if_neg (by decide)] at hm
              omega
            intro x hx
            rcases List.mem_cons.1 hx with rfl | hx
            · exact hs'
            · exact runL_take 2 r x (by rw [← e]; exact hx)
        · exact ih _ _ t h

def TsOk (ts : Toks) : Prop := ∀ t ∈ ts, TokOk t.2
theorem toksAt_ok (l : Bs) : TsOk (toksAt l 0) := pieces_ok _ _ _

theorem TsOk.at' {ts : Toks} (h : TsOk ts) {i : Nat} (hi : i < ts.length) : TokOk (tA ts i) := by
  unfold tA
  rw [List.getD, List.getElem?_eq_getElem hi]
  exact h _ (List.getElem_mem hi)

theorem cmp_plain : ∀ c ∈ cmpL, plainC c ∧ c.isEmpty = false := by decide

def sFact : Bs := [102, 97, 99, 116]
def sHas : Bs := [104, 97, 115]
def sThan : Bs := [116, 104, 97, 110]
def kAlways : Bs := [97, 108, 119, 97, 121, 115]

theorem comp_f (P : List PT) (i : Nat) : pComp P (i, true) = ([], (i, true)) := by
  unfold pComp
  split <;> rfl

/-- A node that is a test of these tokens. -/
def NodeT (x : PNode) (u : Toks) : Prop := (4 ≤ x.kind ∧ x.kind ≤ 7) ∧ (0 ≤ x.num ∧ x.num ≤ 9999) ∧ (∀ st, wTest x st = putAll u st) ∧ TestT x u

abbrev TT (ts : Toks) (i : Nat) : Nat × Bs := ts.getD i (0, [])

theorem nexts_fact : nexts sFact = [kNot, kOpen, kAlways, sHas, nameB] := by decide
theorem nexts_has : nexts sHas = [nameB] := by decide
theorem nexts_than : nexts sThan = [nameB, numberB] := by decide

theorem than_of {c : Bs} {op : Int} (h : c ∈ cmpL) : nextB sNamed c op = sThan ∧ opn c op = op := by
  simp only [cmpL, List.mem_cons, List.not_mem_nil, or_false] at h
  rcases h with rfl | rfl | rfl | rfl | rfl | rfl <;> exact ⟨rfl, rfl⟩

def TestRes (ts : Toks) (len i : Nat) (op : Int) (r : PNode × St) : Prop :=
  (r.2.2 = true ∧ FA ts len i sFact op = ((cur (pp ts len) r.2.1).p : Int)) ∨
  (r.2.2 = false ∧ i < r.2.1 ∧ r.2.1 ≤ ts.length ∧ FA ts len i sFact op = FA ts len r.2.1 sDone op ∧ ∃ u, ts.drop i = u ++ ts.drop r.2.1 ∧ testOk u ∧ NodeT r.1 u ∧ Needs u (nodeN r.1))

theorem cmp_noname : ∀ c ∈ cmpL, c ≠ nameB ∧ c ≠ [104, 97, 115] := by decide
theorem needK_2 {p nx : Bs} (hp : p ≠ [104, 97, 115]) (h : p ∈ cmpL ∨ nx ∈ cmpL) : needK p nx = 2 := by unfold needK; rw [if_neg hp, if_pos h]
theorem needK_3 {p nx : Bs} (hp : neut p) (h : nx ∉ cmpL) : needK p nx = 3 := by unfold needK; rw [if_neg hp.1, if_neg (by rintro (h' | h'); exact hp.2 h'; exact h h')]

theorem test_sim {ts : Toks} {len i : Nat} (hts : TsOk ts) (h : i ≤ ts.length) (op : Int) (hn : cA ts i ≠ kNot) (ho : cA ts i ≠ kOpen) : TestRes ts len i op (pTest (pp ts len) (i, false)) := by
  rcases skip_c (len := len) h (t := kAlways) (by decide) with ⟨hc, hi, e⟩ | ⟨hc, e⟩
  · have hw := (cA_kw (by decide) hc).2
    have e' : pTest (pp ts len) (i, false) = (⟨4, 0, 0, [], [], [], 0⟩, (i + 1, false)) := by
      unfold kAlways at e; simp only [pTest, e]
    rw [e']
    refine .inr ⟨rfl, Nat.lt_succ_self _, hi, FA_go hi hc rfl (by decide) rfl, [TT ts i], drop_consT ts i hi, ⟨by simp, ?_⟩, ⟨by simp, by simp, ?_, .inl ⟨rfl, _, rfl, hc⟩⟩, ?_⟩
    · intro t ht; obtain rfl := List.mem_singleton.1 ht
      show plainC (cA ts i); rw [hc]; decide
    · intro st; show wPut _ st = wPut (tA ts i) st; rw [hw]; rfl
    · intro p nx _ _
      have h8 : clsB (TT ts i).2 = kAlways := hc
      rw [needG, h8, if_neg (by decide), needG]; rfl
  unfold kAlways at e
  rcases skip_c (len := len) h (t := sHas) (by decide) with ⟨hc2, hi, e2⟩ | ⟨hc2, e2⟩
  · have hw := (cA_kw (by decide) hc2).2
    unfold sHas at e2
    have hf : FA ts len i sFact op = FA ts len (i + 1) sHas op := FA_go hi hc2 rfl (by decide) rfl
    rcases name_c (len := len) (show i + 1 ≤ ts.length from hi) with ⟨hc3, hi3, e3⟩ | ⟨hc3, e3⟩
    · have e' : pTest (pp ts len) (i, false) = (⟨5, 0, 0, tA ts (i + 1), [], [], 0⟩, (i + 1 + 1, false)) := by
        simp only [pTest, e, e2, e3]
      rw [e']
      refine .inr ⟨rfl, (by show i < i + 1 + 1; omega), hi3, hf.trans (FA_go hi3 hc3 rfl (by decide) rfl), [TT ts i, TT ts (i + 1)], ?_, ⟨by simp, ?_⟩, ⟨by simp, by simp, ?_, .inr (.inl ⟨rfl, _, _, rfl, hc2, hc3, rfl⟩)⟩, ?_⟩
      · rw [drop_consT ts i hi, drop_consT ts (i + 1) hi3]; rfl
      · intro t ht
        simp only [List.mem_cons, List.not_mem_nil, or_false] at ht
        rcases ht with rfl | rfl
        · show plainC (cA ts i); rw [hc2]; decide
        · show plainC (cA ts (i + 1)); rw [hc3]; decide
      · intro st; show wPut _ (wPut _ st) = wPut (tA ts (i + 1)) (wPut (tA ts i) st); rw [hw]; rfl
      · intro p nx _ _
        have h8 : clsB (TT ts i).2 = sHas := hc2
        have h9 : clsB (TT ts (i + 1)).2 = nameB := hc3
        rw [needG, h8, if_neg (by decide), needG, h9, if_pos rfl, needG]
        show [] ++ ([(needK sHas nx, tA ts (i + 1))] ++ []) = _
        rw [show needK sHas nx = 1 from if_pos rfl]; rfl
    · have e' : (pTest (pp ts len) (i, false)).2 = (i + 1, true) := by
        simp only [pTest, e, e2, e3]
      refine .inl ⟨by rw [e'], ?_⟩
      rw [e', hf]
      exact FA_bad hi (next_none (by decide) (by decide) (by rw [nexts_has]; simpa using hc3)) (.inr (by decide))
  unfold sHas at e2
  rcases name_c (len := len) h with ⟨hc3, hi3, e3⟩ | ⟨hc3, e3⟩
  · have hf : FA ts len i sFact op = FA ts len (i + 1) sNamed op := FA_go hi3 hc3 rfl (by decide) rfl
    rcases comp_c (len := len) (show i + 1 ≤ ts.length from hi3) with ⟨hc4, hi4, hw4, e4⟩ | ⟨hc4, e4⟩
    · obtain ⟨n1, n2⟩ := than_of (op := op) hc4
      obtain ⟨q1, q2⟩ := cmp_plain _ hc4
      have hf2 : FA ts len i sFact op = FA ts len (i + 1 + 1) sThan op := hf.trans (FA_go hi4 rfl n1 (by decide) n2)
      have hi5 : i + 1 + 1 ≤ ts.length := hi4
      rcases number_c (len := len) hi5 with ⟨hc6, hi6, e6⟩ | ⟨hc6, e6⟩
      · have e5 := isNum_c (len := len) hi5 false
        rw [decide_eq_true hc6] at e5
        have e' : pTest (pp ts len) (i, false) = (⟨7, 0, 0, tA ts i, cA ts (i + 1), [], valF 0 (tA ts (i + 1 + 1))⟩, (i + 1 + 1 + 1, false)) := by
          simp only [pTest, e, e2, e3, e4, q2, e5, e6]
        obtain ⟨v1, v2⟩ := num_ok (hts.at' hi6) hc6
        rw [e']
        refine .inr ⟨rfl, (by show i < i + 1 + 1 + 1; omega), hi6, hf2.trans (FA_go hi6 hc6 rfl (by decide) rfl), [TT ts i, TT ts (i + 1), TT ts (i + 1 + 1)], ?_, ⟨by simp, ?_⟩, ⟨by simp, v1, ?_, .inr (.inr (.inr ⟨rfl, _, _, _, rfl, hc3, rfl, (by show tA ts (i + 1) ∈ cmpL; rw [hw4]; exact hc4), hw4.symm, .inl ⟨hc6, rfl, rfl⟩⟩))⟩, ?_⟩
        · rw [drop_consT ts i hi3, drop_consT ts (i + 1) hi4, drop_consT ts (i + 1 + 1) hi6]; rfl
        · intro t ht
          simp only [List.mem_cons, List.not_mem_nil, or_false] at ht
          rcases ht with rfl | rfl | rfl
          · show plainC (cA ts i); rw [hc3]; decide
          · exact q1
          · show plainC (cA ts (i + 1 + 1)); rw [hc6]; decide
        · intro st
          show wNum (valF 0 (tA ts (i + 1 + 1))) (wPut (cA ts (i + 1)) (wPut (tA ts i) st)) = wPut (tA ts (i + 1 + 1)) (wPut (tA ts (i + 1)) (wPut (tA ts i) st))
          rw [wNum, v2, hw4]
        · intro p nx hp _
          have h7 : clsB (TT ts i).2 = nameB := hc3
          have h8 : clsB (TT ts (i + 1)).2 ≠ nameB := (cmp_noname _ hc4).1
          have h9 : clsB (TT ts (i + 1 + 1)).2 = numberB := hc6
          rw [needG, h7, if_pos rfl, needG, if_neg h8, needG, h9, if_neg (by decide), needG]
          show [(needK p (cA ts (i + 1)), tA ts i)] ++ ([] ++ ([] ++ [])) = _
          rw [needK_2 hp.1 (.inr hc4)]; rfl
      · have e5 := isNum_c (len := len) hi5 false
        rw [decide_eq_false hc6] at e5
        rcases name_c (len := len) hi5 with ⟨hc7, hi7, e7⟩ | ⟨hc7, e7⟩
        · have e' : pTest (pp ts len) (i, false) = (⟨7, 0, 0, tA ts i, cA ts (i + 1), tA ts (i + 1 + 1), 0⟩, (i + 1 + 1 + 1, false)) := by
            simp only [pTest, e, e2, e3, e4, q2, e5, e7]
          have hne : (tA ts (i + 1 + 1)).isEmpty = false := by
            have := (hts.at' hi7).1
            cases hx : tA ts (i + 1 + 1) with
            | nil => exact absurd hx this
            | cons a b => rfl
          rw [e']
          refine .inr ⟨rfl, (by show i < i + 1 + 1 + 1; omega), hi7, hf2.trans (FA_go hi7 hc7 rfl (by decide) rfl), [TT ts i, TT ts (i + 1), TT ts (i + 1 + 1)], ?_, ⟨by simp, ?_⟩, ⟨by simp, by simp, ?_, .inr (.inr (.inr ⟨rfl, _, _, _, rfl, hc3, rfl, (by show tA ts (i + 1) ∈ cmpL; rw [hw4]; exact hc4), hw4.symm, .inr ⟨hc7, rfl, (hts.at' hi7).1⟩⟩))⟩, ?_⟩
          · rw [drop_consT ts i hi3, drop_consT ts (i + 1) hi4, drop_consT ts (i + 1 + 1) hi7]; rfl
          · intro t ht
            simp only [List.mem_cons, List.not_mem_nil, or_false] at ht
            rcases ht with rfl | rfl | rfl
            · show plainC (cA ts i); rw [hc3]; decide
            · exact q1
            · show plainC (cA ts (i + 1 + 1)); rw [hc7]; decide
          · intro st
            show wTest ⟨7, 0, 0, tA ts i, cA ts (i + 1), tA ts (i + 1 + 1), 0⟩ st = wPut (tA ts (i + 1 + 1)) (wPut (tA ts (i + 1)) (wPut (tA ts i) st))
            rw [hw4]
            unfold wTest
            simp only [hne]
            rfl
          · intro p nx hp _
            have h7 : clsB (TT ts i).2 = nameB := hc3
            have h8 : clsB (TT ts (i + 1)).2 ≠ nameB := (cmp_noname _ hc4).1
            have h9 : clsB (TT ts (i + 1 + 1)).2 = nameB := hc7
            rw [needG, h7, if_pos rfl, needG, if_neg h8, needG, h9, if_pos rfl, needG]
            show [(needK p (cA ts (i + 1)), tA ts i)] ++ ([] ++ ([(needK (cA ts (i + 1)) nx, tA ts (i + 1 + 1))] ++ [])) = (2, tA ts i) :: (if tA ts (i + 1 + 1) = [] then [] else [(2, tA ts (i + 1 + 1))])
            rw [needK_2 hp.1 (.inr hc4), needK_2 (cmp_noname _ hc4).2 (.inl hc4), if_neg (hts.at' hi7).1]; rfl
        · have e' : (pTest (pp ts len) (i, false)).2 = (i + 1 + 1, true) := by
            simp only [pTest, e, e2, e3, e4, q2, e5, e7]
          refine .inl ⟨by rw [e'], ?_⟩
          rw [e', hf2]
          exact FA_bad hi5 (next_none (by decide) (by decide) (by rw [nexts_than]; simp [hc6, hc7])) (.inr (by decide))
    · have e' : pTest (pp ts len) (i, false) = (⟨6, 0, 0, tA ts i, [], [], 0⟩, (i + 1, false)) := by
        simp only [pTest, e, e2, e3, e4, List.isEmpty_nil]
      rw [e']
      refine .inr ⟨rfl, Nat.lt_succ_self _, hi3, hf.trans (FA_named hc4), [TT ts i], drop_consT ts i hi3, ⟨by simp, ?_⟩, ⟨by simp, by simp, ?_, .inr (.inr (.inl ⟨rfl, _, rfl, hc3, rfl⟩))⟩, ?_⟩
      · intro t ht; obtain rfl := List.mem_singleton.1 ht
        show plainC (cA ts i); rw [hc3]; decide
      · intro st; rfl
      · intro p nx hp hx
        have h7 : clsB (TT ts i).2 = nameB := hc3
        rw [needG, h7, if_pos rfl, needG]
        show [(needK p nx, tA ts i)] ++ [] = _
        rw [needK_3 hp hx]; rfl
  · have e' : (pTest (pp ts len) (i, false)).2 = (i, true) := by
      simp only [pTest, e, e2, e3, comp_f, List.isEmpty_nil]
    refine .inl ⟨by rw [e'], ?_⟩
    rw [e']
    exact FA_bad h (next_none (by decide) (by decide) (by rw [nexts_fact]; simp [hn, ho, hc, hc2, hc3])) (.inr (by decide))

end Go.Proofs.YtnbpdffdnphbeaaGreatDoor

/- Plain facts: what the program's reader reads of a guard. -/
namespace Go.Proofs.YtnbpdffdnphbeaaGreatDoor

theorem nAt_last (N : List PNode) (z : PNode) : nAt (N ++ [z]) N.length = z := by
  unfold nAt; simp [List.getD]

def okNode (z : PNode) (a : Int) : Prop :=
  (z.kind = 1 → 0 ≤ z.left ∧ z.left < a ∧ 0 ≤ z.right ∧ z.right < a) ∧
  (z.kind = 2 → 0 ≤ z.left ∧ z.left < a ∧ 0 ≤ z.right ∧ z.right < a) ∧
  (z.kind = 3 → 0 ≤ z.left ∧ z.left < a) ∧
  (¬ z.kind = 1 → ¬ z.kind = 2 → ¬ z.kind = 3 → (4 ≤ z.kind ∧ z.kind ≤ 7) ∧ 0 ≤ z.num ∧ z.num ≤ 9999)

theorem GoodN.add {N : List PNode} {z : PNode} (h : GoodN N) (hz : okNode z N.length) : GoodN (N ++ [z]) := by
  intro a ha
  rcases Nat.lt_or_ge a N.length with h1 | h1
  · rw [nAt_app h1]; exact h a h1
  · have e : a = N.length := by rw [List.length_append, List.length_singleton] at ha; omega
    subst e
    rw [nAt_last]; exact hz

theorem goodN_nil : GoodN [] := by intro a ha; exact absurd ha (by simp)

/-- A guard's weight, whatever the fuel. -/
def WtIs (u : Toks) (y : Int × Int) : Prop := ∀ n, u.length < n → weightG n u = y
theorem wt_test {u : Toks} (h : testOk u) : WtIs u (1, 0) := by
  intro n hn
  obtain ⟨n, rfl⟩ : ∃ m, n = m + 1 := ⟨n - 1, by omega⟩
  have e1 : outB u kOr = -1 := test_out kOr (.inl rfl) u h.2 0 0 (-1)
  have e2 : outB u kAnd = -1 := test_out kAnd (.inr rfl) u h.2 0 0 (-1)
  have hp : plainC (clsB (u.getD 0 (0, [])).2) := by
    obtain ⟨h1, h2⟩ := h
    cases u with
    | nil => exact absurd rfl h1
    | cons t r => exact h2 t (List.mem_cons_self ..)
  rw [weightG, e1, e2, if_neg (by omega), if_neg (by omega), if_neg hp.2.2.2.2.2, if_neg hp.2.2.2.1]
theorem wt_neg {t : Nat × Bs} {u : Toks} {x : Bs × Int} {N : List PNode} {a : Int} {y : Int × Int} (h1 : clsB t.2 = kNot) (hW : Gr 0 (t :: u) x N a) (hy : WtIs u y) : WtIs (t :: u) (y.1, y.2 + 1) := by
  intro n hn
  obtain ⟨n, rfl⟩ : ∃ m, n = m + 1 := ⟨n - 1, by omega⟩
  have e1 : outB (t :: u) kOr = -1 := hW.out0 kOr (.inl rfl) 0 (-1)
  have e2 : outB (t :: u) kAnd = -1 := hW.out0 kAnd (.inr rfl) 0 (-1)
  have hc : clsB ((t :: u).getD 0 (0, [])).2 = kNot := h1
  rw [weightG, e1, e2, if_neg (by omega), if_neg (by omega), if_pos hc]
  simp only [List.drop_succ_cons, List.drop_zero, hy n (by simp at hn; omega)]
theorem wt_br {o c : Nat × Bs} {u : Toks} {x : Bs × Int} {N : List PNode} {a : Int} {k : Nat} {y : Int × Int} (h1 : clsB o.2 = kOpen) (h2 : clsB c.2 = kShut) (h3 : Gr k u x N a) (hy : WtIs u y) : WtIs (o :: (u ++ [c])) (y.1, y.2 + 1) := by
  intro n hn
  obtain ⟨n, rfl⟩ : ∃ m, n = m + 1 := ⟨n - 1, by omega⟩
  have e1 : outB (o :: (u ++ [c])) kOr = -1 := br_out kOr (.inl rfl) h1 h2 h3 0 (-1)
  have e2 : outB (o :: (u ++ [c])) kAnd = -1 := br_out kAnd (.inr rfl) h1 h2 h3 0 (-1)
  have hc : clsB ((o :: (u ++ [c])).getD 0 (0, [])).2 = kOpen := h1
  have hc' : ¬ clsB ((o :: (u ++ [c])).getD 0 (0, [])).2 = kNot := by rw [hc]; decide
  rw [weightG, e1, e2, if_neg (by omega), if_neg (by omega), if_neg hc', if_pos hc]
  have e3 : ((o :: (u ++ [c])).drop 1).take ((o :: (u ++ [c])).length - 2) = u := by simp
  rw [e3, hy n (by simp at hn; omega)]
theorem wt_and {u v : Toks} {t : Nat × Bs} {x y : Bs × Int} {N : List PNode} {a b : Int} {p q : Int × Int} (h2 : clsB t.2 = kAnd) (h4 : Gr 1 u x N a) (h5 : Gr 0 v y N b) (hp : WtIs u p) (hq : WtIs v q) : WtIs (u ++ t :: v) (wtJoin p q) := by
  intro n hn
  obtain ⟨n, rfl⟩ : ∃ m, n = m + 1 := ⟨n - 1, by omega⟩
  have e1 : outB (u ++ t :: v) kOr = -1 := by
    unfold outB
    rw [outG_app, h4.op, outG, h2, opn_and, if_neg (by rintro ⟨_, h⟩; exact absurd h (by decide)), h5.out1 (by decide), h4.out1 (Nat.le_refl _)]
  have e2 : outB (u ++ t :: v) kAnd = u.length := by
    unfold outB
    rw [outG_app, h4.op, outG, h2, opn_and, if_pos ⟨rfl, rfl⟩, h5.out0 kAnd (.inr rfl)]; omega
  have hl : (u ++ t :: v).length = u.length + 1 + v.length := by simp; omega
  have t1 : (u ++ t :: v).take u.length = u := by simp
  have t2 : (u ++ t :: v).drop (u.length + 1) = v := by simp
  rw [weightG, e1, e2, if_neg (by omega), if_pos (Int.natCast_nonneg _), Int.toNat_natCast, t1, t2, hp n (by omega), hq n (by omega)]
theorem wt_or {u v : Toks} {t : Nat × Bs} {x y : Bs × Int} {N : List PNode} {a b : Int} {p q : Int × Int} (h2 : clsB t.2 = kOr) (h4 : Gr 2 u x N a) (h5 : Gr 1 v y N b) (hp : WtIs u p) (hq : WtIs v q) : WtIs (u ++ t :: v) (wtJoin p q) := by
  intro n hn
  obtain ⟨n, rfl⟩ : ∃ m, n = m + 1 := ⟨n - 1, by omega⟩
  have e2 : outB (u ++ t :: v) kOr = u.length := by
    unfold outB
    rw [outG_app, h4.op, outG, h2, opn_or, if_pos ⟨rfl, rfl⟩, h5.out1 (Nat.le_refl _)]; omega
  have hl : (u ++ t :: v).length = u.length + 1 + v.length := by simp; omega
  have t1 : (u ++ t :: v).take u.length = u := by simp
  have t2 : (u ++ t :: v).drop (u.length + 1) = v := by simp
  rw [weightG, e2, if_pos (Int.natCast_nonneg _), Int.toNat_natCast, t1, t2, hp n (by omega), hq n (by omega)]

/-- What the reader has counted behind some tokens: tests, depth, names. -/
def Wt (q : GS) (d : Int) (q' : GS) (u : Toks) : Prop :=
  ∃ y L, WtIs u y ∧ 0 ≤ y.2 ∧ q'.tests = q.tests + y.1 ∧ (q.dep ≤ q'.dep ∧ d + y.2 ≤ q'.dep ∧ (q'.dep = q.dep ∨ q'.dep = d + y.2)) ∧ Needs u L ∧ needsN q'.nd = needsN q.nd ++ L

/-- What reading a guard, or a piece of one, comes to. -/
def GRes (ts : Toks) (len k i : Nat) (op d : Int) (q : GS) (r : Int × GS) : Prop :=
  (r.2.s.2 = true ∧ FA ts len i sFact op = ((cur (pp ts len) r.2.s.1).p : Int)) ∨
  (r.2.s.2 = false ∧ i < r.2.s.1 ∧ r.2.s.1 ≤ ts.length ∧ FA ts len i sFact op = FA ts len r.2.s.1 sDone op ∧ (∃ M, r.2.nd = q.nd ++ M) ∧ GoodN r.2.nd ∧
    (1 ≤ k → cA ts r.2.s.1 ≠ kAnd) ∧ (2 ≤ k → cA ts r.2.s.1 ≠ kOr) ∧
    ∃ u x, Gr k u x r.2.nd r.1 ∧ ts.drop i = u ++ ts.drop r.2.s.1 ∧ Wt q d r.2 u)

theorem loop_fail (P : List PT) (item : GS → Int × GS) (tok : Bs) (kind : Int) (k : Nat) (left : Int) (q : GS) (h : q.s.2 = true) : (loopB P item tok kind k left q).2.s = q.s := by
  cases k with
  | zero => rfl
  | succ k =>
    obtain ⟨⟨i, f⟩, nd, te, de⟩ := q
    obtain rfl : f = true := h
    rw [loopB]
    rfl

/-- A word, its node's kind, and what it joins. -/
structure Joins (tok : Bs) (kind : Int) (j : Nat) : Prop where
  kw : tok ∈ kwL
  next : ∀ op, nextB sDone tok op = sFact
  opn : ∀ op, opn tok op = op
  node : ∀ a l r, 0 ≤ l → l < a → 0 ≤ r → r < a → okNode ⟨kind, l, r, [], [], [], 0⟩ a
  make : ∀ N u t v x y l r, clsB t.2 = tok → l < (N.length : Int) → r < (N.length : Int) → Gr (j + 1) u x (N ++ [⟨kind, l, r, [], [], [], 0⟩]) l → Gr j v y (N ++ [⟨kind, l, r, [], [], [], 0⟩]) r →
    ∃ z, Gr (j + 1) (u ++ t :: v) z (N ++ [⟨kind, l, r, [], [], [], 0⟩]) N.length
  wt : ∀ u t v x y N a b p q, clsB t.2 = tok → Gr (j + 1) u x N a → Gr j v y N b → WtIs u p → WtIs v q → WtIs (u ++ t :: v) (wtJoin p q)
  neut : tok ≠ nameB ∧ neut tok
  kind : kind = 1 ∨ kind = 2
  exits : ∀ c, c ≠ tok → (1 ≤ j → c ≠ kAnd) → (1 ≤ j + 1 → c ≠ kAnd) ∧ (2 ≤ j + 1 → c ≠ kOr)

theorem bin_last (kind l r : Int) (N : List PNode) (hl : l < (N.length : Int)) (hr : r < (N.length : Int)) : BinN kind (N ++ [⟨kind, l, r, [], [], [], 0⟩]) N.length ∧ lf (N ++ [⟨kind, l, r, [], [], [], 0⟩]) N.length = l ∧ rg (N ++ [⟨kind, l, r, [], [], [], 0⟩]) N.length = r := by
  have e : nAt (N ++ [⟨kind, l, r, [], [], [], 0⟩]) (N.length : Int).toNat = ⟨kind, l, r, [], [], [], 0⟩ := by rw [Int.toNat_natCast]; exact nAt_last _ _
  have el : lf (N ++ [⟨kind, l, r, [], [], [], 0⟩]) N.length = l := by unfold lf; rw [e]
  have er : rg (N ++ [⟨kind, l, r, [], [], [], 0⟩]) N.length = r := by unfold rg; rw [e]
  exact ⟨⟨by omega, by simp only [List.length_append, List.length_singleton]; omega, by rw [e], by rw [el]; exact hl, by rw [er]; exact hr⟩, el, er⟩

theorem joins_and : Joins kAnd 2 0 := {
  kw := by decide
  next := fun op => by rw [next_done, if_neg (by rintro (⟨h, _⟩ | ⟨h, _⟩) <;> exact absurd h (by decide))]; decide
  opn := opn_and
  node := fun a l r h1 h2 h3 h4 => ⟨fun e => absurd (show (2 : Int) = 1 from e) (by decide), fun _ => ⟨h1, h2, h3, h4⟩, fun e => absurd (show (2 : Int) = 3 from e) (by decide), fun _ e => absurd rfl e⟩
  make := fun N u t v x y l r hc hl hr h1 h2 => by
    obtain ⟨hb, el, er⟩ := bin_last 2 l r N hl hr
    exact ⟨andT x y, grCl.and _ _ _ _ _ _ _ _ (Nat.le_refl _) hc hb (by rw [el]; exact h1) (by rw [er]; exact h2)⟩
  wt := fun u t v x y N a b p q h1 h2 h3 => wt_and h1 h2 h3
  neut := ⟨by decide, by decide, by decide⟩
  kind := .inr rfl
  exits := fun c h _ => ⟨fun _ => h, fun h => absurd h (by decide)⟩ }

theorem joins_or : Joins kOr 1 1 := {
  kw := by decide
  next := fun op => by rw [next_done, if_neg (by rintro (⟨h, _⟩ | ⟨h, _⟩) <;> exact absurd h (by decide))]; decide
  opn := opn_or
  node := fun a l r h1 h2 h3 h4 => ⟨fun _ => ⟨h1, h2, h3, h4⟩, fun e => absurd (show (1 : Int) = 2 from e) (by decide), fun e => absurd (show (1 : Int) = 3 from e) (by decide), fun e => absurd rfl e⟩
  make := fun N u t v x y l r hc hl hr h1 h2 => by
    obtain ⟨hb, el, er⟩ := bin_last 1 l r N hl hr
    exact ⟨orT x y, grCl.or _ _ _ _ _ _ _ _ (Nat.le_refl _) hc hb (by rw [el]; exact h1) (by rw [er]; exact h2)⟩
  wt := fun u t v x y N a b p q h1 h2 h3 => wt_or h1 h2 h3
  neut := ⟨by decide, by decide, by decide⟩
  kind := .inl rfl
  exits := fun c h h2 => ⟨fun _ => h2 (by decide), fun _ => h⟩ }

theorem loop_sim {ts : Toks} {len n j i : Nat} {op d : Int} {q0 : GS} {tok : Bs} {kind : Int} {item : GS → Int × GS} (J : Joins tok kind j)
    (hitem : ∀ (q : GS) (i : Nat), q.s = (i, false) → i ≤ ts.length → ts.length + 1 - i ≤ n → GoodN q.nd → GRes ts len j i op d q (item q)) (k : Nat) :
    ∀ (left : Int) (q : GS) (i' : Nat) (u : Toks) (x : Bs × Int), q.s = (i', false) → i < i' → i' ≤ ts.length → ts.length + 1 - i' ≤ n → ts.length + 1 - i' ≤ k → FA ts len i sFact op = FA ts len i' sDone op → (∃ M, q.nd = q0.nd ++ M) → GoodN q.nd →
      (1 ≤ j → cA ts i' ≠ kAnd) → Gr (j + 1) u x q.nd left → ts.drop i = u ++ ts.drop i' → Wt q0 d q u → GRes ts len (j + 1) i op d q0 (loopB (pp ts len) item tok kind k left q) := by
  induction k with
  | zero => intro left q i' u x _ _ h1 _ h2; omega
  | succ k ih =>
    intro left q i' u x hq hlt hle hn hk hf hM hg hx1 hr hd hwt
    rw [loopB, hq]
    rcases skip_c (len := len) hle J.kw with ⟨hc, hi, e⟩ | ⟨hc, e⟩
    · rw [e]
      simp only
      have hf2 : FA ts len i sFact op = FA ts len (i' + 1) sFact op := hf.trans (FA_go hi hc (J.next op) (by decide) (J.opn op))
      have hI := hitem (q.to (i' + 1, false)) (i' + 1) rfl hi (by omega) hg
      generalize item (q.to (i' + 1, false)) = r at hI ⊢
      rcases hI with ⟨h1, h2⟩ | ⟨h1, h2, h3, h4, ⟨M, h5⟩, h6, h7, h8, v, y, h9, h10, h11⟩
      · obtain ⟨a, ⟨⟨s1, s2⟩, nd, te, de⟩⟩ := r
        simp only at h1
        subst h1
        refine .inl ⟨?_, ?_⟩
        · rw [loop_fail _ _ _ _ _ _ _ rfl]; rfl
        · rw [loop_fail _ _ _ _ _ _ _ rfl, hf2]; exact h2
      · obtain ⟨M0, hM⟩ := hM
        obtain ⟨a, ⟨⟨s1, s2⟩, nd, te, de⟩⟩ := r
        simp only [GS.to] at h1 h2 h3 h4 h5 h6 h7 h8 h9 h10
        subst h1
        have bl := (hr.ext M).bound
        rw [← h5] at bl
        have br := h9.bound
        have rl : Gr (j + 1) u x (nd ++ [⟨kind, left, a, [], [], [], 0⟩]) left := by
          have := hr.ext (M ++ [⟨kind, left, a, [], [], [], 0⟩])
          rw [← List.append_assoc, ← h5] at this; exact this
        obtain ⟨z, hz⟩ := J.make nd u (TT ts i') v x y left a hc bl.2 br.2 rl (h9.ext _)
        refine ih _ _ s1 (u ++ TT ts i' :: v) z rfl (by omega) h3 (by omega) (by omega) (hf2.trans h4) ⟨M0 ++ M ++ [⟨kind, left, a, [], [], [], 0⟩], ?_⟩ ?_ h7 hz ?_ ?_
        · show nd ++ [_] = _
          rw [h5, hM]; simp
        · exact GoodN.add h6 (J.node _ _ _ bl.1 bl.2 br.1 br.2)
        · rw [hd, drop_consT ts i' hi, h10]; simp
        · obtain ⟨y1, L1, w1, w2, w3, w4, w5, w6⟩ := hwt
          obtain ⟨y2, L2, v1, v2, v3, v4, v5, v6⟩ := h11
          have hcls : clsB (TT ts i').2 = tok := hc
          refine ⟨wtJoin y1 y2, L1 ++ L2, J.wt _ _ _ _ _ _ _ _ _ _ hc rl (h9.ext _) w1 v1, ?_, ?_, ?_, w5.join v5 (by rw [hcls]; exact J.neut.1) (by rw [hcls]; exact J.neut.2), ?_⟩
          · simp only [wtJoin]; split <;> omega
          · simp only [GS.to] at v3
            show te = q0.tests + (y1.1 + y2.1)
            omega
          · simp only [GS.to] at v4
            show q0.dep ≤ de ∧ d + (wtJoin y1 y2).2 ≤ de ∧ (de = q0.dep ∨ de = d + (wtJoin y1 y2).2)
            simp only [wtJoin]
            split <;> omega
          · simp only [GS.to] at v6
            show needsN (nd ++ [_]) = _
            have e9 : needsN [⟨kind, left, a, [], [], [], 0⟩] = [] := by rcases J.kind with rfl | rfl <;> rfl
            rw [needsN_app, e9, List.append_nil, v6, w6, List.append_assoc]
    · rw [e]
      simp only
      obtain ⟨e1, e2⟩ := J.exits (cA ts i') hc hx1
      exact .inr ⟨rfl, hlt, hle, hf, hM, hg, e1, e2, u, x, hr, hd, hwt⟩

theorem terms_sim {ts : Toks} {len n : Nat} {op d : Int} {fact : GS → Int → Int × GS}
    (hitem : ∀ (q : GS) (i : Nat), q.s = (i, false) → i ≤ ts.length → ts.length + 1 - i ≤ n → GoodN q.nd → GRes ts len 0 i op d q (fact q d))
    (q : GS) (i : Nat) (hq : q.s = (i, false)) (hi : i ≤ ts.length) (hn : ts.length + 1 - i ≤ n) (hg : GoodN q.nd) : GRes ts len 1 i op d q (termsW (pp ts len) fact q d) := by
  unfold termsW
  have hI := hitem q i hq hi hn hg
  generalize fact q d = r at hI ⊢
  obtain ⟨a, ⟨⟨s1, s2⟩, nd, te, de⟩⟩ := r
  rcases hI with ⟨h1, h2⟩ | ⟨h1, h2, h3, h4, h5, h6, h7, h8, v, y, h9, h10, h11⟩
  · simp only at h1
    subst h1
    refine .inl ⟨?_, ?_⟩
    · rw [loop_fail _ _ _ _ _ _ _ rfl]
    · rw [loop_fail _ _ _ _ _ _ _ rfl]; exact h2
  · simp only at h1 h2 h3 h4 h5 h6 h7 h8 h9 h10
    subst h1
    exact loop_sim joins_and hitem (pp ts len).length a ⟨(s1, false), nd, te, de⟩ s1 v y rfl h2 h3 (by omega) (by rw [pp_len]; omega) h4 h5 h6 (fun h => absurd h (by decide)) (h9.le (by decide)) h10 h11

theorem alt_sim {ts : Toks} {len n : Nat} {op d : Int} {fact : GS → Int → Int × GS}
    (hitem : ∀ (q : GS) (i : Nat), q.s = (i, false) → i ≤ ts.length → ts.length + 1 - i ≤ n → GoodN q.nd → GRes ts len 0 i op d q (fact q d))
    (q : GS) (i : Nat) (hq : q.s = (i, false)) (hi : i ≤ ts.length) (hn : ts.length + 1 - i ≤ n) (hg : GoodN q.nd) : GRes ts len 2 i op d q (altW (pp ts len) fact q d) := by
  unfold altW
  have hI := terms_sim hitem q i hq hi hn hg
  generalize termsW (pp ts len) fact q d = r at hI ⊢
  obtain ⟨a, ⟨⟨s1, s2⟩, nd, te, de⟩⟩ := r
  rcases hI with ⟨h1, h2⟩ | ⟨h1, h2, h3, h4, h5, h6, h7, h8, v, y, h9, h10, h11⟩
  · simp only at h1
    subst h1
    refine .inl ⟨?_, ?_⟩
    · rw [loop_fail _ _ _ _ _ _ _ rfl]
    · rw [loop_fail _ _ _ _ _ _ _ rfl]; exact h2
  · simp only at h1 h2 h3 h4 h5 h6 h7 h8 h9 h10
    subst h1
    exact loop_sim joins_or (fun q i => terms_sim hitem q i) (pp ts len).length a ⟨(s1, false), nd, te, de⟩ s1 v y rfl h2 h3 (by omega) (by rw [pp_len]; omega) h4 h5 h6 (fun _ => h7 (by decide)) (h9.le (by decide)) h10 h11

theorem fact_sim {ts : Toks} {len : Nat} (hts : TsOk ts) (n : Nat) : ∀ (op d : Int), 0 ≤ op → ∀ (q : GS) (i : Nat), q.s = (i, false) → i ≤ ts.length → ts.length + 1 - i ≤ n → GoodN q.nd → GRes ts len 0 i op d q (pFact (pp ts len) n q d) := by
  induction n with
  | zero => intro op d _ q i _ h1 h2; omega
  | succ n ih =>
    intro op d hop q i hq hi hn hg
    rw [pFact, hq]
    rcases skip_c (len := len) hi (t := kNot) (by decide) with ⟨hc, hlt, e⟩ | ⟨hc, e⟩
    · rw [e]
      simp only
      have hf : FA ts len i sFact op = FA ts len (i + 1) sFact op := FA_go hlt hc rfl (by decide) (opn_not op)
      have hI := ih op (d + 1) hop (q.to (i + 1, false)) (i + 1) rfl hlt (by omega) hg
      generalize pFact (pp ts len) n (q.to (i + 1, false)) (d + 1) = r at hI ⊢
      rcases hI with ⟨h1, h2⟩ | ⟨h1, h2, h3, h4, ⟨M, h5⟩, h6, h7, h8, v, y, h9, h10, h11⟩
      · exact .inl ⟨h1, by rw [hf]; exact h2⟩
      · obtain ⟨a, ⟨⟨s1, s2⟩, nd, te, de⟩⟩ := r
        simp only [GS.to] at h1 h2 h3 h4 h5 h6 h7 h8 h9 h10
        subst h1
        have br := h9.bound
        have en : nAt (nd ++ [⟨3, a, 0, [], [], [], 0⟩]) (nd.length : Int).toNat = ⟨3, a, 0, [], [], [], 0⟩ := by rw [Int.toNat_natCast]; exact nAt_last _ _
        have el : lf (nd ++ [⟨3, a, 0, [], [], [], 0⟩]) nd.length = a := by unfold lf; rw [en]
        have hgr : Gr 0 (TT ts i :: v) (negT y) (nd ++ [⟨3, a, 0, [], [], [], 0⟩]) (nd.length : Int) := by
          refine grCl.neg _ _ _ _ _ _ hc ⟨by omega, by simp only [List.length_append, List.length_singleton]; omega, by rw [en], by rw [el]; exact br.2⟩ ?_
          rw [el]; exact h9.ext _
        have hcls : clsB (TT ts i).2 = kNot := hc
        refine .inr ⟨rfl, (by show i < s1; omega), h3, hf.trans h4, ⟨M ++ [⟨3, a, 0, [], [], [], 0⟩], ?_⟩, ?_, fun h => absurd h (by decide), fun h => absurd h (by decide), TT ts i :: v, negT y, hgr, ?_, ?_⟩
        · show nd ++ [_] = _
          rw [h5]; simp
        · exact GoodN.add h6 ⟨fun e => absurd (show (3 : Int) = 1 from e) (by decide), fun e => absurd (show (3 : Int) = 2 from e) (by decide), fun _ => br, fun _ _ e => absurd rfl e⟩
        · show ts.drop i = (TT ts i :: v) ++ ts.drop s1
          rw [drop_consT ts i hlt, h10]; rfl
        · obtain ⟨y2, L2, v1, v2, v3, v4, v5, v6⟩ := h11
          simp only [GS.to] at v3 v4 v6
          refine ⟨(y2.1, y2.2 + 1), L2, wt_neg hc hgr v1, by simp only; omega, v3, ?_, v5.ahead (by rw [hcls]; decide) (by rw [hcls]; exact ⟨by decide, by decide⟩), ?_⟩
          · show q.dep ≤ de ∧ d + (y2.2 + 1) ≤ de ∧ (de = q.dep ∨ de = d + (y2.2 + 1))
            omega
          · show needsN (nd ++ [_]) = _
            rw [needsN_app, v6, show needsN [⟨3, a, 0, [], [], [], 0⟩] = [] from rfl, List.append_nil]
    rw [e]
    simp only
    rcases skip_c (len := len) hi (t := kOpen) (by decide) with ⟨hc2, hlt, e2⟩ | ⟨hc2, e2⟩
    · rw [e2]
      simp only
      have hf : FA ts len i sFact op = FA ts len (i + 1) sFact (op + 1) := FA_go hlt hc2 rfl (by decide) (opn_open op)
      have hI := alt_sim (fun q i => ih (op + 1) (d + 1) (by omega) q i) (q.to (i + 1, false)) (i + 1) rfl hlt (by omega) hg
      generalize altW (pp ts len) (pFact (pp ts len) n) (q.to (i + 1, false)) (d + 1) = r at hI ⊢
      rcases hI with ⟨h1, h2⟩ | ⟨h1, h2, h3, h4, ⟨M, h5⟩, h6, h7, h8, v, y, h9, h10, h11⟩
      · obtain ⟨a, ⟨⟨s1, s2⟩, nd, te, de⟩⟩ := r
        simp only at h1
        subst h1
        exact .inl ⟨rfl, by rw [hf]; exact h2⟩
      · obtain ⟨a, ⟨⟨s1, s2⟩, nd, te, de⟩⟩ := r
        simp only [GS.to] at h1 h2 h3 h4 h5 h6 h7 h8 h9 h10
        subst h1
        simp only [GS.to]
        rcases want_c (len := len) h3 (t := kShut) (by decide) with ⟨hc3, hlt3, e3⟩ | ⟨hc3, e3⟩
        · rw [e3]
          have hnx : nextB sDone kShut (op + 1) = sDone := by
            rw [next_done, if_neg (by rintro (⟨_, h⟩ | ⟨h, _⟩); omega; exact absurd h (by decide))]; decide
          have hf3 := FA_go (len := len) hlt3 hc3 hnx (by decide) (show opn kShut (op + 1) = op by rw [opn_shut]; omega)
          refine .inr ⟨rfl, (by show i < s1 + 1; omega), hlt3, hf.trans (h4.trans hf3), ⟨M, h5⟩, h6, fun h => absurd h (by decide), fun h => absurd h (by decide), TT ts i :: (v ++ [TT ts s1]), y, grCl.br _ _ _ _ _ _ _ hc2 hc3 h9, ?_, ?_⟩
          · show ts.drop i = (TT ts i :: (v ++ [TT ts s1])) ++ ts.drop (s1 + 1)
            rw [drop_consT ts i hlt, h10, drop_consT ts s1 hlt3]; simp
          · obtain ⟨y2, L2, v1, v2, v3, v4, v5, v6⟩ := h11
            simp only [GS.to] at v3 v4 v6
            have ho : clsB (TT ts i).2 = kOpen := hc2
            have hs : clsB (TT ts s1).2 = kShut := hc3
            refine ⟨(y2.1, y2.2 + 1), L2, wt_br hc2 hc3 h9 v1, by simp only; omega, v3, ?_, (v5.behind (by rw [hs]; decide) (by rw [hs]; exact ⟨by decide, by decide⟩)).ahead (by rw [ho]; decide) (by rw [ho]; exact ⟨by decide, by decide⟩), v6⟩
            show q.dep ≤ de ∧ d + (y2.2 + 1) ≤ de ∧ (de = q.dep ∨ de = d + (y2.2 + 1))
            omega
        · rw [e3]
          refine .inl ⟨rfl, ?_⟩
          rw [hf, h4]
          exact FA_bad h3 (done_none (h8 (by decide)) (h7 (by decide)) (fun e => absurd e hc3) (fun _ => by omega)) (.inr (by decide))
    · rw [e2]
      simp only
      have hT := test_sim (len := len) hts hi op hc hc2
      generalize pTest (pp ts len) (i, false) = r at hT ⊢
      obtain ⟨z, ⟨s1, s2⟩⟩ := r
      rcases hT with ⟨h1, h2⟩ | ⟨h1, h2, h3, h4, u, h5, h6, ⟨h7, h8, h9, hTT⟩, h11⟩
      · simp only at h1; subst h1
        exact .inl ⟨rfl, h2⟩
      · simp only at h1 h2 h3 h4 h5 h7 h8 h9; subst h1
        have en : nAt (q.nd ++ [z]) (q.nd.length : Int).toNat = z := by rw [Int.toNat_natCast]; exact nAt_last _ _
        refine .inr ⟨rfl, h2, h3, h4, ⟨[z], rfl⟩, ?_, fun h => absurd h (by decide), fun h => absurd h (by decide), u, (gluedB u, 0), ?_, h5, ?_⟩
        · have hz : okNode z q.nd.length := ⟨fun (e : z.kind = 1) => by omega, fun (e : z.kind = 2) => by omega, fun (e : z.kind = 3) => by omega, fun _ _ _ => ⟨h7, h8⟩⟩
          exact GoodN.add hg hz
        · show Gr 0 u (gluedB u, 0) (q.nd ++ [z]) (q.nd.length : Int)
          refine grCl.test _ _ _ _ h6 ⟨by omega, by simp only [List.length_append, List.length_singleton]; omega, ?_⟩
          rw [en]; exact ⟨h7.1, h9, hTT⟩
        · refine ⟨(1, 0), nodeN z, wt_test h6, by simp, rfl, ?_, h11, ?_⟩
          · show q.dep ≤ (if q.dep < d then d else q.dep) ∧ d + 0 ≤ (if q.dep < d then d else q.dep) ∧ ((if q.dep < d then d else q.dep) = q.dep ∨ (if q.dep < d then d else q.dep) = d + 0)
            split <;> omega
          · show needsN (q.nd ++ [z]) = _
            rw [needsN_app]; simp [needsN]

/-- What reading a guard comes to. -/
theorem guard_sim {ts : Toks} {len i : Nat} (hts : TsOk ts) (hi : i ≤ ts.length) : GRes ts len 2 i 0 0 ⟨(i, false), [], 0, 0⟩ (pGuard (pp ts len) (i, false)) := by
  unfold pGuard pAlt
  exact alt_sim (fun q i => fact_sim hts (pp ts len).length 0 0 (by decide) q i) ⟨(i, false), [], 0, 0⟩ i rfl hi (by rw [pp_len]; omega) goodN_nil

end Go.Proofs.YtnbpdffdnphbeaaGreatDoor
