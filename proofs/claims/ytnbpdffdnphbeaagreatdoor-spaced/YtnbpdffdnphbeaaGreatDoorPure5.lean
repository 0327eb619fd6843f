/- Plain facts: what the program's reader reads of a sum. -/
import Derived.Test.YtnbpdffdnphbeaaGreatDoorPWeight
namespace Go.Proofs.YtnbpdffdnphbeaaGreatDoor

def sPart : Bs := [112, 97, 114, 116]
def sParted : Bs := [112, 97, 114, 116, 101, 100]
def sCounted : Bs := [99, 111, 117, 110, 116, 101, 100]
def sTimes : Bs := [116, 105, 109, 101, 115]

theorem nexts_part : nexts sPart = [nameB, numberB] := by decide
theorem nexts_parted : nexts sParted = [[43], [45], kWhen] := by decide
theorem nexts_counted : nexts sCounted = [[42], [43], [45], kWhen] := by decide
theorem nexts_times : nexts sTimes = [nameB] := by decide

/-- No end of a line, and no when. -/
abbrev midC (c : Bs) : Prop := c ≠ kEnd ∧ c ≠ kWhen

/-- The tokens of a part of a sum, and what it says. -/
def PartT (x : PPart) (v : Toks) : Prop :=
  (∃ a b c, v = [a, b, c] ∧ clsB a.2 = numberB ∧ clsB b.2 = [42] ∧ clsB c.2 = nameB ∧ c.2 ≠ [] ∧ x.starred = true ∧ x.num = valF 0 a.2 ∧ x.name = c.2) ∨
  (∃ a, v = [a] ∧ clsB a.2 = numberB ∧ x.starred = false ∧ x.num = valF 0 a.2 ∧ x.name = []) ∨
  (∃ a, v = [a] ∧ clsB a.2 = nameB ∧ a.2 ≠ [] ∧ x.starred = false ∧ x.num = 0 ∧ x.name = a.2)
/-- The tokens of a sum, and what its parts say. -/
def SumS : Bool → List PPart → Toks → Prop
  | _, [], _ => False
  | m, x :: r, v => x.minus = m ∧ ((r = [] ∧ PartT x v) ∨ ∃ v1 t v2, v = v1 ++ t :: v2 ∧ PartT x v1 ∧ ((clsB t.2 = [45] ∧ SumS true r v2) ∨ (clsB t.2 = [43] ∧ SumS false r v2)))

def PartRes (ts : Toks) (len i : Nat) (m : Bool) (r : PPart × St) : Prop :=
  (r.2.2 = true ∧ FA ts len i sPart 0 = ((cur (pp ts len) r.2.1).p : Int)) ∨
  (r.2.2 = false ∧ i < r.2.1 ∧ r.2.1 ≤ ts.length ∧ (∃ st, (st = sParted ∨ st = sCounted ∧ cA ts r.2.1 ≠ [42]) ∧ FA ts len i sPart 0 = FA ts len r.2.1 st 0) ∧ r.1.minus = m ∧ (0 ≤ r.1.num ∧ r.1.num ≤ 9999) ∧
    ∃ v, ts.drop i = v ++ ts.drop r.2.1 ∧ 0 < v.length ∧ (∀ t ∈ v, midC (clsB t.2)) ∧ (∀ st, wPart r.1 st = putAll v st) ∧ SumT v [r.1] ∧ PartT r.1 v)

theorem sumT_three {a b c : Nat × Bs} (ha : clsB a.2 = numberB) (hb : clsB b.2 = [42]) (hc : clsB c.2 = nameB) (hn : c.2 ≠ []) (m : Bool) : SumT [a, b, c] [⟨m, true, valF 0 a.2, c.2⟩] := by
  refine ⟨?_, ?_, ?_, ?_⟩
  · simp only [needS, ha, hb, hc]
    rw [if_neg (by decide), if_neg (by decide), if_pos trivial]
    simp [partN, hn]
  · simp only [cntPM, ha, hb, hc]
    rw [if_neg (by decide), if_neg (by decide), if_neg (by decide)]; rfl
  · intro p
    simp only [bigG, ha, hb, hc]
    rw [decide_eq_false (by decide : ¬ numberB = [42]), decide_eq_false (by decide : ¬ nameB = [42])]
    simp [partBig]
  · intro k hk h
    have : k = 0 ∨ k = 1 ∨ k = 2 := by simp at hk; omega
    rcases this with rfl | rfl | rfl
    · exact absurd (ha.symm.trans h) (by decide)
    · exact ⟨by decide, ha⟩
    · exact absurd (hc.symm.trans h) (by decide)
theorem sumT_num {a : Nat × Bs} (ha : clsB a.2 = numberB) (m : Bool) : SumT [a] [⟨m, false, valF 0 a.2, []⟩] := by
  refine ⟨?_, ?_, ?_, ?_⟩
  · simp only [needS, ha]; rw [if_neg (by decide)]; simp [partN]
  · simp only [cntPM, ha]; rw [if_neg (by decide)]; rfl
  · intro p; simp only [bigG, ha]; rw [decide_eq_false (by decide : ¬ numberB = [42])]; simp [partBig]
  · intro k hk h
    obtain rfl : k = 0 := by simp at hk; exact hk
    exact absurd (ha.symm.trans h) (by decide)
theorem sumT_name {a : Nat × Bs} (ha : clsB a.2 = nameB) (hn : a.2 ≠ []) (m : Bool) : SumT [a] [⟨m, false, 0, a.2⟩] := by
  refine ⟨?_, ?_, ?_, ?_⟩
  · simp only [needS, ha]; rw [if_pos trivial]; simp [partN, hn]
  · simp only [cntPM, ha]; rw [if_neg (by decide)]; rfl
  · intro p; simp only [bigG, ha]; rw [decide_eq_false (by decide : ¬ nameB = [42])]; simp [partBig]
  · intro k hk h
    obtain rfl : k = 0 := by simp at hk; exact hk
    exact absurd (ha.symm.trans h) (by decide)

theorem name_ne {ts : Toks} (hts : TsOk ts) {i : Nat} (hi : i < ts.length) : (tA ts i).isEmpty = false := by
  have := (hts.at' hi).1
  cases hx : tA ts i with
  | nil => exact absurd hx this
  | cons a b => rfl

theorem part_sim {ts : Toks} {len i : Nat} (hts : TsOk ts) (h : i ≤ ts.length) (m : Bool) : PartRes ts len i m (pPart (pp ts len) m (i, false)) := by
  rcases number_c (len := len) h with ⟨hc, hi, e⟩ | ⟨hc, e⟩
  · have e0 := isNum_c (len := len) h false
    rw [decide_eq_true hc] at e0
    obtain ⟨v1, v2⟩ := num_ok (hts.at' hi) hc
    have hf : FA ts len i sPart 0 = FA ts len (i + 1) sCounted 0 := FA_go hi hc rfl (by decide) rfl
    rcases skip_c (len := len) (show i + 1 ≤ ts.length from hi) (t := [42]) (by decide) with ⟨hc2, hi2, e2⟩ | ⟨hc2, e2⟩
    · have hw := (cA_kw (by decide) hc2).2
      have hf2 : FA ts len i sPart 0 = FA ts len (i + 1 + 1) sTimes 0 := hf.trans (FA_go hi2 hc2 rfl (by decide) rfl)
      rcases name_c (len := len) (show i + 1 + 1 ≤ ts.length from hi2) with ⟨hc3, hi3, e3⟩ | ⟨hc3, e3⟩
      · have e' : pPart (pp ts len) m (i, false) = (⟨m, true, valF 0 (tA ts i), tA ts (i + 1 + 1)⟩, (i + 1 + 1 + 1, false)) := by
          simp only [pPart, e0, e, e2, e3]
        rw [e']
        refine .inr ⟨rfl, (by show i < i + 1 + 1 + 1; omega), hi3, ⟨sParted, .inl rfl, hf2.trans (FA_go hi3 hc3 rfl (by decide) rfl)⟩, rfl, v1, [TT ts i, TT ts (i + 1), TT ts (i + 1 + 1)], ?_, by simp, ?_, ?_, sumT_three hc hc2 hc3 (hts.at' hi3).1 m, .inl ⟨_, _, _, rfl, hc, hc2, hc3, (hts.at' hi3).1, rfl, rfl, rfl⟩⟩
        · rw [drop_consT ts i hi, drop_consT ts (i + 1) hi2, drop_consT ts (i + 1 + 1) hi3]; rfl
        · intro t ht
          simp only [List.mem_cons, List.not_mem_nil, or_false] at ht
          rcases ht with rfl | rfl | rfl
          · show midC (cA ts i); rw [hc]; decide
          · show midC (cA ts (i + 1)); rw [hc2]; decide
          · show midC (cA ts (i + 1 + 1)); rw [hc3]; decide
        · intro st
          show wPut (tA ts (i + 1 + 1)) (wPut [42] (wNum (valF 0 (tA ts i)) st)) = wPut (tA ts (i + 1 + 1)) (wPut (tA ts (i + 1)) (wPut (tA ts i) st))
          rw [wNum, v2, hw]
      · have e' : (pPart (pp ts len) m (i, false)).2 = (i + 1 + 1, true) := by
          simp only [pPart, e0, e, e2, e3]
        refine .inl ⟨by rw [e'], ?_⟩
        rw [e', hf2]
        exact FA_bad hi2 (next_none (by decide) (by decide) (by rw [nexts_times]; simpa using hc3)) (.inr (by decide))
    · have e' : pPart (pp ts len) m (i, false) = (⟨m, false, valF 0 (tA ts i), []⟩, (i + 1, false)) := by
        simp only [pPart, e0, e, e2]
      rw [e']
      refine .inr ⟨rfl, (by show i < i + 1; omega), hi, ⟨sCounted, .inr ⟨rfl, hc2⟩, hf⟩, rfl, v1, [TT ts i], drop_consT ts i hi, by simp, ?_, ?_, sumT_num hc m, .inr (.inl ⟨_, rfl, hc, rfl, rfl, rfl⟩)⟩
      · intro t ht; obtain rfl := List.mem_singleton.1 ht
        show midC (cA ts i); rw [hc]; decide
      · intro st
        show wNum (valF 0 (tA ts i)) st = wPut (tA ts i) st
        rw [wNum, v2]
  · have e0 := isNum_c (len := len) h false
    rw [decide_eq_false hc] at e0
    rcases name_c (len := len) h with ⟨hc3, hi3, e3⟩ | ⟨hc3, e3⟩
    · have e' : pPart (pp ts len) m (i, false) = (⟨m, false, 0, tA ts i⟩, (i + 1, false)) := by
        simp only [pPart, e0, e3]
      rw [e']
      refine .inr ⟨rfl, (by show i < i + 1; omega), hi3, ⟨sParted, .inl rfl, FA_go hi3 hc3 rfl (by decide) rfl⟩, rfl, by simp, [TT ts i], drop_consT ts i hi3, by simp, ?_, ?_, sumT_name hc3 (hts.at' hi3).1 m, .inr (.inr ⟨_, rfl, hc3, (hts.at' hi3).1, rfl, rfl, rfl⟩)⟩
      · intro t ht; obtain rfl := List.mem_singleton.1 ht
        show midC (cA ts i); rw [hc3]; decide
      · intro st
        show wPart ⟨m, false, 0, tA ts i⟩ st = wPut (tA ts i) st
        simp only [wPart, name_ne hts hi3]
    · have e' : (pPart (pp ts len) m (i, false)).2 = (i, true) := by
        simp only [pPart, e0, e3]
      refine .inl ⟨by rw [e'], ?_⟩
      rw [e']
      exact FA_bad h (next_none (by decide) (by decide) (by rw [nexts_part]; simp [hc, hc3])) (.inr (by decide))

theorem part_f (P : List PT) (m : Bool) (i : Nat) : (pPart P m (i, true)).2 = (i, true) := by
  unfold pPart
  split <;> rfl

theorem sum_f (P : List PT) (n : Nat) (m : Bool) (i : Nat) (ps : List PPart) : (pSumG P n m (i, true) ps).2 = (i, true) := by
  cases n with
  | zero => rfl
  | succ n =>
    rw [pSumG, part_f]
    rfl

def SumRes (ts : Toks) (len i : Nat) (m : Bool) (ps : List PPart) (r : List PPart × St) : Prop :=
  (r.2.2 = true ∧ FA ts len i sPart 0 = ((cur (pp ts len) r.2.1).p : Int)) ∨
  (r.2.2 = false ∧ i < r.2.1 ∧ r.2.1 ≤ ts.length ∧ (cA ts r.2.1 = kWhen → FA ts len i sPart 0 = FA ts len (r.2.1 + 1) sFact 0) ∧ (cA ts r.2.1 ≠ kWhen → FA ts len i sPart 0 = ((cur (pp ts len) r.2.1).p : Int)) ∧
    ∃ new v, r.1 = ps ++ new ∧ 0 < new.length ∧ new.length ≤ v.length ∧ (∀ y ∈ new, 0 ≤ y.num ∧ y.num ≤ 9999) ∧ ts.drop i = v ++ ts.drop r.2.1 ∧ (∀ t ∈ v, midC (clsB t.2)) ∧
      (∀ k st, wSumG new k st = putAll v (wSign m k st)) ∧ SumT v new ∧ SumS m new v)

theorem sum_on {st : Bs} {c : Bs} (h : st = sParted ∨ st = sCounted) (hc : c = [45] ∨ c = [43]) : nextB st c 0 = sPart ∧ opn c 0 = 0 := by
  rcases h with rfl | rfl <;> rcases hc with rfl | rfl <;> exact ⟨rfl, rfl⟩

theorem sum_sim {ts : Toks} {len : Nat} (hts : TsOk ts) (n : Nat) : ∀ (i : Nat) (m : Bool) (ps : List PPart), i ≤ ts.length → ts.length + 1 - i ≤ n → SumRes ts len i m ps (pSumG (pp ts len) n m (i, false) ps) := by
  induction n with
  | zero => intro i m ps h1 h2; omega
  | succ n ih =>
    intro i m ps hi hn
    rw [pSumG]
    have hP := part_sim (len := len) hts hi m
    generalize pPart (pp ts len) m (i, false) = r at hP ⊢
    obtain ⟨y, ⟨j, f⟩⟩ := r
    rcases hP with ⟨h1, h2⟩ | ⟨h1, h2, h3, ⟨st, hst, h4⟩, h5, h6, v, h7, h8, h9, h10, hT, hPT⟩
    · simp only at h1; subst h1
      exact .inl ⟨rfl, h2⟩
    · simp only at h1 h2 h3 hst h4 h5 h6 h7 h10; subst h1
      have hst' : st = sParted ∨ st = sCounted := by rcases hst with h | h; exact .inl h; exact .inr h.1
      have hsd : st ≠ sNamed ∧ st ≠ sDone ∧ st ≠ sLine := by rcases hst' with rfl | rfl <;> decide
      rcases skip_c (len := len) h3 (t := [45]) (by decide) with ⟨hc, hj, e⟩ | ⟨hc, e⟩
      · simp only [e]
        have hw := (cA_kw (by decide) hc).2
        obtain ⟨n1, n2⟩ := sum_on hst' (.inl rfl)
        have hf : FA ts len i sPart 0 = FA ts len (j + 1) sPart 0 := h4.trans (FA_go hj hc n1 (by decide) n2)
        have hI := ih (j + 1) true (ps ++ [y]) hj (by omega)
        generalize pSumG (pp ts len) n true (j + 1, false) (ps ++ [y]) = r at hI ⊢
        rcases hI with ⟨g1, g2⟩ | ⟨g1, g2, g3, g4, g5, new, v', g6, g7, g8, g9, g10, g11, g12, gT, gS⟩
        · exact .inl ⟨g1, by rw [hf]; exact g2⟩
        · refine .inr ⟨g1, by omega, g3, fun h => hf.trans (g4 h), fun h => by rw [hf]; exact g5 h, y :: new, v ++ TT ts j :: v', by rw [g6]; simp, by simp, by simp; omega, ?_, ?_, ?_, ?_, ?_⟩
          · intro z hz
            rcases List.mem_cons.1 hz with rfl | hz
            · exact h6
            · exact g9 z hz
          · rw [h7, drop_consT ts j hj, g10]; simp
          · intro t ht
            rcases List.mem_append.1 ht with ht | ht
            · exact h9 t ht
            · rcases List.mem_cons.1 ht with rfl | ht
              · show midC (cA ts j); rw [hc]; decide
              · exact g11 t ht
          · intro k st
            rw [wSumG, g12, h10, h5, putAll_app, putAll]
            show putAll v' (wPut [45] _) = putAll v' (wPut (tA ts j) _)
            rw [hw]
          · exact ⟨hT.join gT (.inr hc), h5, .inr ⟨v, TT ts j, v', rfl, hPT, .inl ⟨hc, gS⟩⟩⟩
      · simp only [e]
        rcases skip_c (len := len) h3 (t := [43]) (by decide) with ⟨hc2, hj, e2⟩ | ⟨hc2, e2⟩
        · simp only [e2]
          have hw := (cA_kw (by decide) hc2).2
          obtain ⟨n1, n2⟩ := sum_on hst' (.inr rfl)
          have hf : FA ts len i sPart 0 = FA ts len (j + 1) sPart 0 := h4.trans (FA_go hj hc2 n1 (by decide) n2)
          have hI := ih (j + 1) false (ps ++ [y]) hj (by omega)
          generalize pSumG (pp ts len) n false (j + 1, false) (ps ++ [y]) = r at hI ⊢
          rcases hI with ⟨g1, g2⟩ | ⟨g1, g2, g3, g4, g5, new, v', g6, g7, g8, g9, g10, g11, g12, gT, gS⟩
          · exact .inl ⟨g1, by rw [hf]; exact g2⟩
          · refine .inr ⟨g1, by omega, g3, fun h => hf.trans (g4 h), fun h => by rw [hf]; exact g5 h, y :: new, v ++ TT ts j :: v', by rw [g6]; simp, by simp, by simp; omega, ?_, ?_, ?_, ?_, ?_⟩
            · intro z hz
              rcases List.mem_cons.1 hz with rfl | hz
              · exact h6
              · exact g9 z hz
            · rw [h7, drop_consT ts j hj, g10]; simp
            · intro t ht
              rcases List.mem_append.1 ht with ht | ht
              · exact h9 t ht
              · rcases List.mem_cons.1 ht with rfl | ht
                · show midC (cA ts j); rw [hc2]; decide
                · exact g11 t ht
            · intro k st
              rw [wSumG, g12, h10, h5, putAll_app, putAll]
              show putAll v' (wSign false (k + 1) _) = putAll v' (wPut (tA ts j) _)
              rw [hw, wSign, if_pos (by omega)]
            · exact ⟨hT.join gT (.inl hc2), h5, .inr ⟨v, TT ts j, v', rfl, hPT, .inr ⟨hc2, gS⟩⟩⟩
        · simp only [e2]
          refine .inr ⟨rfl, h2, h3, ?_, ?_, [y], v, rfl, by simp, by simp; omega, ?_, h7, h9, ?_, hT, h5, .inl ⟨rfl, hPT⟩⟩
          · intro h
            have hj := (cA_kw (by decide) h).1
            have hx : nextB st kWhen 0 = sFact := by rcases hst' with rfl | rfl <;> rfl
            exact h4.trans (FA_go hj h hx (by decide) rfl)
          · intro h
            rw [h4]
            refine FA_bad h3 (next_none hsd.1 hsd.2.1 ?_) (.inr hsd.2.2)
            rcases hst with rfl | ⟨rfl, hs⟩
            · rw [nexts_parted]; simp [hc, hc2, h]
            · rw [nexts_counted]; simp [hc, hc2, h, hs]
          · intro z hz; obtain rfl := List.mem_singleton.1 hz; exact h6
          · intro k st
            rw [wSumG, wSumG, h10, h5]

end Go.Proofs.YtnbpdffdnphbeaaGreatDoor

/- Plain facts: what the program's reader reads of a line, and what its writer makes of it. -/
namespace Go.Proofs.YtnbpdffdnphbeaaGreatDoor

theorem test_f (P : List PT) (i : Nat) : (pTest P (i, true)).2 = (i, true) := by
  simp only [pTest, skip_f, name_f, comp_f, List.isEmpty_nil]

theorem fact_f (P : List PT) (n : Nat) (q : GS) (d : Int) (h : q.s.2 = true) : (pFact P n q d).2.s = q.s := by
  cases n with
  | zero => rfl
  | succ n =>
    obtain ⟨⟨i, f⟩, nd, te, de⟩ := q
    obtain rfl : f = true := h
    rw [pFact, skip_f]
    simp only [skip_f]
    show (pTest P (i, true)).2 = (i, true)
    rw [test_f]

theorem guard_f (P : List PT) (i : Nat) : (pGuard P (i, true)).2.s = (i, true) := by
  unfold pGuard pAlt altW termsW
  have h1 : (pFact P P.length ⟨(i, true), [], 0, 0⟩ 0).2.s = (i, true) := fact_f P P.length ⟨(i, true), [], 0, 0⟩ 0 rfl
  generalize pFact P P.length ⟨(i, true), [], 0, 0⟩ 0 = y at h1 ⊢
  have h2 : (loopB P (fun q => pFact P P.length q 0) kAnd 2 P.length y.1 y.2).2.s = (i, true) := (loop_fail _ _ _ _ _ _ _ (by rw [h1])).trans h1
  generalize loopB P (fun q => pFact P P.length q 0) kAnd 2 P.length y.1 y.2 = z at h2 ⊢
  exact (loop_fail _ _ _ _ _ _ _ (by rw [h2])).trans h2

theorem want_st {P : List PT} {t : Bs} {s : St} {i : Nat} (h : s = (i, true)) : pWant P t s = (i, true) := by subst h; rfl
theorem name_st {P : List PT} {s : St} {i : Nat} (h : s = (i, true)) : (pName P s).2 = (i, true) := by subst h; rfl
theorem sum_st {P : List PT} {s : St} {i : Nat} (h : s = (i, true)) : (pSum P s).2 = (i, true) := by subst h; exact sum_f _ _ _ _ _
theorem guard_st {P : List PT} {s : St} {i : Nat} (h : s = (i, true)) : (pGuard P s).2.s = (i, true) := by subst h; exact guard_f _ _
/-- A line that can't be read: where. -/
theorem fail_at {ts : Toks} {len i j : Nat} {s : St} {v : Int} (h : s = (j, true)) (hv : v = ((cur (pp ts len) j).p : Int)) (hi : FA ts len i sLine 0 = v) : s.2 = true ∧ FA ts len i sLine 0 = ((cur (pp ts len) s.1).p : Int) := by
  subst h; exact ⟨rfl, hi.trans hv⟩

def kNum : Bs := [110, 117, 109]
def kFlag : Bs := [102, 108, 97, 103]
def kOver : Bs := [111, 118, 101, 114]
def sEnd : Bs := [101, 110, 100]
def sLast : Bs := [108, 97, 115, 116]
def sFrom : Bs := [102, 114, 111, 109]
def sTo : Bs := [116, 111]
def sTill : Bs := [116, 105, 108, 108]
def sLabel : Bs := [108, 97, 98, 101, 108]
def sColon : Bs := [99, 111, 108, 111, 110]
def sHead : Bs := [104, 101, 97, 100]

theorem nexts_line : nexts sLine = [kNum, kFlag, kOver, kRule] := by decide

/-- What the tokens of a rule say, the word when at the place w. -/
structure RuleT (x : PLine) (u : Toks) (w : Nat) : Prop where
  whenAt : whenG u 0 = some w
  wlo : 5 < w
  whi : w + 1 < u.length
  conc : tA u 3 = x.conc
  ne : x.conc ≠ []
  parts : cntPM (u.take w) + 1 = x.sum.length
  big : bigG [] (u.take w) = x.sum.any partBig
  stars : ∀ k, k < w → cA u k = [42] → 0 < k ∧ cA u (k - 1) = numberB
  needs : needS ((u.take w).drop 5) = x.sum.flatMap partN
  needs2 : needG kWhen (u.drop (w + 1)) [] = needsN x.nd
  wt : WtIs (u.drop (w + 1)) (x.tests, x.dep)
  good : ∀ n, u.length < n → goodT n (u.drop (w + 1)) = true
  sums : SumS false x.sum ((u.take w).drop 5)
  gr : ∃ k y, Gr k (u.drop (w + 1)) y x.nd x.root

/-- What the tokens of a line say. -/
structure LT (x : PLine) (u : Toks) : Prop where
  two : 2 ≤ u.length
  toks : TsOk u
  name : tA u 1 = x.name
  kind : (x.kind = 1 ∧ cA u 0 = kNum ∧ 5 ≤ u.length ∧ cA u 2 = numberB ∧ cA u 4 = numberB ∧ valF 0 (tA u 2) = x.low ∧ valF 0 (tA u 4) = x.high) ∨ (x.kind = 2 ∧ cA u 0 = kFlag) ∨
    (x.kind = 4 ∧ cA u 0 = kOver ∧ 3 ≤ u.length ∧ tA u 2 = x.lower) ∨ (x.kind = 3 ∧ cA u 0 = kRule ∧ ∃ w, RuleT x u w)

theorem TsOk.get {ts : Toks} (h : TsOk ts) {i : Nat} (hi : i < ts.length) : TokOk (TT ts i).2 := h.at' hi

/-- What reading a line comes to. -/
def LineRes (ts : Toks) (len i : Nat) (r : PLine × St) : Prop :=
  (r.2.2 = true ∧ FA ts len i sLine 0 = ((cur (pp ts len) r.2.1).p : Int)) ∨
  (r.2.2 = false ∧ i < r.2.1 ∧ r.2.1 ≤ ts.length ∧ FA ts len i sLine 0 = FA ts len r.2.1 sLine 0 ∧ GoodP r.1 ∧
    ∃ u e, ts.drop i = u ++ e :: ts.drop r.2.1 ∧ clsB e.2 = kEnd ∧ (∀ t ∈ u, clsB t.2 ≠ kEnd) ∧
      LT r.1 u ∧ ∀ n, ts.length < n → goodL n u ∧ ∀ out, wLine r.1 (out, false) = (out ++ lineText n u ++ [59, 10], false))

theorem wEnd_put (s : Bs) (out : Bs) : wEnd (wPut s (out, false)) = (out ++ s ++ [59, 10], false) := rfl

/-- A line that is not a rule. -/
theorem plain_line {n : Nat} {x : PLine} {u : Toks} (hu : u ≠ []) (hr : clsB (u.getD 0 (0, [])).2 ≠ kRule) (hw : ∀ st, wLine x st = wEnd (putAll u st)) :
    goodL n u ∧ ∀ out, wLine x (out, false) = (out ++ lineText n u ++ [59, 10], false) := by
  refine ⟨⟨List.length_pos_iff.2 hu, fun h => absurd h hr⟩, fun out => ?_⟩
  rw [hw, putAll_glued hu, wEnd_put, lineText, if_neg hr]

theorem bad1 {ts : Toks} {len i : Nat} {st t : Bs} (h0 : i ≤ ts.length) (h1 : st ≠ sNamed ∧ st ≠ sDone ∧ st ≠ sLine) (h2 : nexts st = [t]) (hc : cA ts i ≠ t) : FA ts len i st 0 = ((cur (pp ts len) i).p : Int) :=
  FA_bad h0 (next_none h1.1 h1.2.1 (by rw [h2]; simpa using hc)) (.inr h1.2.2)

theorem xz_num (a : Nat) (h : a < ([] : List PPart).length) : 0 ≤ (xAt [] a).num ∧ (xAt [] a).num ≤ 9999 := absurd h (by simp)

theorem num_line {ts : Toks} {len i : Nat} (hts : TsOk ts) (hi : i < ts.length) (hc : cA ts i = kNum) : LineRes ts len i (pNumLine (pp ts len) (i + 1, false)) := by
  have hf : FA ts len i sLine 0 = FA ts len (i + 1) kNum 0 := FA_go hi hc rfl (by decide) rfl
  rcases name_c (len := len) (show i + 1 ≤ ts.length from hi) with ⟨c1, i1, e1⟩ | ⟨c1, e1⟩
  · have f1 := hf.trans (FA_go i1 c1 (show nextB kNum nameB 0 = sFrom from rfl) (by decide) rfl)
    rcases number_c (len := len) (show i + 1 + 1 ≤ ts.length from i1) with ⟨c2, i2, e2⟩ | ⟨c2, e2⟩
    · have f2 := f1.trans (FA_go i2 c2 (show nextB sFrom numberB 0 = sTo from rfl) (by decide) rfl)
      obtain ⟨v1, v2⟩ := num_ok (hts.at' i2) c2
      rcases want_c (len := len) (t := [46, 46]) (show i + 1 + 1 + 1 ≤ ts.length from i2) (by decide) with ⟨c3, i3, e3⟩ | ⟨c3, e3⟩
      · have f3 := f2.trans (FA_go i3 c3 (show nextB sTo [46, 46] 0 = sTill from rfl) (by decide) rfl)
        have w3 := (cA_kw (by decide) c3).2
        rcases number_c (len := len) (show i + 1 + 1 + 1 + 1 ≤ ts.length from i3) with ⟨c4, i4, e4⟩ | ⟨c4, e4⟩
        · have f4 := f3.trans (FA_go i4 c4 (show nextB sTill numberB 0 = sEnd from rfl) (by decide) rfl)
          obtain ⟨v3, v4⟩ := num_ok (hts.at' i4) c4
          rcases want_c (len := len) (t := [59]) (show i + 1 + 1 + 1 + 1 + 1 ≤ ts.length from i4) (by decide) with ⟨c5, i5, e5⟩ | ⟨c5, e5⟩
          · have f5 := f4.trans (FA_go i5 c5 (show nextB sEnd [59] 0 = sLine from rfl) (by decide) rfl)
            have w0 := (cA_kw (by decide) hc).2
            simp only [pNumLine, e1, e2, e3, e4, e5]
            refine .inr ⟨rfl, (by show i < i + 1 + 1 + 1 + 1 + 1 + 1; omega), i5, f5, ⟨.inl rfl, v1.1, v1.2, v3.1, v3.2, fun a h => xz_num a h, by simp, goodN_nil, fun h => absurd (show (1 : Int) = 3 from h) (by decide)⟩,
              [TT ts i, TT ts (i + 1), TT ts (i + 1 + 1), TT ts (i + 1 + 1 + 1), TT ts (i + 1 + 1 + 1 + 1)], TT ts (i + 1 + 1 + 1 + 1 + 1), ?_, c5, ?_, ⟨by simp, ?_, rfl, .inl ⟨rfl, hc, by simp, c2, c4, rfl, rfl⟩⟩, fun n _ => plain_line (by simp) ?_ ?_⟩
            · rw [drop_consT ts i hi, drop_consT ts (i + 1) i1, drop_consT ts (i + 1 + 1) i2, drop_consT ts (i + 1 + 1 + 1) i3, drop_consT ts (i + 1 + 1 + 1 + 1) i4, drop_consT ts (i + 1 + 1 + 1 + 1 + 1) i5]; rfl
            · intro t ht
              simp only [List.mem_cons, List.not_mem_nil, or_false] at ht
              rcases ht with rfl | rfl | rfl | rfl | rfl
              · show cA ts i ≠ kEnd; rw [hc]; decide
              · show cA ts (i + 1) ≠ kEnd; rw [c1]; decide
              · show cA ts (i + 1 + 1) ≠ kEnd; rw [c2]; decide
              · show cA ts (i + 1 + 1 + 1) ≠ kEnd; rw [c3]; decide
              · show cA ts (i + 1 + 1 + 1 + 1) ≠ kEnd; rw [c4]; decide
            · intro t ht
              simp only [List.mem_cons, List.not_mem_nil, or_false] at ht
              rcases ht with rfl | rfl | rfl | rfl | rfl
              · exact hts.get hi
              · exact hts.get i1
              · exact hts.get i2
              · exact hts.get i3
              · exact hts.get i4
            · show cA ts i ≠ kRule; rw [hc]; decide
            · intro st
              show wEnd (wNum (valF 0 (tA ts (i + 1 + 1 + 1 + 1))) (wPut [46, 46] (wNum (valF 0 (tA ts (i + 1 + 1))) (wPut (tA ts (i + 1)) (wPut kNum st))))) = wEnd (wPut (tA ts (i + 1 + 1 + 1 + 1)) (wPut (tA ts (i + 1 + 1 + 1)) (wPut (tA ts (i + 1 + 1)) (wPut (tA ts (i + 1)) (wPut (tA ts i) st)))))
              rw [wNum, wNum, v2, v4, w3, w0]
          · exact .inl (fail_at (by simp only [pNumLine, e1, e2, e3, e4, e5]) (bad1 (by omega) (by decide) (show nexts sEnd = [[59]] by decide) c5) f4)
        · exact .inl (fail_at (by simp only [pNumLine, e1, e2, e3, e4, want_f]) (bad1 (by omega) (by decide) (show nexts sTill = [numberB] by decide) c4) f3)
      · exact .inl (fail_at (by simp only [pNumLine, e1, e2, e3, number_f, want_f]) (bad1 (by omega) (by decide) (show nexts sTo = [[46, 46]] by decide) c3) f2)
    · exact .inl (fail_at (by simp only [pNumLine, e1, e2, number_f, want_f]) (bad1 (by omega) (by decide) (show nexts sFrom = [numberB] by decide) c2) f1)
  · exact .inl (fail_at (by simp only [pNumLine, e1, number_f, want_f]) (bad1 (by omega) (by decide) (show nexts kNum = [nameB] by decide) c1) hf)

theorem flag_line {ts : Toks} {len i : Nat} (hts : TsOk ts) (hi : i < ts.length) (hc : cA ts i = kFlag) : LineRes ts len i (pFlagLine (pp ts len) (i + 1, false)) := by
  have hf : FA ts len i sLine 0 = FA ts len (i + 1) sLast 0 := FA_go hi hc rfl (by decide) rfl
  rcases name_c (len := len) (show i + 1 ≤ ts.length from hi) with ⟨c1, i1, e1⟩ | ⟨c1, e1⟩
  · have f1 := hf.trans (FA_go i1 c1 (show nextB sLast nameB 0 = sEnd from rfl) (by decide) rfl)
    rcases want_c (len := len) (t := [59]) (show i + 1 + 1 ≤ ts.length from i1) (by decide) with ⟨c5, i5, e5⟩ | ⟨c5, e5⟩
    · have f5 := f1.trans (FA_go i5 c5 (show nextB sEnd [59] 0 = sLine from rfl) (by decide) rfl)
      have w0 := (cA_kw (by decide) hc).2
      simp only [pFlagLine, e1, e5]
      refine .inr ⟨rfl, (by show i < i + 1 + 1 + 1; omega), i5, f5, ⟨.inr (.inl rfl), by simp, by simp, by simp, by simp, fun a h => xz_num a h, by simp, goodN_nil, fun h => absurd (show (2 : Int) = 3 from h) (by decide)⟩,
        [TT ts i, TT ts (i + 1)], TT ts (i + 1 + 1), ?_, c5, ?_, ⟨by simp, ?_, rfl, .inr (.inl ⟨rfl, hc⟩)⟩, fun n _ => plain_line (by simp) ?_ ?_⟩
      · rw [drop_consT ts i hi, drop_consT ts (i + 1) i1, drop_consT ts (i + 1 + 1) i5]; rfl
      · intro t ht
        simp only [List.mem_cons, List.not_mem_nil, or_false] at ht
        rcases ht with rfl | rfl
        · show cA ts i ≠ kEnd; rw [hc]; decide
        · show cA ts (i + 1) ≠ kEnd; rw [c1]; decide
      · intro t ht
        simp only [List.mem_cons, List.not_mem_nil, or_false] at ht
        rcases ht with rfl | rfl
        · exact hts.get hi
        · exact hts.get i1
      · show cA ts i ≠ kRule; rw [hc]; decide
      · intro st
        show wEnd (wPut (tA ts (i + 1)) (wPut kFlag st)) = wEnd (wPut (tA ts (i + 1)) (wPut (tA ts i) st))
        rw [w0]
    · exact .inl (fail_at (by simp only [pFlagLine, e1, e5]) (bad1 (by omega) (by decide) (show nexts sEnd = [[59]] by decide) c5) f1)
  · exact .inl (fail_at (by simp only [pFlagLine, e1, want_f]) (bad1 (by omega) (by decide) (show nexts sLast = [nameB] by decide) c1) hf)

theorem over_line {ts : Toks} {len i : Nat} (hts : TsOk ts) (hi : i < ts.length) (hc : cA ts i = kOver) : LineRes ts len i (pOverLine (pp ts len) (i + 1, false)) := by
  have hf : FA ts len i sLine 0 = FA ts len (i + 1) kOver 0 := FA_go hi hc rfl (by decide) rfl
  rcases name_c (len := len) (show i + 1 ≤ ts.length from hi) with ⟨c1, i1, e1⟩ | ⟨c1, e1⟩
  · have f1 := hf.trans (FA_go i1 c1 (show nextB kOver nameB 0 = sLast from rfl) (by decide) rfl)
    rcases name_c (len := len) (show i + 1 + 1 ≤ ts.length from i1) with ⟨c2, i2, e2⟩ | ⟨c2, e2⟩
    · have f2 := f1.trans (FA_go i2 c2 (show nextB sLast nameB 0 = sEnd from rfl) (by decide) rfl)
      rcases want_c (len := len) (t := [59]) (show i + 1 + 1 + 1 ≤ ts.length from i2) (by decide) with ⟨c5, i5, e5⟩ | ⟨c5, e5⟩
      · have f5 := f2.trans (FA_go i5 c5 (show nextB sEnd [59] 0 = sLine from rfl) (by decide) rfl)
        have w0 := (cA_kw (by decide) hc).2
        simp only [pOverLine, e1, e2, e5]
        refine .inr ⟨rfl, (by show i < i + 1 + 1 + 1 + 1; omega), i5, f5, ⟨.inr (.inr (.inr rfl)), by simp, by simp, by simp, by simp, fun a h => xz_num a h, by simp, goodN_nil, fun h => absurd (show (4 : Int) = 3 from h) (by decide)⟩,
          [TT ts i, TT ts (i + 1), TT ts (i + 1 + 1)], TT ts (i + 1 + 1 + 1), ?_, c5, ?_, ⟨by simp, ?_, rfl, .inr (.inr (.inl ⟨rfl, hc, by simp, rfl⟩))⟩, fun n _ => plain_line (by simp) ?_ ?_⟩
        · rw [drop_consT ts i hi, drop_consT ts (i + 1) i1, drop_consT ts (i + 1 + 1) i2, drop_consT ts (i + 1 + 1 + 1) i5]; rfl
        · intro t ht
          simp only [List.mem_cons, List.not_mem_nil, or_false] at ht
          rcases ht with rfl | rfl | rfl
          · show cA ts i ≠ kEnd; rw [hc]; decide
          · show cA ts (i + 1) ≠ kEnd; rw [c1]; decide
          · show cA ts (i + 1 + 1) ≠ kEnd; rw [c2]; decide
        · intro t ht
          simp only [List.mem_cons, List.not_mem_nil, or_false] at ht
          rcases ht with rfl | rfl | rfl
          · exact hts.get hi
          · exact hts.get i1
          · exact hts.get i2
        · show cA ts i ≠ kRule; rw [hc]; decide
        · intro st
          show wEnd (wPut (tA ts (i + 1 + 1)) (wPut (tA ts (i + 1)) (wPut kOver st))) = wEnd (wPut (tA ts (i + 1 + 1)) (wPut (tA ts (i + 1)) (wPut (tA ts i) st)))
          rw [w0]
      · exact .inl (fail_at (by simp only [pOverLine, e1, e2, e5]) (bad1 (by omega) (by decide) (show nexts sEnd = [[59]] by decide) c5) f2)
    · exact .inl (fail_at (by simp only [pOverLine, e1, e2, want_f]) (bad1 (by omega) (by decide) (show nexts sLast = [nameB] by decide) c2) f1)
  · exact .inl (fail_at (by simp only [pOverLine, e1, name_f, want_f]) (bad1 (by omega) (by decide) (show nexts kOver = [nameB] by decide) c1) hf)

theorem when_at (u : Toks) (t : Nat × Bs) (v : Toks) (hu : ∀ x ∈ u, clsB x.2 ≠ kWhen) (ht : clsB t.2 = kWhen) : ∀ i, whenG (u ++ t :: v) i = some (i + u.length) := by
  induction u with
  | nil => intro i; rw [List.nil_append, whenG, if_pos ht]; rfl
  | cons x r ih =>
    intro i
    rw [List.cons_append, whenG, if_neg (hu x (List.mem_cons_self ..)), ih (fun y hy => hu y (List.mem_cons_of_mem _ hy)), List.length_cons]
    congr 1; omega

/-- A line that is a rule. -/
theorem rule_text {n : Nat} {x : PLine} {h : Toks} {w : Nat × Bs} {k : Nat} {v : Toks} {y : Bs × Int} {N : List PNode} {a : Int} (hr : clsB ((h ++ w :: v).getD 0 (0, [])).2 = kRule) (hu : ∀ y ∈ h, clsB y.2 ≠ kWhen) (hw : clsB w.2 = kWhen) (ht : Gr k v y N a) (hn : v.length < n)
    (hx : ∀ st, wLine x st = wEnd (wPut y.1 (putAll (h ++ [w]) st))) :
    goodL n (h ++ w :: v) ∧ ∀ out, wLine x (out, false) = (out ++ lineText n (h ++ w :: v) ++ [59, 10], false) := by
  have e : whenB (h ++ w :: v) = (h.length : Int) := by unfold whenB; rw [when_at h w v hu hw 0]; simp
  have e1 : (h ++ w :: v).take (h.length + 1) = h ++ [w] := by
    rw [show h ++ w :: v = (h ++ [w]) ++ v by simp]
    exact List.take_left' (by simp)
  have e2 : (h ++ w :: v).drop (h.length + 1) = v := by
    rw [show h ++ w :: v = (h ++ [w]) ++ v by simp]
    exact List.drop_left' (by simp)
  obtain ⟨t1, t2⟩ := tid_gr ht n hn
  have hp := ht.pos
  refine ⟨⟨by simp only [List.length_append, List.length_cons]; omega, fun _ => ⟨by omega, ?_, ?_⟩⟩, fun out => ?_⟩
  · rw [e]; simp only [List.length_append, List.length_cons]; omega
  · rw [e, Int.toNat_natCast, e2]; exact t2
  · rw [hx, putAll_glued (by simp), ← wPut_app, wEnd_put, lineText, if_pos hr, e, Int.toNat_natCast, e1, e2, t1]

theorem bigG_five {p a b c d e : Bs} {v : Toks} {ta tb tc td te : Nat × Bs} (ha : clsB ta.2 = a) (hb : clsB tb.2 = b) (hc : clsB tc.2 = c) (hd : clsB td.2 = d) (he : clsB te.2 = e) (h : a ≠ [42] ∧ b ≠ [42] ∧ c ≠ [42] ∧ d ≠ [42] ∧ e ≠ [42]) : bigG p (ta :: tb :: tc :: td :: te :: v) = bigG te.2 v := by
  subst ha hb hc hd he
  simp only [bigG]
  rw [decide_eq_false h.1, decide_eq_false h.2.1, decide_eq_false h.2.2.1, decide_eq_false h.2.2.2.1, decide_eq_false h.2.2.2.2]
  simp

/-- A rule's tokens, put together. -/
theorem rule_toks {a b c d e w : Nat × Bs} {v gv : Toks} {S : List PPart} {nd : List PNode} {root te de : Int} {x : Bs × Int} {k i : Nat} (ha : clsB a.2 = kRule) (hb : clsB b.2 = nameB) (hc : clsB c.2 = [58]) (hd : clsB d.2 = nameB) (he : clsB e.2 = [61]) (hw : clsB w.2 = kWhen)
    (hwn : ∀ t ∈ (a :: b :: c :: d :: e :: v), clsB t.2 ≠ kWhen) (hv : 0 < v.length) (hne : d.2 ≠ []) (hS : SumT v S) (hSS : SumS false S v) (hG : Gr k gv x nd root) (hW : Wt ⟨(i, false), [], 0, 0⟩ 0 ⟨(i, false), nd, te, de⟩ gv) :
    RuleT ⟨3, b.2, 0, 0, d.2, S, nd, root, te, de, []⟩ ((a :: b :: c :: d :: e :: v) ++ w :: gv) (v.length + 5) := by
  have hl : (a :: b :: c :: d :: e :: v).length = v.length + 5 := rfl
  have e1 : ((a :: b :: c :: d :: e :: v) ++ w :: gv).take (v.length + 5) = a :: b :: c :: d :: e :: v := List.take_left' hl
  have e2 : ((a :: b :: c :: d :: e :: v) ++ w :: gv).drop (v.length + 5 + 1) = gv := by
    rw [show (a :: b :: c :: d :: e :: v) ++ w :: gv = ((a :: b :: c :: d :: e :: v) ++ [w]) ++ gv by simp]
    exact List.drop_left' (by simp)
  obtain ⟨y, L, w1, w2, w3, w4, w5, w6⟩ := hW
  simp only at w3 w4 w6
  have hy : y = (te, de) := by
    obtain ⟨y1, y2⟩ := y
    simp only at w2 w3 w4
    have h1 : y1 = te := by omega
    have h2 : y2 = de := by omega
    rw [h1, h2]
  refine ⟨?_, by omega, ?_, rfl, hne, ?_, ?_, ?_, ?_, ?_, ?_, ?_, by rw [e1]; exact hSS, k, x, by rw [e2]; exact hG⟩
  · rw [when_at _ w gv hwn hw 0, hl]; simp
  · have hp := hG.pos; simp only [List.length_append, List.length_cons]; omega
  · rw [e1]
    simp only [cntPM, ha, hb, hc, hd, he]
    rw [if_neg (by decide), if_neg (by decide), if_neg (by decide), if_neg (by decide)]
    have := hS.count; omega
  · rw [e1, bigG_five ha hb hc hd he (by decide)]; exact hS.big _
  · intro k hk hcl
    have hk2 : cA ((a :: b :: c :: d :: e :: v) ++ w :: gv) k = cA (a :: b :: c :: d :: e :: v) k := by
      unfold cA tA; rw [List.getD, List.getD, List.getElem?_append_left (by rw [hl]; exact hk)]
    rw [hk2] at hcl
    match k, hk, hcl with
    | 0, _, h => exact absurd (ha.symm.trans h) (by decide)
    | 1, _, h => exact absurd (hb.symm.trans h) (by decide)
    | 2, _, h => exact absurd (hc.symm.trans h) (by decide)
    | 3, _, h => exact absurd (hd.symm.trans h) (by decide)
    | 4, _, h => exact absurd (he.symm.trans h) (by decide)
    | k + 5, hk, h =>
      obtain ⟨h1, h2⟩ := hS.star k (by omega) h
      refine ⟨by omega, ?_⟩
      obtain ⟨m, rfl⟩ : ∃ m, k = m + 1 := ⟨k - 1, by omega⟩
      have hk3 : cA ((a :: b :: c :: d :: e :: v) ++ w :: gv) (m + 5) = cA (a :: b :: c :: d :: e :: v) (m + 5) := by
        unfold cA tA; rw [List.getD, List.getD, List.getElem?_append_left (by rw [hl]; omega)]
      show cA _ (m + 5) = numberB
      rw [hk3]; exact h2
  · rw [e1]; exact hS.needs
  · rw [e2, w5 kWhen [] ⟨by decide, by decide⟩ (by decide), w6]; rfl
  · rw [e2, ← hy]; exact w1
  · intro n hn
    rw [e2]
    refine (tid_gr hG n ?_).2
    simp only [List.length_append, List.length_cons] at hn; omega

theorem rule_line {ts : Toks} {len i : Nat} (hts : TsOk ts) (hlen : ts.length ≤ 4000) (hi : i < ts.length) (hc : cA ts i = kRule) : LineRes ts len i (pRuleLine (pp ts len) (i + 1, false)) := by
  have hf : FA ts len i sLine 0 = FA ts len (i + 1) kRule 0 := FA_go hi hc rfl (by decide) rfl
  have w0 := (cA_kw (by decide) hc).2
  rcases name_c (len := len) (show i + 1 ≤ ts.length from hi) with ⟨c1, i1, e1⟩ | ⟨c1, e1⟩
  rotate_left
  · exact .inl (fail_at (want_st (guard_st (want_st (sum_st (want_st (name_st (want_st (by rw [e1])))))))) (bad1 (by omega) (by decide) (show nexts kRule = [nameB] by decide) c1) hf)
  have f1 := hf.trans (FA_go i1 c1 (show nextB kRule nameB 0 = sLabel from rfl) (by decide) rfl)
  rcases want_c (len := len) (t := [58]) (show i + 1 + 1 ≤ ts.length from i1) (by decide) with ⟨c2, i2, e2⟩ | ⟨c2, e2⟩
  rotate_left
  · exact .inl (fail_at (want_st (guard_st (want_st (sum_st (want_st (name_st (by rw [e1, e2]))))))) (bad1 (by omega) (by decide) (show nexts sLabel = [[58]] by decide) c2) f1)
  have f2 := f1.trans (FA_go i2 c2 (show nextB sLabel [58] 0 = sColon from rfl) (by decide) rfl)
  have w2 := (cA_kw (by decide) c2).2
  rcases name_c (len := len) (show i + 1 + 1 + 1 ≤ ts.length from i2) with ⟨c3, i3, e3⟩ | ⟨c3, e3⟩
  rotate_left
  · exact .inl (fail_at (want_st (guard_st (want_st (sum_st (want_st (by rw [e1, e2, e3])))))) (bad1 (by omega) (by decide) (show nexts sColon = [nameB] by decide) c3) f2)
  have f3 := f2.trans (FA_go i3 c3 (show nextB sColon nameB 0 = sHead from rfl) (by decide) rfl)
  rcases want_c (len := len) (t := [61]) (show i + 1 + 1 + 1 + 1 ≤ ts.length from i3) (by decide) with ⟨c4, i4, e4⟩ | ⟨c4, e4⟩
  rotate_left
  · exact .inl (fail_at (want_st (guard_st (want_st (sum_st (by rw [e1, e2, e3, e4]))))) (bad1 (by omega) (by decide) (show nexts sHead = [[61]] by decide) c4) f3)
  have f4 := f3.trans (FA_go i4 c4 (show nextB sHead [61] 0 = sPart from rfl) (by decide) rfl)
  have w4 := (cA_kw (by decide) c4).2
  have hS := sum_sim (len := len) hts (pp ts len).length (i + 1 + 1 + 1 + 1 + 1) false [] i4 (by rw [pp_len]; omega)
  simp only [pRuleLine, e1, e2, e3, e4]
  have eS : pSum (pp ts len) (i + 1 + 1 + 1 + 1 + 1, false) = pSumG (pp ts len) (pp ts len).length false (i + 1 + 1 + 1 + 1 + 1, false) [] := rfl
  rw [eS]
  generalize pSumG (pp ts len) (pp ts len).length false (i + 1 + 1 + 1 + 1 + 1, false) [] = r at hS ⊢
  obtain ⟨S, ⟨j, f⟩⟩ := r
  rcases hS with ⟨g1, g2⟩ | ⟨g1, g2, g3, g4, g5, new, v, g6, g7, g8, g9, g10, g11, g12, gT, gS⟩
  · simp only at g1; subst g1
    exact .inl (fail_at (want_st (guard_st (want_st rfl))) g2 f4)
  simp only [List.nil_append] at g1 g2 g3 g4 g5 g6 g10
  subst g1 g6
  rcases want_c (len := len) (t := kWhen) g3 (by decide) with ⟨c5, i5, e5⟩ | ⟨c5, e5⟩
  rotate_left
  · exact .inl (fail_at (want_st (guard_st e5)) (g5 c5) f4)
  have f5 := f4.trans (g4 c5)
  have w5 := (cA_kw (by decide) c5).2
  simp only [e5]
  have hG := guard_sim (len := len) hts (show j + 1 ≤ ts.length from i5)
  generalize pGuard (pp ts len) (j + 1, false) = y at hG ⊢
  obtain ⟨root, ⟨⟨m, f⟩, nd, te, de⟩⟩ := y
  rcases hG with ⟨k1, k2⟩ | ⟨k1, k2, k3, k4, k5, k6, k7, k8, gv, x, k9, k10, k11⟩
  · simp only at k1; subst k1
    exact .inl (fail_at (want_st rfl) k2 f5)
  simp only at k1 k2 k3 k4 k6 k7 k8 k9 k10
  subst k1
  have f6 := f5.trans k4
  rcases want_c (len := len) (t := [59]) k3 (by decide) with ⟨c7, i7, e7⟩ | ⟨c7, e7⟩
  rotate_left
  · exact .inl (fail_at (by simp only [e7]) (FA_bad k3 (done_none (k8 (by decide)) (k7 (by decide)) (fun _ => rfl) (fun e => absurd e c7)) (.inr (by decide))) f6)
  have f7 := f6.trans (FA_go i7 c7 (show nextB sDone [59] 0 = sLine from rfl) (by decide) rfl)
  simp only [e7]
  have hb := k9.bound
  have hlv : v.length ≤ ts.length := by
    have h1 := congrArg List.length g10
    simp only [List.length_append, List.length_drop] at h1
    omega
  have hlx : gv.length ≤ ts.length := by
    have h1 := congrArg List.length k10
    simp only [List.length_append, List.length_drop] at h1
    omega
  refine .inr ⟨rfl, (by show i < m + 1; omega), i7, f7, ⟨.inr (.inr (.inl rfl)), by simp, by simp, by simp, by simp, ?_, (by show S.length ≤ 10000; omega), k6, fun _ => ⟨g7, hb.1, hb.2⟩⟩,
    (TT ts i :: TT ts (i + 1) :: TT ts (i + 1 + 1) :: TT ts (i + 1 + 1 + 1) :: TT ts (i + 1 + 1 + 1 + 1) :: v) ++ TT ts j :: gv, TT ts m, ?_, c7, ?_, ?_, fun n hn => rule_text ?_ ?_ c5 k9 (by omega) ?_⟩
  · intro a ha
    have ha' : a < S.length := ha
    show 0 ≤ (xAt S a).num ∧ (xAt S a).num ≤ 9999
    unfold xAt
    rw [List.getD, List.getElem?_eq_getElem ha']
    exact g9 _ (List.getElem_mem ha')
  · rw [drop_consT ts i hi, drop_consT ts (i + 1) i1, drop_consT ts (i + 1 + 1) i2, drop_consT ts (i + 1 + 1 + 1) i3, drop_consT ts (i + 1 + 1 + 1 + 1) i4, g10, drop_consT ts j i5, k10, drop_consT ts m i7]
    simp
  · intro t ht
    rcases List.mem_append.1 ht with ht | ht
    · simp only [List.mem_cons] at ht
      rcases ht with rfl | rfl | rfl | rfl | rfl | ht
      · show cA ts i ≠ kEnd; rw [hc]; decide
      · show cA ts (i + 1) ≠ kEnd; rw [c1]; decide
      · show cA ts (i + 1 + 1) ≠ kEnd; rw [c2]; decide
      · show cA ts (i + 1 + 1 + 1) ≠ kEnd; rw [c3]; decide
      · show cA ts (i + 1 + 1 + 1 + 1) ≠ kEnd; rw [c4]; decide
      · exact (g11 t ht).1
    · rcases List.mem_cons.1 ht with rfl | ht
      · show cA ts j ≠ kEnd; rw [c5]; decide
      · exact k9.noEnd t ht
  · have hg0 : 0 < v.length := by omega
    have hwn : ∀ t ∈ (TT ts i :: TT ts (i + 1) :: TT ts (i + 1 + 1) :: TT ts (i + 1 + 1 + 1) :: TT ts (i + 1 + 1 + 1 + 1) :: v), clsB t.2 ≠ kWhen := by
      intro t ht
      simp only [List.mem_cons] at ht
      rcases ht with rfl | rfl | rfl | rfl | rfl | ht
      · show cA ts i ≠ kWhen; rw [hc]; decide
      · show cA ts (i + 1) ≠ kWhen; rw [c1]; decide
      · show cA ts (i + 1 + 1) ≠ kWhen; rw [c2]; decide
      · show cA ts (i + 1 + 1 + 1) ≠ kWhen; rw [c3]; decide
      · show cA ts (i + 1 + 1 + 1 + 1) ≠ kWhen; rw [c4]; decide
      · exact (g11 t ht).2
    refine ⟨by simp, ?_, rfl, .inr (.inr (.inr ⟨rfl, hc, v.length + 5, rule_toks hc c1 c2 c3 c4 c5 hwn hg0 (hts.at' i3).1 gT gS k9 k11⟩))⟩
    have hall : (TT ts i :: TT ts (i + 1) :: TT ts (i + 1 + 1) :: TT ts (i + 1 + 1 + 1) :: TT ts (i + 1 + 1 + 1 + 1) :: v) ++ TT ts j :: gv ++ TT ts m :: ts.drop (m + 1) = ts.drop i := by
      rw [drop_consT ts i hi, drop_consT ts (i + 1) i1, drop_consT ts (i + 1 + 1) i2, drop_consT ts (i + 1 + 1 + 1) i3, drop_consT ts (i + 1 + 1 + 1 + 1) i4, g10, drop_consT ts j i5, k10, drop_consT ts m i7]
      simp
    intro t ht
    refine hts t (List.mem_of_mem_drop (i := i) ?_)
    rw [← hall]
    exact List.mem_append_left _ ht
  · show cA ts i = kRule; exact hc
  · intro t ht
    simp only [List.mem_cons] at ht
    rcases ht with rfl | rfl | rfl | rfl | rfl | ht
    · show cA ts i ≠ kWhen; rw [hc]; decide
    · show cA ts (i + 1) ≠ kWhen; rw [c1]; decide
    · show cA ts (i + 1 + 1) ≠ kWhen; rw [c2]; decide
    · show cA ts (i + 1 + 1 + 1) ≠ kWhen; rw [c3]; decide
    · show cA ts (i + 1 + 1 + 1 + 1) ≠ kWhen; rw [c4]; decide
    · exact (g11 t ht).2
  · intro st
    show wEnd (wNode nd nd.length root.toNat (wPut kWhen (wSumG S 0 (wPut [61] (wPut (tA ts (i + 1 + 1 + 1)) (wPut [58] (wPut (tA ts (i + 1)) (wPut kRule st)))))))) = _
    rw [w_gr k9 nd.length _ (by omega), g12, putAll_app]
    show _ = wEnd (wPut x.1 (wPut (tA ts j) (putAll v (wPut (tA ts (i + 1 + 1 + 1 + 1)) (wPut (tA ts (i + 1 + 1 + 1)) (wPut (tA ts (i + 1 + 1)) (wPut (tA ts (i + 1)) (wPut (tA ts i) st))))))))
    rw [w0, w2, w4, w5]
    rfl

theorem line_sim {ts : Toks} {len i : Nat} (hts : TsOk ts) (hlen : ts.length ≤ 4000) (hi : i < ts.length) : LineRes ts len i (pLine (pp ts len) (i, false)) := by
  unfold pLine
  rcases skip_c (len := len) (t := [110, 117, 109]) (Nat.le_of_lt hi) (by decide) with ⟨c1, _, e1⟩ | ⟨c1, e1⟩
  · simp only [e1]; exact num_line hts hi c1
  simp only [e1]
  rcases skip_c (len := len) (t := [102, 108, 97, 103]) (Nat.le_of_lt hi) (by decide) with ⟨c2, _, e2⟩ | ⟨c2, e2⟩
  · simp only [e2]; exact flag_line hts hi c2
  simp only [e2]
  rcases skip_c (len := len) (t := [114, 117, 108, 101]) (Nat.le_of_lt hi) (by decide) with ⟨c3, _, e3⟩ | ⟨c3, e3⟩
  · simp only [e3]; exact rule_line hts hlen hi c3
  simp only [e3]
  rcases want_c (len := len) (t := [111, 118, 101, 114]) (Nat.le_of_lt hi) (by decide) with ⟨c4, _, e4⟩ | ⟨c4, e4⟩
  · simp only [e4]; exact over_line hts hi c4
  simp only [e4]
  refine .inl (fail_at (j := i) (by simp only [pOverLine, name_f, want_f]) ?_ rfl)
  exact FA_bad (Nat.le_of_lt hi) (next_none (by decide) (by decide) (by rw [nexts_line]; simp only [List.mem_cons, List.not_mem_nil, or_false]; rintro (h | h | h | h); exact c1 h; exact c2 h; exact c4 h; exact c3 h)) (.inl hi)

end Go.Proofs.YtnbpdffdnphbeaaGreatDoor

/- What is plain holds of every text of at most 4000 bytes. -/
namespace Go.Proofs.YtnbpdffdnphbeaaGreatDoor

theorem linesG_line (u : Toks) (e : Nat × Bs) (r : Toks) (hu : ∀ t ∈ u, clsB t.2 ≠ kEnd) (he : clsB e.2 = kEnd) : ∀ k a, linesG (u ++ e :: r) k a = (a, k + u.length - a) :: linesG r (k + u.length + 1) (k + u.length + 1) := by
  induction u with
  | nil => intro k a; rw [List.nil_append, linesG, if_pos he]; rfl
  | cons t u ih =>
    intro k a
    rw [List.cons_append, linesG, if_neg (hu t (List.mem_cons_self ..)), ih (fun x hx => hu x (List.mem_cons_of_mem _ hx)), List.length_cons, show k + 1 + u.length = k + (u.length + 1) by omega]

theorem lines_f (P : List PT) (n : Nat) (j : Nat) (acc : List PLine) : (pLines P n (j, true) acc).2 = (j, true) := by
  cases n <;> rfl

/-- Lines and their tokens, one by one. -/
def AllLT : List PLine → List Toks → Prop
  | [], [] => True
  | x :: xs, u :: us => LT x u ∧ AllLT xs us
  | _, _ => False

theorem k_end {ts : Toks} {len i : Nat} (hi : i ≤ ts.length) : (cur (pp ts len) i).k = 0 ↔ i = ts.length := by
  constructor
  · intro h
    rcases Nat.lt_or_ge i ts.length with h1 | h1
    · rw [cur_pp h1] at h
      have h' : pkind (tA ts i) = 0 := h
      rcases cls_cases (tA ts i) with ⟨h2, _⟩ | ⟨h2, _⟩ | ⟨h2, _⟩ | ⟨h2, _⟩ <;> omega
    · omega
  · rintro rfl; rw [cur_end]

def LinesRes (ts : Toks) (len i : Nat) (acc : List PLine) (r : List PLine × St) : Prop :=
  (r.2.2 = true ∧ FA ts len i sLine 0 = ((cur (pp ts len) r.2.1).p : Int)) ∨
  (r.2.2 = false ∧ FA ts len i sLine 0 < 0 ∧ ∃ new, r.1 = acc ++ new ∧ (∀ x ∈ new, GoodP x) ∧ AllLT new ((linesG (ts.drop i) i i).map (segT ts)) ∧
    ∀ n, ts.length < n → (∀ p ∈ linesG (ts.drop i) i i, goodL n (segT ts p)) ∧ ∀ out, textL2 new (out, false) = (textG n ts (linesG (ts.drop i) i i) out, false))

theorem lines_sim {ts : Toks} {len : Nat} (hts : TsOk ts) (hlen : ts.length ≤ 4000) (n : Nat) : ∀ (i : Nat) (acc : List PLine), i ≤ ts.length → togo (pp ts len) (i, false) ≤ n → LinesRes ts len i acc (pLines (pp ts len) n (i, false) acc) := by
  induction n with
  | zero => intro i acc hi h; unfold togo at h; rw [pp_len] at h; simp only at h; omega
  | succ n ih =>
    intro i acc hi hn
    rw [pLines]
    simp only
    by_cases hk : (cur (pp ts len) i).k = 0
    · rw [if_pos hk]
      obtain rfl := (k_end hi).1 hk
      refine .inr ⟨rfl, ?_, [], by simp, by simp, ?_, fun n _ => ⟨?_, ?_⟩⟩
      · unfold FA; rw [List.drop_length, formTo, if_pos rfl]; decide
      · rw [List.drop_length, linesG]; trivial
      · intro p hp; rw [List.drop_length, linesG] at hp; simp at hp
      · intro out; rw [List.drop_length, linesG]; rfl
    · rw [if_neg hk]
      have hi' : i < ts.length := by
        rcases Nat.lt_or_ge i ts.length with h | h
        · exact h
        · exact absurd ((k_end (len := len) hi).2 (by omega)) hk
      have hg := togo_line (P := pp ts len) (s := (i, false)) rfl (by rw [pp_len]; show i < ts.length + 1; omega)
      have hL := line_sim (len := len) hts hlen hi'
      generalize pLine (pp ts len) (i, false) = r at hL hg ⊢
      obtain ⟨x, ⟨j, f⟩⟩ := r
      rcases hL with ⟨h1, h2⟩ | ⟨h1, h2, h3, h4, h5, u, e, h6, h7, h8, hLT, h9⟩
      · simp only at h1; subst h1
        refine .inl ?_
        rw [lines_f]
        exact ⟨rfl, h2⟩
      · simp only at h1 h2 h3 h4 h5 h6 h9; subst h1
        have hI := ih j (acc ++ [x]) h3 (by simp only at hg; omega)
        have hj : i + u.length + 1 = j := by
          have h := congrArg List.length h6
          simp only [List.length_append, List.length_drop, List.length_cons] at h
          omega
        have hl : linesG (ts.drop i) i i = (i, u.length) :: linesG (ts.drop j) j j := by
          rw [h6, linesG_line u e _ h8 h7, hj, show i + u.length - i = u.length by omega]
        have hs : segT ts (i, u.length) = u := by
          unfold segT; rw [h6]; exact List.take_left' rfl
        rcases hI with ⟨g1, g2⟩ | ⟨g1, g2, new, g3, g4, gL, g5⟩
        · exact .inl ⟨g1, by rw [h4]; exact g2⟩
        · refine .inr ⟨g1, by rw [h4]; exact g2, x :: new, by rw [g3]; simp, ?_, ?_, fun n hn => ?_⟩
          · intro y hy
            rcases List.mem_cons.1 hy with rfl | hy
            · exact h5
            · exact g4 y hy
          · rw [hl, List.map_cons, hs]; exact ⟨hLT, gL⟩
          · obtain ⟨a1, a2⟩ := h9 n hn
            obtain ⟨b1, b2⟩ := g5 n hn
            rw [hl]
            refine ⟨?_, fun out => ?_⟩
            · intro p hp
              rcases List.mem_cons.1 hp with rfl | hp
              · rw [hs]; exact a1
              · exact b1 p hp
            · rw [textL2, a2, b2, textG, hs]

theorem pLines_count (P : List PT) (n : Nat) : ∀ s acc, (pLines P n s acc).1.length ≤ acc.length + n := by
  induction n with
  | zero => intro s acc; exact Nat.le_refl _
  | succ n ih =>
    intro s acc
    rw [pLines]
    split
    · simp only; omega
    · split
      · simp only; omega
      · have := ih (pLine P s).2 (acc ++ [(pLine P s).1])
        simp only [List.length_append, List.length_singleton] at this
        omega

theorem textG_len (n : Nat) (ts : Toks) (ps : List (Nat × Nat)) : ∀ s, (textG n ts ps s).length ≤ s.length + costL ts ps := by
  induction ps with
  | nil => intro s; simp [textG, costL]
  | cons p r ih =>
    intro s
    rw [textG, costL]
    have h1 := ih (s ++ lineText n (segT ts p) ++ [59, 10])
    have h2 := lineText_len n (segT ts p)
    simp only [List.length_append, List.length_cons, List.length_nil] at h1
    omega

/-- What is plain of a text besides: where its fault is; its lines' tokens. -/
structure PureC (l : Bs) : Prop where
  place : (readB l).2.2 = true → formB l = ((cur (toP l) (readB l).2.1).p : Int)
  lines : (readB l).2.2 = false → AllLT (readB l).1 ((linesB (toksAt l 0)).map (segT (toksAt l 0)))

theorem pure_both {n : Nat} {l : Bs} (hl : l.length ≤ 4000) (hn : 4000 < n) : PureT n l ∧ PureC l := by
  have ht : (toksAt l 0).length ≤ 4000 := Nat.le_trans (toksAt_len l 0) hl
  have eP : toP l = pp (toksAt l 0) l.length := rfl
  have eF : FA (toksAt l 0) l.length 0 sLine 0 = formB l := rfl
  have hR := lines_sim (len := l.length) (toksAt_ok l) ht (2 * (toP l).length + 1) 0 [] (Nat.zero_le _) (by rw [eP]; unfold togo; simp only; omega)
  rw [← eP] at hR
  have eR : pLines (toP l) (2 * (toP l).length + 1) (0, false) [] = readB l := rfl
  rw [eR] at hR
  unfold LinesRes at hR
  rw [eF, ← eP] at hR
  have hm : (readB l).1.length ≤ 10000 := by
    have := pLines_count (toP l) (2 * (toP l).length + 1) (0, false) []
    rw [eR, eP, pp_len] at this
    simp only [List.length_nil] at this
    omega
  have hs : (tidyT n l).length ≤ bigW := by
    have h1 := textG_len n (toksAt l 0) (linesB (toksAt l 0)) []
    have h2 := costL_all (toksAt l 0)
    have h3 := toksAt_sz l
    unfold tidyT bigW
    simp only [List.length_nil] at h1
    omega
  rcases hR with ⟨h1, h2⟩ | ⟨h1, h2, new, h3, h4, hA, h5⟩
  · refine ⟨⟨fun _ => by rw [h2]; exact Int.natCast_nonneg _, fun h => ?_, fun h => ?_, hm, fun h => ?_, hs, fun h => ?_⟩, fun _ => h2, fun h => ?_⟩
    · rw [h1] at h; exact absurd h (by decide)
    · rw [h1] at h; exact absurd h (by decide)
    · rw [h1] at h; exact absurd h (by decide)
    · rw [h2] at h; exact absurd h (by omega)
    · rw [h1] at h; exact absurd h (by decide)
  · obtain ⟨a1, a2⟩ := h5 n (by omega)
    rw [List.nil_append] at h3
    refine ⟨⟨fun h => ?_, fun _ => h2, fun _ => ?_, hm, fun _ => ?_, hs, fun _ => a1⟩, fun h => ?_, fun _ => ?_⟩
    · rw [h1] at h; exact absurd h (by decide)
    · rw [h3]; exact h4
    · rw [h3, a2]; rfl
    · rw [h1] at h; exact absurd h (by decide)
    · rw [h3]; exact hA
theorem pure_any {n : Nat} {l : Bs} (hl : l.length ≤ 4000) (hn : 4000 < n) : PureT n l := (pure_both hl hn).1

end Go.Proofs.YtnbpdffdnphbeaaGreatDoor
