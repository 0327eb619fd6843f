/- What crowded of the document's answer gives: is a line one more than there may be, or is there too much in it? -/
import Derived.Test.YtnbpdffdnphbeaaGreatRfBase2
import Derived.Test.YtnbpdffdnphbeaaGreatPRing3
import Derived.Test.YtnbpdffdnphbeaaGreatCkName
import Derived.Deep.RegionWith
import Derived.Test.YtnbpdffdnphbeaaGreatStCheck
import Derived.Test.YtnbpdffdnphbeaaGreatWsum
import Derived.Test.YtnbpdffdnphbeaaGreatRkGraph
import Derived.Test.YtnbpdffdnphbeaaGreatRgGraph
import Derived.Test.YtnbpdffdnphbeaaGreatRkLinks
namespace Go.Proofs.YtnbpdffdnphbeaaGreat
open Go.RowKit

theorem cls_num_len {s : Bs} (h : clsB s = numberB) : s.length ≤ 4 := by
  rcases Nat.lt_or_ge 4 s.length with h1 | h1
  · exfalso
    have hk := (cls_number s).2 h
    unfold pkind at hk
    split at hk
    · split at hk
      · omega
      · split at hk <;> omega
    · split at hk
      · rw [if_pos (.inl h1)] at hk; omega
      · split at hk <;> omega
  · exact h1

theorem cntR_drop (c : Bs) (us : List Toks) (i k : Nat) (hi : i < us.length) (hk : k ≤ i) : cntR c ((us.take (i + 1)).drop k) = (if cA (uA us k) 0 = c then 1 else 0) + cntR c ((us.take (i + 1)).drop (k + 1)) := by
  have hl : k < (us.take (i + 1)).length := by rw [List.length_take]; omega
  rw [List.drop_eq_getElem_cons hl, cntR]
  have e : (us.take (i + 1))[k] = uA us k := by
    rw [List.getElem_take]; unfold uA; rw [List.getD, List.getElem?_eq_getElem (by omega)]; rfl
  rw [e]
theorem cntR_le (c : Bs) (us : List Toks) : cntR c us ≤ us.length := by
  induction us with
  | nil => exact Nat.le_refl _
  | cons u r ih => rw [cntR, List.length_cons]; split <;> omega

/-- The text of the token ahead. -/
def prevT (u : Toks) (k : Nat) : Bs := if k = 0 then [] else tA u (k - 1)
theorem prevT_succ (u : Toks) (k : Nat) : prevT u (k + 1) = tA u k := by unfold prevT; rw [if_neg (by omega)]; rfl
theorem take_drop_cons (u : Toks) (w k : Nat) (hk : k < w) (hw : w ≤ u.length) : (u.take w).drop k = u.getD k (0, []) :: (u.take w).drop (k + 1) := by
  have hl : k < (u.take w).length := by rw [List.length_take]; omega
  rw [drop_consT (u.take w) k hl]
  congr 1
  rw [List.getD, List.getD, List.getElem?_take_of_lt hk]
theorem cntPM_le (u : Toks) : cntPM u ≤ u.length := by
  induction u with
  | nil => exact Nat.le_refl _
  | cons t r ih => rw [cntPM, List.length_cons]; split <;> omega

theorem big_step (u : Toks) (w k : Nat) (hk : k < w) (hw : w ≤ u.length) : bigG (prevT u k) ((u.take w).drop k) = ((decide (cA u k = [42]) && decide (9 < valF 0 (prevT u k))) || bigG (prevT u (k + 1)) ((u.take w).drop (k + 1))) := by
  rw [take_drop_cons u w k hk hw, bigG, prevT_succ]; rfl
theorem pm_step (u : Toks) (w k : Nat) (hk : k < w) (hw : w ≤ u.length) : cntPM ((u.take w).drop k) = (if cA u k = [43] ∨ cA u k = [45] then 1 else 0) + cntPM ((u.take w).drop (k + 1)) := by
  rw [take_drop_cons u w k hk hw, cntPM]; rfl

/-- How many lines of a class there are, up to one: the loop's answer, in any world. -/
theorem crowdR_no {us : List Toks} {i : Nat} (h : ¬ limR (cA (uA us i) 0) < (cntR (cA (uA us i) 0) (us.take (i + 1)) : Int)) (hk : ¬ cA (uA us i) 0 = kRule) : crowdR us i = false := by
  unfold crowdR; rw [decide_eq_false h, decide_eq_false hk]; rfl
theorem crowdR_rule {us : List Toks} {i : Nat} (h : ¬ limR (cA (uA us i) 0) < (cntR (cA (uA us i) 0) (us.take (i + 1)) : Int)) (hk : cA (uA us i) 0 = kRule) : crowdR us i = manyU (uA us i) := by
  unfold crowdR; rw [decide_eq_false h, decide_eq_true hk]; rfl

end Go.Proofs.YtnbpdffdnphbeaaGreat

/- What named and fault of the document's answer give of a line. -/
namespace Go.Proofs.YtnbpdffdnphbeaaGreat
open Go.RowKit

theorem badI_end (us : List Toks) (u : Toks) (k : Nat) (h : ¬ k < u.length) : badI us u (u.length - k) k = false := by
  rw [show u.length - k = 0 by omega]; rfl
theorem badI_step (us : List Toks) (u : Toks) (k : Nat) (h : k < u.length) : badI us u (u.length - k) k = if cA u k = nameB ∧ fitsR us u k = false then true else badI us u (u.length - (k + 1)) (k + 1) := by
  rw [show u.length - k = (u.length - (k + 1)) + 1 by omega, badI]

theorem cl12 {f1 f2 : Int} {i : Nat} {hd : Bool} (h1 : ¬ f1 < (i : Int)) (h2 : ¬ f2 < (i : Int)) : (decide (f1 < (i : Int)) || decide (f2 < (i : Int)) || hd) = hd := by rw [decide_eq_false h1, decide_eq_false h2]; rfl
theorem cl1 {f1 : Int} {i : Nat} {hd : Bool} (h1 : ¬ f1 < (i : Int)) : (decide (f1 < (i : Int)) || hd) = hd := by rw [decide_eq_false h1]; rfl
theorem firstG_hit (p : Toks → Bool) (us : List Toks) : ∀ i : Nat, 0 ≤ firstG p us i → p (uA us ((firstG p us i).toNat - i)) = true := by
  induction us with
  | nil => intro i h; simp [firstG] at h
  | cons u r ih =>
    intro i h
    rw [firstG] at h ⊢
    split
    · rename_i hp; simpa [uA] using hp
    · rename_i hp
      rw [if_neg hp] at h
      have h1 := (firstG_bound p r (i + 1)).2.2 h
      have := ih (i + 1) h
      rw [show (firstG p r (i + 1)).toNat - i = ((firstG p r (i + 1)).toNat - (i + 1)) + 1 by omega]
      exact this
theorem firstB_at {ls : List PLine} {us : List Toks} (hA : AllLT ls us) {nm : Bs} (h : 0 ≤ firstB us kRule 1 nm) : ∃ f : Nat, firstB us kRule 1 nm = f ∧ f < us.length ∧ 6 ≤ (uA us f).length := by
  have hb := firstG_bound (isU kRule 1 nm) us 0
  have hh := firstG_hit (isU kRule 1 nm) us 0 h
  obtain ⟨f, hf⟩ := Int.eq_ofNat_of_zero_le h
  unfold firstB at hf h ⊢
  rw [hf] at hh hb ⊢
  have hfl : f < us.length := by omega
  refine ⟨f, rfl, hfl, ?_⟩
  unfold isU at hh
  rw [Bool.and_eq_true] at hh
  exact (hA.get f hfl).len (by simpa using hh.1)

end Go.Proofs.YtnbpdffdnphbeaaGreat

/- What Check of the document's answer gives of a text; and that it is the program's answer. -/
namespace Go.Proofs.YtnbpdffdnphbeaaGreat
open Go.RowKit

def crowdG (us : List Toks) : Nat → Nat → Option Nat
  | 0, _ => none
  | n + 1, i => if crowdR us i = true then some i else crowdG us n (i + 1)
def faultG (us : List Toks) : Nat → Nat → Option Nat
  | 0, _ => none
  | n + 1, i => if faultR us i = 0 then faultG us n (i + 1) else some i
def ringsU (us : List Toks) : Int × Int := if ringU us false = true then (7, 0) else if ringU us true = true then (7, 1) else (0, 0)
def faultsU (us : List Toks) : Int × Int := match faultG us us.length 0 with | some i => (faultR us i, (i : Int)) | none => ringsU us
/-- The document's answer of lines. -/
def docL (us : List Toks) : Int × Int := match crowdG us us.length 0 with | some i => (3, (i : Int)) | none => faultsU us

theorem crowdG_same {ls : List PLine} {us : List Toks} (hA : AllLT ls us) (n : Nat) : ∀ i, i + n = us.length → crowdG us n i = manyG ls n i := by
  induction n with
  | zero => intro i _; rfl
  | succ n ih => intro i h; rw [crowdG, manyG, crowd_same hA (by omega), ih (i + 1) (by omega)]
theorem faultG_same {ls : List PLine} {us : List Toks} (hA : AllLT ls us) (n : Nat) : ∀ i, i + n = us.length → faultG us n i = errG ls n i := by
  induction n with
  | zero => intro i _; rfl
  | succ n ih => intro i h; rw [faultG, errG, fault_same hA (by omega), ih (i + 1) (by omega)]
theorem faultG_hit (us : List Toks) (n : Nat) : ∀ i j, faultG us n i = some j → i ≤ j ∧ j < i + n := by
  induction n with
  | zero => intro i j h; simp [faultG] at h
  | succ n ih => intro i j h; rw [faultG] at h; split at h
                 · have := ih _ _ h; omega
                 · obtain rfl := Option.some.inj h; omega
theorem manyG_none {ls : List PLine} (n : Nat) : ∀ i, manyG ls n i = none → ∀ j, i ≤ j → j < i + n → manyP ls j = false := by
  induction n with
  | zero => intro i _ j h1 h2; omega
  | succ n ih =>
    intro i h j h1 h2
    rw [manyG] at h
    split at h
    · cases h
    · rename_i hm
      by_cases hj : j = i
      · subst hj; simpa using hm
      · exact ih (i + 1) h j (by omega) (by omega)
theorem errG_none {ls : List PLine} (n : Nat) : ∀ i, errG ls n i = none → ∀ j, i ≤ j → j < i + n → errP ls j = 0 := by
  induction n with
  | zero => intro i _ j h1 h2; omega
  | succ n ih =>
    intro i h j h1 h2
    rw [errG] at h
    split at h
    · rename_i hm
      by_cases hj : j = i
      · subst hj; exact hm
      · exact ih (i + 1) h j (by omega) (by omega)
    · cases h
theorem cntK_app (k : Int) (xs ys : List PLine) : cntK k (xs ++ ys) = cntK k xs + cntK k ys := by
  induction xs with
  | nil => simp [cntK]
  | cons x r ih => rw [List.cons_append, cntK, ih, cntK]; omega
theorem few_rules {ls : List PLine} (h : ∀ i, i < ls.length → manyP ls i = false) : cntK 3 ls ≤ 8 := by
  have key : ∀ n, n ≤ ls.length → cntK 3 (ls.take n) ≤ 8 := by
    intro n
    induction n with
    | zero => intro _; simp [cntK]
    | succ n ih =>
      intro hn
      rw [take_succ_lA ls n (by omega), cntK_app]
      have ih := ih (by omega)
      by_cases hk : (lA ls n).kind = 3
      · have hm := h n (by omega)
        unfold manyP at hm
        rw [Bool.or_eq_false_iff, decide_eq_false_iff_not, hk] at hm
        have hl : limP 3 = 8 := by decide
        rw [hl] at hm
        simp only [cntK, hk, if_true]
        omega
      · simp only [cntK, if_neg hk]; omega
  have := key ls.length (Nat.le_refl _)
  rwa [List.take_length] at this

theorem docL_same {ls : List PLine} {us : List Toks} (hA : AllLT ls us) : docL us = checkL ls := by
  have hl := hA.len
  unfold docL checkL
  rw [crowdG_same hA us.length 0 (by omega), ← hl]
  cases hm : manyG ls ls.length 0 with
  | some i => rfl
  | none =>
    simp only
    unfold faultsU errsP
    rw [faultG_same hA us.length 0 (by omega), ← hl]
    cases he : errG ls ls.length 0 with
    | some i =>
      simp only
      have hi : i < us.length := by
        have h1 := faultG_same hA us.length 0 (by omega)
        rw [← hl, he] at h1
        have := faultG_hit us ls.length 0 i (by rw [h1])
        omega
      rw [fault_same hA hi]
    | none =>
      simp only
      have h1 := fun i (hi : i < ls.length) => manyG_none ls.length 0 hm i (Nat.zero_le _) (by omega)
      have h2 := fun i (hi : i < ls.length) => errG_none ls.length 0 he i (Nat.zero_le _) (by omega)
      have h8 := few_rules h1
      have hn : (labsB ls).Nodup := by
        refine labs_nodup ls (fun i hi hk => ?_)
        have := h2 i hi
        unfold errP at this
        rw [if_neg (by rw [hk]; decide), if_neg (by rw [hk]; decide), if_pos hk] at this
        unfold ruleE at this
        split at this
        · cases this
        · rename_i hh
          cases hx : hasL (ls.take i) 3 (lA ls i).name with
          | false => rfl
          | true => rw [hx] at hh; exact absurd rfl hh
      unfold ringsU ringsP
      rw [ring_heads hA h8, ring_labs hA h8 hn]

/-- The document's lines of a text. -/
def usOf (l : Bs) : List Toks := (linesB (toksAt l 0)).map (segT (toksAt l 0))
def chkR (l : Bs) : Int × Int := if 4000 < l.length then (1, 0) else if 0 ≤ formB l then (2, formB l) else docL (usOf l)

theorem chk_same {n : Nat} {l : Bs} (h : l.length ≤ 4000 → PureT n l ∧ PureC l) : chkR l = chkP l := by
  unfold chkR chkP
  by_cases hl : 4000 < l.length
  · rw [if_pos hl, if_pos hl]
  · rw [if_neg hl, if_neg hl]
    obtain ⟨hT, hC⟩ := h (by omega)
    cases hf : (readB l).2.2
    · rw [if_neg (by have := hT.reads hf; omega)]
      exact docL_same (hC.lines hf)
    · rw [if_pos (hT.fails hf), hC.place hf]

end Go.Proofs.YtnbpdffdnphbeaaGreat

/- A ring that the program tells is one of the document's. -/
namespace Go.Proofs.YtnbpdffdnphbeaaGreat

/-- A ring, as the document asks for one: a step from each name to the next and from the last to the first, no name twice. -/
structure DocRing (us : List Toks) (rules : Bool) (R : List Bs) : Prop where
  pos : 0 < R.length
  few : R.length ≤ 8
  step : ∀ i, i < R.length → stepR us rules (R.getD i []) (R.getD ((i + 1) % R.length) []) = true
  once : ∀ i j, j < i → i < R.length → R.getD j [] ≠ R.getD i []

theorem lt_of {x : PLine} : ∀ {ls : List PLine} {us : List Toks}, AllLT ls us → x ∈ ls → ∃ u, LT x u := by
  intro ls
  induction ls with
  | nil => intro us _ h; simp at h
  | cons y r ih =>
    intro us hA h
    cases us with
    | nil => exact absurd hA id
    | cons u us =>
      rcases List.mem_cons.1 h with rfl | h
      · exact ⟨u, hA.1⟩
      · exact ih hA.2 h
theorem heads_ne {ls : List PLine} {us : List Toks} (hA : AllLT ls us) (b : Nat) (hb : b < (headsB ls).length) : (headsB ls).getD b [] ≠ [] := by
  obtain ⟨-, hmem, -⟩ := heads_inv ls [] List.nodup_nil
  intro e
  have h1 : (headsB ls).getD b [] ∈ headsB ls := by simp [List.getD, hb]
  rw [e] at h1
  have h2 := (hmem []).1 h1
  rcases h2 with h2 | h2
  · simp at h2
  · obtain ⟨x, hx, hc⟩ := List.any_eq_true.1 h2
    unfold isC at hc
    rw [Bool.and_eq_true, decide_eq_true_iff, decide_eq_true_iff] at hc
    obtain ⟨u, hu⟩ := lt_of hA hx
    obtain ⟨w, hw⟩ := hu.rule (hu.k3.1 hc.1)
    exact hw.ne hc.2
theorem arr_heads {ls : List PLine} {us : List Toks} (hA : AllLT ls us) {a b : Nat} (h : arr (namG (headsB ls) ls gZ) a b) : a < (headsB ls).length ∧ b < (headsB ls).length ∧ stepR us false ((headsB ls).getD a []) ((headsB ls).getD b []) = true := by
  obtain ⟨ha, hb, hg⟩ := h
  obtain ⟨hn, -, -⟩ := heads_inv ls [] List.nodup_nil
  rw [namG_get _ _ ha hb _ gZ_len, gZ_get, Bool.false_or] at hg
  have e1 : ls.any (arN (headsB ls) a b) = (decide (a < (headsB ls).length) && (decide (b < (headsB ls).length) && ls.any (nmX ((headsB ls).getD a []) ((headsB ls).getD b [])))) := by
    rw [← any_and, ← any_and]
    congr 1
    funext x
    exact ar_nm hn (heads_ne hA b) x
  rw [e1, Bool.and_eq_true, Bool.and_eq_true, decide_eq_true_iff, decide_eq_true_iff] at hg
  refine ⟨hg.1, hg.2.1, ?_⟩
  unfold stepR namesR
  simp only
  rw [← any_same hA (fun x u hx => (nm_same hx _ _).symm)]
  exact hg.2.2
theorem arr_labs {ls : List PLine} {us : List Toks} (hA : AllLT ls us) (hn : (labsB ls).Nodup) {a b : Nat} (h : arr (ordG (labsB ls) ls gZ) a b) : a < (labsB ls).length ∧ b < (labsB ls).length ∧ stepR us true ((labsB ls).getD a []) ((labsB ls).getD b []) = true := by
  obtain ⟨ha, hb, hg⟩ := h
  rw [ordG_get _ _ ha hb _ gZ_len, gZ_get, Bool.false_or] at hg
  have e1 : ls.any (arO (labsB ls) a b) = (decide (a < (labsB ls).length) && (decide (b < (labsB ls).length) && ls.any (ovX ((labsB ls).getD a []) ((labsB ls).getD b [])))) := by
    rw [← any_and, ← any_and]
    congr 1
    funext x
    exact ar_ov hn x
  rw [e1, Bool.and_eq_true, Bool.and_eq_true, decide_eq_true_iff, decide_eq_true_iff] at hg
  refine ⟨hg.1, hg.2.1, ?_⟩
  unfold stepR overR
  simp only
  rw [← any_same hA (fun x u hx => (ov_same hx _ _).symm)]
  exact hg.2.2

theorem pickG_map (names : List Bs) (P : List Nat) : (∀ p ∈ P, p < names.length) → ∀ acc, pickG names P acc = acc ++ P.map (fun p => names.getD p []) := by
  induction P with
  | nil => intro _ acc; simp [pickG]
  | cons p r ih => intro h acc; rw [pickG, if_pos (h p (by simp)), ih (fun q hq => h q (by simp [hq]))]; simp
theorem nodup_getD {names : List Bs} (hn : names.Nodup) {a b : Nat} (ha : a < names.length) (hb : b < names.length) (e : names.getD a [] = names.getD b []) : a = b := by
  have h1 := (find_iff hn (names.getD b []) a).2 ⟨ha, e⟩
  have h2 := (find_iff hn (names.getD b []) b).2 ⟨hb, rfl⟩
  omega
theorem doc_of {us : List Toks} {rules : Bool} {G : List Bool} {names : List Bs} {P : List Nat} (hn : names.Nodup) (hr : IsRing G P) (ha : ∀ a b, arr G a b → a < names.length ∧ b < names.length ∧ stepR us rules (names.getD a []) (names.getD b []) = true) : DocRing us rules (pickB names P) := by
  have hlt : ∀ i, i < P.length → P.getD i 0 < names.length := fun i hi => (ha _ _ (hr.arrow i hi)).1
  have hmem : ∀ p ∈ P, p < names.length := fun p hp => by
    obtain ⟨i, hi, rfl⟩ := List.getElem_of_mem hp
    have := hlt i hi
    simpa [List.getD, hi] using this
  have e : pickB names P = P.map (fun p => names.getD p []) := by unfold pickB; rw [pickG_map names P hmem, List.nil_append]
  rw [e]
  have hget : ∀ i, i < P.length → (P.map (fun p => names.getD p [])).getD i [] = names.getD (P.getD i 0) [] := fun i hi => by simp [List.getD, hi]
  have hpos := hr.pos
  have hfew := hr.few
  refine ⟨by rw [List.length_map]; exact hpos, by rw [List.length_map]; exact hfew, fun i hi => ?_, fun i j hji hi => ?_⟩
  · rw [List.length_map] at hi ⊢
    rw [hget i hi, hget _ (Nat.mod_lt _ hpos)]
    exact (ha _ _ (hr.arrow i hi)).2.2
  · rw [List.length_map] at hi
    rw [hget i hi, hget j (by omega)]
    intro he
    exact hr.once i j hji hi (nodup_getD hn (hlt j (by omega)) (hlt i hi) he)

theorem inpE_lt (ls : List PLine) (i : Nat) : inpE ls i < 7 := by unfold inpE; split <;> decide
theorem errP_lt (ls : List PLine) (i : Nat) : errP ls i < 7 := by
  have h := inpE_lt ls i
  unfold errP
  split
  · unfold numE; split
    · split <;> decide
    · exact h
  · split
    · exact h
    · split
      · unfold ruleE; split <;> decide
      · split
        · unfold overE; split
          · decide
          · split <;> decide
        · decide

theorem ring_doc {ls : List PLine} {us : List Toks} (hA : AllLT ls us) (h : (checkL ls).1 = 7) : DocRing us (decide ((checkL ls).2 = 1)) (ringL ls) := by
  revert h
  unfold checkL
  cases hm : manyG ls ls.length 0 with
  | some i => intro h; exact absurd (show (3 : Int) = 7 from h) (by decide)
  | none =>
    simp only
    unfold errsP
    cases he : errG ls ls.length 0 with
    | some i => intro h; have h1 : errP ls i = 7 := h; have h2 := errP_lt ls i; omega
    | none =>
      simp only
      have h2 := fun i (hi : i < ls.length) => errG_none ls.length 0 he i (Nat.zero_le _) (by omega)
      have hn : (labsB ls).Nodup := by
        refine labs_nodup ls (fun i hi hk => ?_)
        have := h2 i hi
        unfold errP at this
        rw [if_neg (by rw [hk]; decide), if_neg (by rw [hk]; decide), if_pos hk] at this
        unfold ruleE at this
        split at this
        · cases this
        · rename_i hh
          cases hx : hasL (ls.take i) 3 (lA ls i).name with
          | false => rfl
          | true => rw [hx] at hh; exact absurd rfl hh
      obtain ⟨hhn, -, -⟩ := heads_inv ls [] List.nodup_nil
      unfold ringsP
      by_cases k1 : ringB (namG (headsB ls) ls gZ) = true
      · rw [if_pos k1]
        intro _
        have k1' : loopB8 (chainsB (namG (headsB ls) ls gZ)) < 8 := by unfold ringB at k1; exact of_decide_eq_true k1
        have hr := ringPts_on (by rw [namG_len]; exact gZ_len) k1'
        have e : ringL ls = pickB (headsB ls) (ringPts (namG (headsB ls) ls gZ)) := by unfold ringL; rw [if_pos hr.pos]
        rw [e]
        exact doc_of hhn hr (fun a b h => arr_heads hA h)
      · rw [if_neg k1]
        by_cases k2 : ringB (ordG (labsB ls) ls gZ) = true
        · rw [if_pos k2]
          intro _
          have k1' : ¬ loopB8 (chainsB (namG (headsB ls) ls gZ)) < 8 := by unfold ringB at k1; exact fun h => k1 (decide_eq_true h)
          have k2' : loopB8 (chainsB (ordG (labsB ls) ls gZ)) < 8 := by unfold ringB at k2; exact of_decide_eq_true k2
          have hr := ringPts_on (by rw [ordG_len]; exact gZ_len) k2'
          have e : ringL ls = pickB (labsB ls) (ringPts (ordG (labsB ls) ls gZ)) := by unfold ringL; rw [ringPts_off k1', if_neg (by decide)]
          rw [e]
          exact doc_of hn hr (fun a b h => arr_labs hA hn h)
        · rw [if_neg k2]
          intro h; exact absurd (show (0 : Int) = 7 from h) (by decide)
end Go.Proofs.YtnbpdffdnphbeaaGreat

/- What level of the document's answer gives: the level of a conclusion. -/
namespace Go.Proofs.YtnbpdffdnphbeaaGreat
open Go.RowKit

theorem gA_heads {ls : List PLine} {us : List Toks} (hA : AllLT ls us) {a b : Nat} (ha : a < (headsB ls).length) (hb : b < (headsB ls).length) (ha8 : a < 8) (hb8 : b < 8) : gA (namG (headsB ls) ls gZ) a b = namesR us ((headsB ls).getD a []) ((headsB ls).getD b []) := by
  obtain ⟨hn, -, -⟩ := heads_inv ls [] List.nodup_nil
  rw [namG_get _ _ ha8 hb8 _ gZ_len, gZ_get, Bool.false_or]
  have e1 : ls.any (arN (headsB ls) a b) = (decide (a < (headsB ls).length) && (decide (b < (headsB ls).length) && ls.any (nmX ((headsB ls).getD a []) ((headsB ls).getD b [])))) := by
    rw [← any_and, ← any_and]
    congr 1
    funext x
    exact ar_nm hn (heads_ne hA b) x
  rw [e1, decide_eq_true ha, decide_eq_true hb, Bool.true_and, Bool.true_and]
  unfold namesR
  exact any_same hA (fun x u hx => (nm_same hx _ _).symm)
theorem levG_le (G : List Bool) (a : Nat) : levG G a ≤ 7 := lv_le G 7 a
theorem lev_heads {ls : List PLine} {us : List Toks} (hA : AllLT ls us) (h8 : (headsB ls).length ≤ 8) (hr : ringB (namG (headsB ls) ls gZ) = false) (i : Nat) (hi : i < 8) : mxG (gA (namG (headsB ls) ls gZ) i) (levG (namG (headsB ls) ls gZ)) (headsB ls).length 0 0 = levG (namG (headsB ls) ls gZ) i := by
  have hl : (namG (headsB ls) ls gZ).length = 64 := by rw [namG_len]; exact gZ_len
  rw [← lev_fix hl hr i hi]
  have := mx_app (gA (namG (headsB ls) ls gZ) i) (levG (namG (headsB ls) ls gZ)) (headsB ls).length (8 - (headsB ls).length) 0 0 (fun z h1 h2 => by
    cases hg : gA (namG (headsB ls) ls gZ) i z with
    | false => rfl
    | true => have := (arr_heads hA ⟨hi, by omega, hg⟩).2.1; omega)
  rw [show (headsB ls).length + (8 - (headsB ls).length) = 8 by omega] at this
  exact this.symm

end Go.Proofs.YtnbpdffdnphbeaaGreat

/- What Levels and Load of the document's answer give, and that the same levels are told the same. -/
namespace Go.Proofs.YtnbpdffdnphbeaaGreat
open Go.RowKit

/-- The document's levels of lines. -/
def docLv (ls : List PLine) : List (Bs × Nat) := (List.range (headsB ls).length).map fun i => ((headsB ls).getD i [], levG (namG (headsB ls) ls gZ) i)
theorem lvlG_map (S : List Nat) (hd : List Bs) : ∀ i acc, i + hd.length ≤ 8 → lvlG S hd i acc = acc ++ (List.range hd.length).map (fun j => (hd.getD j [], S.getD (i + j) 0)) := by
  induction hd with
  | nil => intro i acc _; simp [lvlG]
  | cons n r ih =>
    intro i acc h
    simp only [List.length_cons] at h
    rw [lvlG, if_pos (by omega), ih (i + 1) _ (by omega), List.length_cons, List.range_succ_eq_map, List.map_cons, List.map_map, List.append_assoc]
    congr 1
    simp only [List.singleton_append, List.getD_cons_zero, Nat.add_zero, List.cons.injEq, true_and]
    refine List.map_congr_left (fun j _ => ?_)
    simp only [Function.comp, Nat.succ_eq_add_one, List.getD_cons_succ]
    rw [show i + 1 + j = i + (j + 1) by omega]
theorem lvl_same (ls : List PLine) (h8 : (headsB ls).length ≤ 8) (hr : ringB (namG (headsB ls) ls gZ) = false) : lvlB ls = docLv ls := by
  unfold lvlB docLv
  rw [lvlG_map _ _ 0 [] (by omega), List.nil_append]
  refine List.map_congr_left (fun j hj => ?_)
  have hj8 : j < 8 := by have := List.mem_range.1 hj; omega
  rw [Nat.zero_add, levels_lev (by rw [namG_len]; exact gZ_len) hr j hj8]
theorem docLv_len (ls : List PLine) : (docLv ls).length = (headsB ls).length := by simp [docLv]

theorem docLv_take (ls : List PLine) (i : Nat) (hi : i < (headsB ls).length) : (docLv ls).take (i + 1) = (docLv ls).take i ++ [((headsB ls).getD i [], levG (namG (headsB ls) ls gZ) i)] := by
  have h : (docLv ls)[i]? = some ((headsB ls).getD i [], levG (namG (headsB ls) ls gZ) i) := by
    unfold docLv
    generalize levG (namG (headsB ls) ls gZ) = L
    rw [List.getElem?_map, List.getElem?_range hi, Option.map_some]
  rw [List.take_add_one, h, Option.toList_some]

theorem lvC_get (L : List (Bs × Nat)) : ∀ i, i < L.length → (lvC L)[i * 2]? = some (.string ⟨(L.getD i ([], 0)).1.toArray⟩) ∧ (lvC L)[i * 2 + 1]? = some (.int .i64 (((L.getD i ([], 0)).2 : Nat) : Int)) := by
  induction L with
  | nil => intro i h; simp at h
  | cons x r ih =>
    intro i h
    have e : lvC (x :: r) = .string ⟨x.1.toArray⟩ :: .int .i64 (x.2 : Nat) :: lvC r := by simp [lvC]
    rw [e]
    cases i with
    | zero => simp [List.getD]
    | succ i =>
      have := ih i (by simpa using h)
      rw [show (i + 1) * 2 = i * 2 + 1 + 1 by omega]
      simp only [List.getElem?_cons_succ, List.getD_cons_succ]
      exact this
/-- Names with levels lie in memory, behind a slice's pointer. -/
structure PrV (w : World) (a : Option Addr) (L : List (Bs × Nat)) : Prop where
  blk : 0 < L.length → ∃ g, a = some ⟨g, 0, none⟩ ∧ ∀ i, i < L.length → w.cell? ⟨g, i * 2, none⟩ = some (.string ⟨(L.getD i ([], 0)).1.toArray⟩) ∧ w.cell? ⟨g, i * 2 + 1, none⟩ = some (.int .i64 (((L.getD i ([], 0)).2 : Nat) : Int))
  few : L.length ≤ 10000
theorem own_pr {w : World} {B : Nat} {v : Value} {L : List (Bs × Nat)} (h : w.ownsRow B 128 2 v L.length (lvC L)) (hf : L.length ≤ 10000) : ∃ a c, v = .slice a L.length c ∧ PrV w a L := by
  rcases h.2 with ⟨h1, h2⟩ | ⟨g, cap, cur, h1, _, h3, _, _, _, h7⟩
  · exact ⟨none, 0, by rw [h1, h2], ⟨fun h0 => by omega, hf⟩⟩
  · exact ⟨some ⟨g, 0, none⟩, cap, h1, ⟨fun _ => ⟨g, rfl, fun i hi => ⟨cell_take2 h3 (n := L.length * 2) h7 (lvC_get L i hi).1, cell_take2 h3 (n := L.length * 2) h7 (lvC_get L i hi).2⟩⟩, hf⟩⟩
theorem PrV.keepB {w w' : World} {B : Nat} {a : Option Addr} {L : List (Bs × Nat)} (h : PrV w a L) (hb : Below B w w') (hB : w.heap.size ≤ B) : PrV w' a L :=
  ⟨fun h0 => let ⟨g, e, p⟩ := h.blk h0; ⟨g, e, fun j hj => ⟨by rw [hb.cell (p := ⟨g, j * 2, none⟩) (Nat.lt_of_lt_of_le (cell_ltG (p j hj).1) hB)]; exact (p j hj).1, by rw [hb.cell (p := ⟨g, j * 2 + 1, none⟩) (Nat.lt_of_lt_of_le (cell_ltG (p j hj).1) hB)]; exact (p j hj).2⟩⟩, h.few⟩

end Go.Proofs.YtnbpdffdnphbeaaGreat

/- What Levels of a Base that was loaded gives. -/
namespace Go.Proofs.YtnbpdffdnphbeaaGreat
open Go.RowKit

/-- A loaded Base lies in memory, with its levels. -/
structure BaseV (w : World) (b : Nat) (L : List (Bs × Nat)) : Prop where
  on : w.cell? ⟨b, 0, none⟩ = some (.bool true)
  lev : ∃ a c, w.cell? ⟨b, 2, none⟩ = some (.slice a L.length c) ∧ PrV w a L
theorem BaseV.below {w w' : World} {b : Nat} {L : List (Bs × Nat)} (h : BaseV w b L) (hb : Below w.heap.size w w') : BaseV w' b L := by
  obtain ⟨a, c, h1, h2⟩ := h.lev
  exact ⟨by rw [hb.cell (p := ⟨b, 0, none⟩) (cell_ltG h.on)]; exact h.on, a, c, by rw [hb.cell (p := ⟨b, 2, none⟩) (cell_ltG h.on)]; exact h1, h2.keepB hb (Nat.le_refl _)⟩

end Go.Proofs.YtnbpdffdnphbeaaGreat
