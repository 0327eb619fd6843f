/- What more of the small functions of the document's answer give: isNum, isFlag, isHead, limit, number. -/
import Derived.Test.YtnbpdffdnphbeaaGreatPCheck2
import Derived.Test.YtnbpdffdnphbeaaGreatCkAll
namespace Go.Proofs.YtnbpdffdnphbeaaGreat
open Go.RowKit

theorem AllLT.mem : ∀ {ls : List PLine} {us : List Toks}, AllLT ls us → ∀ u ∈ us, ∃ x, LT x u
  | [], [], _, u, hu => absurd hu (by simp)
  | x :: xs, v :: us, h, u, hu => by
    rcases List.mem_cons.1 hu with rfl | hu
    · exact ⟨x, h.1⟩
    · exact AllLT.mem h.2 u hu
  | [], _ :: _, h, _, _ => absurd h id
  | _ :: _, [], h, _, _ => absurd h id

theorem valF_drop (a : Int) (s : Bs) (i : Nat) (h : i < s.length) : valF a (s.drop i) = valF (10 * a + (((s.getD i 0).toNat : Int) - 48)) (s.drop (i + 1)) := by
  rw [drop_cons s i h, valF_cons]

end Go.Proofs.YtnbpdffdnphbeaaGreat

/- Plain facts: the document's conclusions, labels and steps are those that the program draws; so both tell a ring of the same rulebooks. -/
namespace Go.Proofs.YtnbpdffdnphbeaaGreat

/- The document's side. -/
def headsR (us : List Toks) : Nat → Nat → List Bs → List Bs
  | 0, _, acc => acc
  | n + 1, i, acc => headsR us n (i + 1) (if cA (uA us i) 0 = kRule ∧ firstB us kRule 3 (tA (uA us i) 3) = (i : Int) then acc ++ [tA (uA us i) 3] else acc)
def headsU (us : List Toks) : List Bs := headsR us us.length 0 []
def labsR (us : List Toks) : Nat → Nat → List Bs → List Bs
  | 0, _, acc => acc
  | n + 1, i, acc => labsR us n (i + 1) (if cA (uA us i) 0 = kRule then acc ++ [tA (uA us i) 1] else acc)
def labsU (us : List Toks) : List Bs := labsR us us.length 0 []
/-- A name at a place of a rule's line, by which its conclusion names another. -/
def nmAt (u : Toks) (d : Bs) (k : Nat) : Bool := decide (cA u k = nameB) && (decide (tA u k = d) && (decide (k < wA' u) || decide (cA u (k - 1) = [104, 97, 115])))
def nmI (u : Toks) (d : Bs) : Nat → Nat → Bool
  | 0, _ => false
  | n + 1, k => nmAt u d k || nmI u d n (k + 1)
def nmL (c d : Bs) (u : Toks) : Bool := decide (cA u 0 = kRule) && (decide (tA u 3 = c) && nmI u d (u.length - 5) 5)
def namesR (us : List Toks) (c d : Bs) : Bool := us.any (nmL c d)
def ovL (x y : Bs) (u : Toks) : Bool := decide (cA u 0 = kOver) && (decide (tA u 1 = x) && decide (tA u 2 = y))
def overR (us : List Toks) (x y : Bs) : Bool := us.any (ovL x y)
def stepR (us : List Toks) (rules : Bool) (x y : Bs) : Bool := match rules with | true => overR us x y | false => namesR us x y
def stepM (us : List Toks) (rules : Bool) (names : List Bs) (i k : Nat) : Bool := stepR us rules (names.getD i []) (names.getD k [])
def namesOf (us : List Toks) (rules : Bool) : List Bs := match rules with | true => labsU us | false => headsU us
def ringU (us : List Toks) (rules : Bool) : Bool := ringedB (stepM us rules (namesOf us rules)) (namesOf us rules).length

/- The program's side, as steps between lines. -/
def nmX (c d : Bs) (x : PLine) : Bool := decide (x.kind = 3) && (decide (x.conc = c) && ((x.sum.flatMap partN).any (fun y => decide (y.2 = d)) || (needsN x.nd).any (fun y => decide (y.1 = 1) && decide (y.2 = d))))
def ovX (x y : Bs) (l : PLine) : Bool := decide (l.kind = 4) && (decide (l.name = x) && decide (l.lower = y))

theorem nmI_guard (u : Toks) (d : Bs) (n : Nat) : ∀ k, wA' u < k → k + n = u.length → nmI u d n k = (needG (cA u (k - 1)) (u.drop k) []).any (fun y => decide (y.1 = 1) && decide (y.2 = d)) := by
  induction n with
  | zero => intro k _ h; rw [List.drop_eq_nil_of_le (by omega)]; rfl
  | succ n ih =>
    intro k hk h
    have hlt : k < u.length := by omega
    rw [drop_consT u k hlt, needG, nmI, nextc_drop, ih (k + 1) (by omega) (by omega), show k + 1 - 1 = k by omega, List.any_append]
    show (nmAt u d k || _) = ((if cA u k = nameB then [(needK (cA u (k - 1)) (nxA u k), tA u k)] else []).any _ || (needG (cA u k) (u.drop (k + 1)) []).any _)
    congr 1
    unfold nmAt
    rw [decide_eq_false (show ¬ k < wA' u by omega), Bool.false_or]
    by_cases hc : cA u k = nameB
    · rw [if_pos hc, decide_eq_true hc]
      have e : decide (needK (cA u (k - 1)) (nxA u k) = 1) = decide (cA u (k - 1) = [104, 97, 115]) := by
        unfold needK
        by_cases hh : cA u (k - 1) = [104, 97, 115]
        · rw [if_pos hh, decide_eq_true hh]; rfl
        · rw [if_neg hh, decide_eq_false hh]; split <;> rfl
      simp only [List.any_cons, List.any_nil, Bool.or_false, Bool.true_and, e]
      exact Bool.and_comm _ _
    · rw [if_neg hc, decide_eq_false hc]; rfl
theorem nmI_sum (u : Toks) (d : Bs) {w : Nat} (hw : wA' u = w) (hwl : w < u.length) (n : Nat) : ∀ k, k + n = w → nmI u d (u.length - k) k = ((needS ((u.take w).drop k)).any (fun y => decide (y.2 = d)) || nmI u d (u.length - w) w) := by
  induction n with
  | zero => intro k h; obtain rfl : k = w := by omega
            rw [List.drop_eq_nil_of_le (by rw [List.length_take]; omega)]; rfl
  | succ n ih =>
    intro k h
    have hlt : k < (u.take w).length := by rw [List.length_take]; omega
    have e0 : (u.take w).getD k (0, []) = u.getD k (0, []) := by rw [List.getD, List.getD, List.getElem?_take_of_lt (by omega)]
    rw [show u.length - k = (u.length - (k + 1)) + 1 by omega, nmI, ih (k + 1) (by omega), drop_consT (u.take w) k hlt, e0, needS, List.any_append, ← Bool.or_assoc]
    congr 2
    show nmAt u d k = (if cA u k = nameB then [(0, tA u k)] else []).any _
    unfold nmAt
    rw [decide_eq_true (show k < wA' u by omega), Bool.true_or, Bool.and_true]
    by_cases hc : cA u k = nameB
    · rw [if_pos hc, decide_eq_true hc]; simp
    · rw [if_neg hc, decide_eq_false hc]; rfl
theorem when_cls (u : Toks) : ∀ (k j : Nat), whenG u k = some j → k ≤ j ∧ cA u (j - k) = kWhen := by
  induction u with
  | nil => intro k j h; simp [whenG] at h
  | cons t r ih =>
    intro k j h
    rw [whenG] at h
    split at h
    · rename_i ht
      obtain rfl := Option.some.inj h
      exact ⟨Nat.le_refl _, by rw [Nat.sub_self]; exact ht⟩
    · obtain ⟨h1, h2⟩ := ih (k + 1) j h
      refine ⟨by omega, ?_⟩
      rw [show j - k = (j - (k + 1)) + 1 by omega]; exact h2
theorem nm_same {x : PLine} {u : Toks} (h : LT x u) (c d : Bs) : nmL c d u = nmX c d x := by
  unfold nmL nmX
  rw [decide_eq_decide.2 h.k3]
  by_cases hk : cA u 0 = kRule
  · obtain ⟨w, hw⟩ := h.rule hk
    have h1 := hw.wlo
    have h2 := hw.whi
    have hcw : cA u w = kWhen := by have := (when_cls u 0 w hw.whenAt).2; simpa using this
    rw [hw.conc, nmI_sum u d hw.wAt (by omega) (w - 5) 5 (by omega), hw.needs, show u.length - w = (u.length - (w + 1)) + 1 by omega, nmI]
    have e : nmAt u d w = false := by unfold nmAt; rw [hcw, decide_eq_false (by decide)]; rfl
    rw [e, Bool.false_or, nmI_guard u d _ (w + 1) (by rw [hw.wAt]; omega) (by omega), show w + 1 - 1 = w by omega, hcw, hw.needs2]
  · rw [decide_eq_false hk]; rfl
theorem ov_same {x : PLine} {u : Toks} (h : LT x u) (a b : Bs) : ovL a b u = ovX a b x := by
  unfold ovL ovX
  rw [decide_eq_decide.2 h.k4, h.name]
  rcases h.kind with ⟨k, _⟩ | ⟨k, _⟩ | ⟨_, _, _, d⟩ | ⟨k, _⟩
  · rw [decide_eq_false (fun e => by rw [(h.k4).2 e] at k; exact absurd k (by decide))]; rfl
  · rw [decide_eq_false (fun e => by rw [(h.k4).2 e] at k; exact absurd k (by decide))]; rfl
  · rw [d]
  · rw [decide_eq_false (fun e => by rw [(h.k4).2 e] at k; exact absurd k (by decide))]; rfl
end Go.Proofs.YtnbpdffdnphbeaaGreat

/- Plain facts: where no line is one too many and none has a fault, the program and the document tell a ring of the same lines. -/
namespace Go.Proofs.YtnbpdffdnphbeaaGreat

theorem findI_mem (nm : Bs) (l : List Bs) : ∀ i : Nat, findI nm l i < 0 ↔ nm ∉ l := by
  induction l with
  | nil => intro i; simp [findI]
  | cons x r ih =>
    intro i
    rw [findI]
    split
    · rename_i h; subst h; simp
    · rename_i h; rw [ih, List.mem_cons, not_or]; exact ⟨fun h1 => ⟨fun e => h e.symm, h1⟩, fun h1 => h1.2⟩
theorem findI_iff (nm : Bs) (l : List Bs) : l.Nodup → ∀ (i a : Nat), findI nm l i = ((i + a : Nat) : Int) ↔ a < l.length ∧ l.getD a [] = nm := by
  induction l with
  | nil => intro _ i a; simp [findI]; omega
  | cons x r ih =>
    intro hn i a
    rw [List.nodup_cons] at hn
    rw [findI]
    split
    · rename_i h
      subst h
      cases a with
      | zero => simp
      | succ a =>
        constructor
        · intro h; omega
        · rintro ⟨h1, h2⟩
          exfalso
          apply hn.1
          rw [← h2]
          have h3 : a < r.length := by simpa using h1
          have : (x :: r).getD (a + 1) [] = r[a] := by simp [List.getD, h3]
          rw [this]; exact List.getElem_mem h3
    · rename_i h
      cases a with
      | zero =>
        constructor
        · intro h1
          have := findI_bound nm r (i + 1)
          exfalso
          have h2 : 0 ≤ findI nm r (i + 1) := by rw [h1]; omega
          have h3 := ih hn.2 (i + 1)
          obtain ⟨b, hb⟩ := Int.eq_ofNat_of_zero_le h2
          have hge : ∀ (l : List Bs) (j : Nat), 0 ≤ findI nm l j → (j : Int) ≤ findI nm l j := by
            intro l
            induction l with
            | nil => intro j hj; simp [findI] at hj
            | cons y s ihs => intro j hj; rw [findI] at hj ⊢; split
                              · omega
                              · rename_i hy; rw [if_neg hy] at hj; have := ihs (j + 1) hj; omega
          have := hge r (i + 1) h2
          omega
        · rintro ⟨_, h2⟩; exact absurd (by simpa using h2) h
      | succ a =>
        rw [show i + (a + 1) = i + 1 + a by omega, ih hn.2 (i + 1) a]
        simp
theorem find_iff {names : List Bs} (hn : names.Nodup) (nm : Bs) (a : Nat) : findN names nm = (a : Int) ↔ a < names.length ∧ names.getD a [] = nm := by
  have := findI_iff nm names hn 0 a
  rwa [Nat.zero_add] at this

/- Heads. -/
theorem heads_inv (ls : List PLine) : ∀ (acc : List Bs), acc.Nodup → (headsG ls acc).Nodup ∧ (∀ nm, nm ∈ headsG ls acc ↔ (nm ∈ acc ∨ ls.any (isC nm) = true)) ∧ (headsG ls acc).length ≤ acc.length + cntK 3 ls := by
  induction ls with
  | nil => intro acc h; exact ⟨h, fun nm => by simp [headsG], by simp [headsG, cntK]⟩
  | cons x r ih =>
    intro acc h
    rw [headsG, cntK]
    by_cases hk : x.kind = 3
    · rw [if_pos hk]
      by_cases hf : findN acc x.conc < 0
      · rw [if_pos ⟨hk, hf⟩]
        have hnm := (findI_mem x.conc acc 0).1 hf
        obtain ⟨h1, h2, h3⟩ := ih (acc ++ [x.conc]) (by rw [List.nodup_append]; exact ⟨h, by simp, fun a ha b hb => by rw [List.mem_singleton.1 hb]; exact fun e => hnm (e ▸ ha)⟩)
        refine ⟨h1, fun nm => ?_, by rw [List.length_append, List.length_singleton] at h3; omega⟩
        rw [h2, List.any_cons, Bool.or_eq_true, List.mem_append, List.mem_singleton]
        unfold isC
        rw [decide_eq_true hk, Bool.true_and, decide_eq_true_iff]
        constructor
        · rintro ((h | h) | h)
          · exact .inl h
          · exact .inr (.inl h.symm)
          · exact .inr (.inr h)
        · rintro (h | h | h)
          · exact .inl (.inl h)
          · exact .inl (.inr h.symm)
          · exact .inr h
      · rw [if_neg (fun h => hf h.2)]
        have hnm : x.conc ∈ acc := by
          rcases Classical.em (x.conc ∈ acc) with h1 | h1
          · exact h1
          · exact absurd ((findI_mem x.conc acc 0).2 h1) hf
        obtain ⟨h1, h2, h3⟩ := ih acc h
        refine ⟨h1, fun nm => ?_, by omega⟩
        rw [h2, List.any_cons, Bool.or_eq_true]
        unfold isC
        rw [decide_eq_true hk, Bool.true_and, decide_eq_true_iff]
        constructor
        · rintro (h | h)
          · exact .inl h
          · exact .inr (.inr h)
        · rintro (h | h | h)
          · exact .inl h
          · exact .inl (h ▸ hnm)
          · exact .inr h
    · rw [if_neg (fun h => hk h.1), if_neg hk]
      obtain ⟨h1, h2, h3⟩ := ih acc h
      refine ⟨h1, fun nm => ?_, by omega⟩
      rw [h2, List.any_cons]
      unfold isC
      rw [decide_eq_false hk]; simp

theorem headsG_app (xs ys : List PLine) : ∀ acc, headsG (xs ++ ys) acc = headsG ys (headsG xs acc) := by
  induction xs with
  | nil => intro acc; rfl
  | cons x r ih => intro acc; rw [List.cons_append, headsG, ih, headsG]
theorem take_succ_lA (ls : List PLine) (i : Nat) (h : i < ls.length) : ls.take (i + 1) = ls.take i ++ [lA ls i] := by
  rw [List.take_add_one, List.getElem?_eq_getElem h]; simp [lA, List.getD, h]

theorem heads_same {ls : List PLine} {us : List Toks} (hA : AllLT ls us) : headsU us = headsB ls := by
  have hl := hA.len
  have key : ∀ n i, i + n = us.length → headsR us n i (headsG (ls.take i) []) = headsB ls := by
    intro n
    induction n with
    | zero => intro i h; rw [headsR, List.take_of_length_le (by omega)]; rfl
    | succ n ih =>
      intro i h
      rw [headsR, ← ih (i + 1) (by omega), take_succ_lA ls i (by omega), headsG_app]
      congr 1
      rw [headsG, headsG]
      have hx := hA.get i (by omega)
      obtain ⟨_, h2, _⟩ := heads_inv (ls.take i) [] List.nodup_nil
      by_cases hk : cA (uA us i) 0 = kRule
      · obtain ⟨w, hw⟩ := hx.rule hk
        rw [hw.conc]
        have hk3 := hx.k3.2 hk
        have e : firstB us kRule 3 (lA ls i).conc = (i : Int) ↔ findN (headsG (ls.take i) []) (lA ls i).conc < 0 := by
          have f1 := firstG_take (isU kRule 3 (lA ls i).conc) us 0 i
          have f2 := firstG_take (isU kRule 3 (lA ls i).conc) us 0 (i + 1)
          have hself : (us.take (i + 1)).any (isU kRule 3 (lA ls i).conc) = true := by
            refine List.any_eq_true.2 ⟨uA us i, ?_, ?_⟩
            · have : (us.take (i + 1))[i]? = some (uA us i) := by rw [List.getElem?_take_of_lt (by omega), List.getElem?_eq_getElem (by omega)]; simp [uA, List.getD, show i < us.length by omega]
              exact List.mem_of_getElem? this
            · unfold isU; rw [hw.conc, decide_eq_true hk]; simp
          have f3 := f2.2 hself
          have e1 : (us.take i).any (isU kRule 3 (lA ls i).conc) = (ls.take i).any (isC (lA ls i).conc) := (any_same (hA.take i) (fun x u hx => isC_same hx (lA ls i).conc)).symm
          rw [e1] at f1
          unfold findN
          rw [findI_mem, h2]
          unfold firstB
          constructor
          · intro h9 h10
            have h11 : (ls.take i).any (isC (lA ls i).conc) = true := by rcases h10 with h10 | h10; exact absurd h10 (by simp); exact h10
            have := f1.2 h11; omega
          · intro h9
            have h10 : ¬ (ls.take i).any (isC (lA ls i).conc) = true := fun h => h9 (.inr h)
            have h11 : ¬ (0 ≤ firstG (isU kRule 3 (lA ls i).conc) us 0 ∧ firstG (isU kRule 3 (lA ls i).conc) us 0 < ((0 : Nat) : Int) + (i : Int)) := fun h => h10 (f1.1 h)
            omega
        by_cases hf : findN (headsG (ls.take i) []) (lA ls i).conc < 0
        · rw [if_pos ⟨hk, e.2 hf⟩, if_pos ⟨hk3, hf⟩]
        · rw [if_neg (fun h => hf (e.1 h.2)), if_neg (fun h => hf h.2)]
      · rw [if_neg (fun h => hk h.1), if_neg (fun h => hk (hx.k3.1 h.1))]
  have := key us.length 0 (by omega)
  rw [List.take_zero] at this
  exact this

theorem labsG_app (xs ys : List PLine) : ∀ acc, labsG (xs ++ ys) acc = labsG ys (labsG xs acc) := by
  induction xs with
  | nil => intro acc; rfl
  | cons x r ih => intro acc; rw [List.cons_append, labsG, ih, labsG]
theorem labs_same {ls : List PLine} {us : List Toks} (hA : AllLT ls us) : labsU us = labsB ls := by
  have hl := hA.len
  have key : ∀ n i, i + n = us.length → labsR us n i (labsG (ls.take i) []) = labsB ls := by
    intro n
    induction n with
    | zero => intro i h; rw [labsR, List.take_of_length_le (by omega)]; rfl
    | succ n ih =>
      intro i h
      rw [labsR, ← ih (i + 1) (by omega), take_succ_lA ls i (by omega), labsG_app]
      congr 1
      rw [labsG, labsG]
      have hx := hA.get i (by omega)
      by_cases hk : cA (uA us i) 0 = kRule
      · rw [if_pos hk, if_pos (hx.k3.2 hk), hx.name]
      · rw [if_neg hk, if_neg (fun h => hk (hx.k3.1 h))]
  have := key us.length 0 (by omega)
  rw [List.take_zero] at this
  exact this
end Go.Proofs.YtnbpdffdnphbeaaGreat
