/- Plain facts: the document's conclusions, labels and steps are those that the program draws; so both tell a ring of the same rulebooks. -/
import Derived.Test.YtnbpdffdnphbeaaGreatDoorPCheck
import Derived.Test.YtnbpdffdnphbeaaGreatDoorCkAll
namespace Go.Proofs.YtnbpdffdnphbeaaGreatDoor

/- The document's side. -/
def headsR (us : List Toks) : Nat → Nat → List Bs → List Bs
  | 0, _, acc => acc
  | n + 1, i, acc => headsR us n (i + 1) (if cA (uA us i) 0 = kRule ∧ firstB us kRule 3 (tA (uA us i) 3) = (i : Int) then acc ++ [tA (uA us i) 3] else acc)
def headsU (us : List Toks) : List Bs := headsR us us.length 0 []
def labsR (us : List Toks) : Nat → Nat → List Bs → List Bs
  | 0, _, acc => acc
  | n + 1, i, acc => labsR us n (i + 1) (if cA (uA us i) 0 = kRule then acc ++ [tA (uA us i) 1] else acc)
def labsU (us : List Toks) : List Bs := labsR us us.length 0 []
/-- A name at a place of a rule's line, by which its conclusion names another. -/
def nmAt (u : Toks) (d : Bs) (k : Nat) : Bool := decide (cA u k = nameB) && (decide (tA u k = d) && (decide (k < wA' u) || decide (cA u (k - 1) = [104, 97, 115])))
def nmI (u : Toks) (d : Bs) : Nat → Nat → Bool
  | 0, _ => false
  | n + 1, k => nmAt u d k || nmI u d n (k + 1)
def nmL (c d : Bs) (u : Toks) : Bool := decide (cA u 0 = kRule) && (decide (tA u 3 = c) && nmI u d (u.length - 5) 5)
def namesR (us : List Toks) (c d : Bs) : Bool := us.any (nmL c d)
def ovL (x y : Bs) (u : Toks) : Bool := decide (cA u 0 = kOver) && (decide (tA u 1 = x) && decide (tA u 2 = y))
def overR (us : List Toks) (x y : Bs) : Bool := us.any (ovL x y)
def stepR (us : List Toks) (rules : Bool) (x y : Bs) : Bool := match rules with | true => overR us x y | false => namesR us x y
def stepM (us : List Toks) (rules : Bool) (names : List Bs) (i k : Nat) : Bool := stepR us rules (names.getD i []) (names.getD k [])
def namesOf (us : List Toks) (rules : Bool) : List Bs := match rules with | true => labsU us | false => headsU us
def ringU (us : List Toks) (rules : Bool) : Bool := ringedB (stepM us rules (namesOf us rules)) (namesOf us rules).length

/- The program's side, as steps between lines. -/
def nmX (c d : Bs) (x : PLine) : Bool := decide (x.kind = 3) && (decide (x.conc = c) && ((x.sum.flatMap partN).any (fun y => decide (y.2 = d)) || (needsN x.nd).any (fun y => decide (y.1 = 1) && decide (y.2 = d))))
def ovX (x y : Bs) (l : PLine) : Bool := decide (l.kind = 4) && (decide (l.name = x) && decide (l.lower = y))

theorem nmI_guard (u : Toks) (d : Bs) (n : Nat) : ∀ k, wA' u < k → k + n = u.length → nmI u d n k = (needG (cA u (k - 1)) (u.drop k) []).any (fun y => decide (y.1 = 1) && decide (y.2 = d)) := by
  induction n with
  | zero => intro k _ h; rw [List.drop_eq_nil_of_le (by omega)]; rfl
  | succ n ih =>
    intro k hk h
    have hlt : k < u.length := by omega
    rw [drop_consT u k hlt, needG, nmI, nextc_drop, ih (k + 1) (by omega) (by omega), show k + 1 - 1 = k by omega, List.any_append]
    show (nmAt u d k || _) = ((if cA u k = nameB then [(needK (cA u (k - 1)) (nxA u k), tA u k)] else []).any _ || (needG (cA u k) (u.drop (k + 1)) []).any _)
    congr 1
    unfold nmAt
    rw [decide_eq_false (show ¬ k < wA' u by omega), Bool.false_or]
    by_cases hc : cA u k = nameB
    · rw [if_pos hc, decide_eq_true hc]
      have e : decide (needK (cA u (k - 1)) (nxA u k) = 1) = decide (cA u (k - 1) = [104, 97, 115]) := by
        unfold needK
        by_cases hh : cA u (k - 1) = [104, 97, 115]
        · rw [if_pos hh, decide_eq_true hh]; rfl
        · rw [if_neg hh, decide_eq_false hh]; split <;> rfl
      simp only [List.any_cons, List.any_nil, Bool.or_false, Bool.true_and, e]
      exact Bool.and_comm _ _
    · rw [if_neg hc, decide_eq_false hc]; rfl
theorem nmI_sum (u : Toks) (d : Bs) {w : Nat} (hw : wA' u = w) (hwl : w < u.length) (n : Nat) : ∀ k, k + n = w → nmI u d (u.length - k) k = ((needS ((u.take w).drop k)).any (fun y => decide (y.2 = d)) || nmI u d (u.length - w) w) := by
  induction n with
  | zero => intro k h; obtain rfl : k = w := by omega
            rw [List.drop_eq_nil_of_le (by rw [List.length_take]; omega)]; rfl
  | succ n ih =>
    intro k h
    have hlt : k < (u.take w).length := by rw [List.length_take]; omega
    have e0 : (u.take w).getD k (0, []) = u.getD k (0, []) := by rw [List.getD, List.getD, List.getElem?_take_of_lt (by omega)]
    rw [show u.length - k = (u.length - (k + 1)) + 1 by omega, nmI, ih (k + 1) (by omega), drop_consT (u.take w) k hlt, e0, needS, List.any_append, ← Bool.or_assoc]
    congr 2
    show nmAt u d k = (if cA u k = nameB then [(0, tA u k)] else []).any _
    unfold nmAt
    rw [decide_eq_true (show k < wA' u by omega), Bool.true_or, Bool.and_true]
    by_cases hc : cA u k = nameB
    · rw [if_pos hc, decide_eq_true hc]; simp
    · rw [if_neg hc, decide_eq_false hc]; rfl
theorem when_cls (u : Toks) : ∀ (k j : Nat), whenG u k = some j → k ≤ j ∧ cA u (j - k) = kWhen := by
  induction u with
  | nil => intro k j h; simp [whenG] at h
  | cons t r ih =>
    intro k j h
    rw [whenG] at h
    split at h
    · rename_i ht
      obtain rfl := Option.some.inj h
      exact ⟨Nat.le_refl _, by rw [Nat.sub_self]; exact ht⟩
    · obtain ⟨h1, h2⟩ := ih (k + 1) j h
      refine ⟨by omega, ?_⟩
      rw [show j - k = (j - (k + 1)) + 1 by omega]; exact h2
theorem nm_same {x : PLine} {u : Toks} (h : LT x u) (c d : Bs) : nmL c d u = nmX c d x := by
  unfold nmL nmX
  rw [decide_eq_decide.2 h.k3]
  by_cases hk : cA u 0 = kRule
  · obtain ⟨w, hw⟩ := h.rule hk
    have h1 := hw.wlo
    have h2 := hw.whi
    have hcw : cA u w = kWhen := by have := (when_cls u 0 w hw.whenAt).2; simpa using this
    rw [hw.conc, nmI_sum u d hw.wAt (by omega) (w - 5) 5 (by omega), hw.needs, show u.length - w = (u.length - (w + 1)) + 1 by omega, nmI]
    have e : nmAt u d w = false := by unfold nmAt; rw [hcw, decide_eq_false (by decide)]; rfl
    rw [e, Bool.false_or, nmI_guard u d _ (w + 1) (by rw [hw.wAt]; omega) (by omega), show w + 1 - 1 = w by omega, hcw, hw.needs2]
  · rw [decide_eq_false hk]; rfl
theorem ov_same {x : PLine} {u : Toks} (h : LT x u) (a b : Bs) : ovL a b u = ovX a b x := by
  unfold ovL ovX
  rw [decide_eq_decide.2 h.k4, h.name]
  rcases h.kind with ⟨k, _⟩ | ⟨k, _⟩ | ⟨_, _, _, d⟩ | ⟨k, _⟩
  · rw [decide_eq_false (fun e => by rw [(h.k4).2 e] at k; exact absurd k (by decide))]; rfl
  · rw [decide_eq_false (fun e => by rw [(h.k4).2 e] at k; exact absurd k (by decide))]; rfl
  · rw [d]
  · rw [decide_eq_false (fun e => by rw [(h.k4).2 e] at k; exact absurd k (by decide))]; rfl
end Go.Proofs.YtnbpdffdnphbeaaGreatDoor

/- Plain facts: where no line is one too many and none has a fault, the program and the document tell a ring of the same lines. -/
namespace Go.Proofs.YtnbpdffdnphbeaaGreatDoor

theorem findI_mem (nm : Bs) (l : List Bs) : ∀ i : Nat, findI nm l i < 0 ↔ nm ∉ l := by
  induction l with
  | nil => intro i; simp [findI]
  | cons x r ih =>
    intro i
    rw [findI]
    split
    · rename_i h; subst h; simp
    · rename_i h; rw [ih, List.mem_cons, not_or]; exact ⟨fun h1 => ⟨fun e => h e.symm, h1⟩, fun h1 => h1.2⟩
theorem findI_iff (nm : Bs) (l : List Bs) : l.Nodup → ∀ (i a : Nat), findI nm l i = ((i + a : Nat) : Int) ↔ a < l.length ∧ l.getD a [] = nm := by
  induction l with
  | nil => intro _ i a; simp [findI]; omega
  | cons x r ih =>
    intro hn i a
    rw [List.nodup_cons] at hn
    rw [findI]
    split
    · rename_i h
      subst h
      cases a with
      | zero => simp
      | succ a =>
        constructor
        · intro h; omega
        · rintro ⟨h1, h2⟩
          exfalso
          apply hn.1
          rw [← h2]
          have h3 : a < r.length := by simpa using h1
          have : (x :: r).getD (a + 1) [] = r[a] := by simp [List.getD, h3]
          rw [this]; exact List.getElem_mem h3
    · rename_i h
      cases a with
      | zero =>
        constructor
        · intro h1
          have := findI_bound nm r (i + 1)
          exfalso
          have h2 : 0 ≤ findI nm r (i + 1) := by rw [h1]; omega
          have h3 := ih hn.2 (i + 1)
          obtain ⟨b, hb⟩ := Int.eq_ofNat_of_zero_le h2
          have hge : ∀ (l : List Bs) (j : Nat), 0 ≤ findI nm l j → (j : Int) ≤ findI nm l j := by
            intro l
            induction l with
            | nil => intro j hj; simp [findI] at hj
            | cons y s ihs => intro j hj; rw [findI] at hj ⊢; split
                              · omega
                              · rename_i hy; rw [if_neg hy] at hj; have := ihs (j + 1) hj; omega
          have := hge r (i + 1) h2
          omega
        · rintro ⟨_, h2⟩; exact absurd (by simpa using h2) h
      | succ a =>
        rw [show i + (a + 1) = i + 1 + a by omega, ih hn.2 (i + 1) a]
        simp
theorem find_iff {names : List Bs} (hn : names.Nodup) (nm : Bs) (a : Nat) : findN names nm = (a : Int) ↔ a < names.length ∧ names.getD a [] = nm := by
  have := findI_iff nm names hn 0 a
  rwa [Nat.zero_add] at this

/- Heads. -/
theorem heads_inv (ls : List PLine) : ∀ (acc : List Bs), acc.Nodup → (headsG ls acc).Nodup ∧ (∀ nm, nm ∈ headsG ls acc ↔ (nm ∈ acc ∨ ls.any (isC nm) = true)) ∧ (headsG ls acc).length ≤ acc.length + cntK 3 ls := by
  induction ls with
  | nil => intro acc h; exact ⟨h, fun nm => by simp [headsG], by simp [headsG, cntK]⟩
  | cons x r ih =>
    intro acc h
    rw [headsG, cntK]
    by_cases hk : x.kind = 3
    · rw [if_pos hk]
      by_cases hf : findN acc x.conc < 0
      · rw [if_pos ⟨hk, hf⟩]
        have hnm := (findI_mem x.conc acc 0).1 hf
        obtain ⟨h1, h2, h3⟩ := ih (acc ++ [x.conc]) (by rw [List.nodup_append]; exact ⟨h, by simp, fun a ha b hb => by rw [List.mem_singleton.1 hb]; exact fun e => hnm (e ▸ ha)⟩)
        refine ⟨h1, fun nm => ?_, by rw [List.length_append, List.length_singleton] at h3; omega⟩
        rw [h2, List.any_cons, Bool.or_eq_true, List.mem_append, List.mem_singleton]
        unfold isC
        rw [decide_eq_true hk, Bool.true_and, decide_eq_true_iff]
        constructor
        · rintro ((h | h) | h)
          · exact .inl h
          · exact .inr (.inl h.symm)
          · exact .inr (.inr h)
        · rintro (h | h | h)
          · exact .inl (.inl h)
          · exact .inl (.inr h.symm)
          · exact .inr h
      · rw [if_neg (fun h => hf h.2)]
        have hnm : x.conc ∈ acc := by
          rcases Classical.em (x.conc ∈ acc) with h1 | h1
          · exact h1
          · exact absurd ((findI_mem x.conc acc 0).2 h1) hf
        obtain ⟨h1, h2, h3⟩ := ih acc h
        refine ⟨h1, fun nm => ?_, by omega⟩
        rw [h2, List.any_cons, Bool.or_eq_true]
        unfold isC
        rw [decide_eq_true hk, Bool.true_and, decide_eq_true_iff]
        constructor
        · rintro (h | h)
          · exact .inl h
          · exact .inr (.inr h)
        · rintro (h | h | h)
          · exact .inl h
          · exact .inl (h ▸ hnm)
          · exact .inr h
    · rw [if_neg (fun h => hk h.1), if_neg hk]
      obtain ⟨h1, h2, h3⟩ := ih acc h
      refine ⟨h1, fun nm => ?_, by omega⟩
      rw [h2, List.any_cons]
      unfold isC
      rw [decide_eq_false hk]; simp

theorem headsG_app (xs ys : List PLine) : ∀ acc, headsG (xs ++ ys) acc = headsG ys (headsG xs acc) := by
  induction xs with
  | nil => intro acc; rfl
  | cons x r ih => intro acc; rw [List.cons_append, headsG, ih, headsG]
theorem take_succ_lA (ls : List PLine) (i : Nat) (h : i < ls.length) : ls.take (i + 1) = ls.take i ++ [lA ls i] := by
  rw [List.take_add_one, List.getElem?_eq_getElem h]; simp [lA, List.getD, h]

theorem heads_same {ls : List PLine} {us : List Toks} (hA : AllLT ls us) : headsU us = headsB ls := by
  have hl := hA.len
  have key : ∀ n i, i + n = us.length → headsR us n i (headsG (ls.take i) []) = headsB ls := by
    intro n
    induction n with
    | zero => intro i h; rw [headsR, List.take_of_length_le (by omega)]; rfl
    | succ n ih =>
      intro i h
      rw [headsR, ← ih (i + 1) (by omega), take_succ_lA ls i (by omega), headsG_app]
      congr 1
      rw [headsG, headsG]
      have hx := hA.get i (by omega)
      obtain ⟨_, h2, _⟩ := heads_inv (ls.take i) [] List.nodup_nil
      by_cases hk : cA (uA us i) 0 = kRule
      · obtain ⟨w, hw⟩ := hx.rule hk
        rw [hw.conc]
        have hk3 := hx.k3.2 hk
        have e : firstB us kRule 3 (lA ls i).conc = (i : Int) ↔ findN (headsG (ls.take i) []) (lA ls i).conc < 0 := by
          have f1 := firstG_take (isU kRule 3 (lA ls i).conc) us 0 i
          have f2 := firstG_take (isU kRule 3 (lA ls i).conc) us 0 (i + 1)
          have hself : (us.take (i + 1)).any (isU kRule 3 (lA ls i).conc) = true := by
            refine List.any_eq_true.2 ⟨uA us i, ?_, ?_⟩
            · have : (us.take (i + 1))[i]? = some (uA us i) := by rw [List.getElem?_take_of_lt (by omega), List.getElem?_eq_getElem (by omega)]; simp [uA, List.getD, show i < us.length by omega]
              exact List.mem_of_getElem? this
            · unfold isU; rw [hw.conc, decide_eq_true hk]; simp
          have f3 := f2.2 hself
          have e1 : (us.take i).any (isU kRule 3 (lA ls i).conc) = (ls.take i).any (isC (lA ls i).conc) := (any_same (hA.take i) (fun x u hx => isC_same hx (lA ls i).conc)).symm
          rw [e1] at f1
          unfold findN
          rw [findI_mem, h2]
          unfold firstB
          constructor
          · intro h9 h10
            have h11 : (ls.take i).any (isC (lA ls i).conc) = true := by rcases h10 with h10 | h10; exact absurd h10 (by simp); exact h10
            have := f1.2 h11; omega
          · intro h9
            have h10 : ¬ (ls.take i).any (isC (lA ls i).conc) = true := fun h => h9 (.inr h)
            have h11 : ¬ (0 ≤ firstG (isU kRule 3 (lA ls i).conc) us 0 ∧ firstG (isU kRule 3 (lA ls i).conc) us 0 < ((0 : Nat) : Int) + (i : Int)) := fun h => h10 (f1.1 h)
            omega
        by_cases hf : findN (headsG (ls.take i) []) (lA ls i).conc < 0
        · rw [if_pos ⟨hk, e.2 hf⟩, if_pos ⟨hk3, hf⟩]
        · rw [if_neg (fun h => hf (e.1 h.2)), if_neg (fun h => hf h.2)]
      · rw [if_neg (fun h => hk h.1), if_neg (fun h => hk (hx.k3.1 h.1))]
  have := key us.length 0 (by omega)
  rw [List.take_zero] at this
  exact this

theorem labsG_app (xs ys : List PLine) : ∀ acc, labsG (xs ++ ys) acc = labsG ys (labsG xs acc) := by
  induction xs with
  | nil => intro acc; rfl
  | cons x r ih => intro acc; rw [List.cons_append, labsG, ih, labsG]
theorem labs_same {ls : List PLine} {us : List Toks} (hA : AllLT ls us) : labsU us = labsB ls := by
  have hl := hA.len
  have key : ∀ n i, i + n = us.length → labsR us n i (labsG (ls.take i) []) = labsB ls := by
    intro n
    induction n with
    | zero => intro i h; rw [labsR, List.take_of_length_le (by omega)]; rfl
    | succ n ih =>
      intro i h
      rw [labsR, ← ih (i + 1) (by omega), take_succ_lA ls i (by omega), labsG_app]
      congr 1
      rw [labsG, labsG]
      have hx := hA.get i (by omega)
      by_cases hk : cA (uA us i) 0 = kRule
      · rw [if_pos hk, if_pos (hx.k3.2 hk), hx.name]
      · rw [if_neg hk, if_neg (fun h => hk (hx.k3.1 h))]
  have := key us.length 0 (by omega)
  rw [List.take_zero] at this
  exact this
end Go.Proofs.YtnbpdffdnphbeaaGreatDoor

/- Plain facts: the arrows that the program draws are the document's steps; rings are the same. -/
namespace Go.Proofs.YtnbpdffdnphbeaaGreatDoor

theorem addG_get {G : List Bool} (hl : G.length = 64) (f t : Int) {a b : Nat} (ha : a < 8) (hb : b < 8) : gA (addG G f t) a b = (gA G a b || (decide (f = (a : Int)) && decide (t = (b : Int)))) := by
  unfold addG
  by_cases h : (0 ≤ f ∧ f < 8) ∧ (0 ≤ t ∧ t < 8)
  · rw [if_pos h, gA_set hl (by omega)]
    congr 1
    have e : decide (a * 8 + b = f.toNat * 8 + t.toNat) = (decide (f = (a : Int)) && decide (t = (b : Int))) := by
      rw [Bool.eq_iff_iff, Bool.and_eq_true, decide_eq_true_iff, decide_eq_true_iff, decide_eq_true_iff]
      omega
    exact e
  · rw [if_neg h]
    have : (decide (f = (a : Int)) && decide (t = (b : Int))) = false := by
      rw [Bool.and_eq_false_iff, decide_eq_false_iff_not, decide_eq_false_iff_not]
      omega
    rw [this, Bool.or_false]
theorem partG_len (names : List Bs) (f : Int) (S : List PPart) : ∀ G, (partG names f S G).length = G.length := by
  induction S with
  | nil => intro G; rfl
  | cons x r ih => intro G; rw [partG, ih, addG_len]
theorem nodeG_len (names : List Bs) (f : Int) (N : List PNode) : ∀ G, (nodeG names f N G).length = G.length := by
  induction N with
  | nil => intro G; rfl
  | cons x r ih => intro G; rw [nodeG, ih]; split
                   · rw [addG_len]
                   · rfl
theorem partG_get (names : List Bs) (f : Int) (S : List PPart) {a b : Nat} (ha : a < 8) (hb : b < 8) : ∀ G, G.length = 64 → gA (partG names f S G) a b = (gA G a b || (decide (f = (a : Int)) && S.any (fun x => decide (findN names x.name = (b : Int))))) := by
  induction S with
  | nil => intro G _; simp [partG]
  | cons x r ih =>
    intro G hl
    rw [partG, ih _ (by rw [addG_len, hl]), addG_get hl f _ ha hb, List.any_cons]
    cases gA G a b <;> cases decide (f = (a : Int)) <;> cases decide (findN names x.name = (b : Int)) <;> simp
theorem nodeG_get (names : List Bs) (f : Int) (N : List PNode) {a b : Nat} (ha : a < 8) (hb : b < 8) : ∀ G, G.length = 64 → gA (nodeG names f N G) a b = (gA G a b || (decide (f = (a : Int)) && N.any (fun x => decide (x.kind = 5) && decide (findN names x.name = (b : Int))))) := by
  induction N with
  | nil => intro G _; simp [nodeG]
  | cons x r ih =>
    intro G hl
    rw [nodeG]
    by_cases hk : x.kind = 5
    · rw [if_pos hk, ih _ (by rw [addG_len, hl]), addG_get hl f _ ha hb, List.any_cons, decide_eq_true hk]
      cases gA G a b <;> cases decide (f = (a : Int)) <;> cases decide (findN names x.name = (b : Int)) <;> simp
    · rw [if_neg hk, ih _ hl, List.any_cons, decide_eq_false hk]; simp
def arN (names : List Bs) (a b : Nat) (x : PLine) : Bool := decide (x.kind = 3) && (decide (findN names x.conc = (a : Int)) && (x.sum.any (fun y => decide (findN names y.name = (b : Int))) || x.nd.any (fun y => decide (y.kind = 5) && decide (findN names y.name = (b : Int)))))
theorem namG_get (names : List Bs) (ls : List PLine) {a b : Nat} (ha : a < 8) (hb : b < 8) : ∀ G, G.length = 64 → gA (namG names ls G) a b = (gA G a b || ls.any (arN names a b)) := by
  induction ls with
  | nil => intro G _; simp [namG]
  | cons x r ih =>
    intro G hl
    rw [namG, List.any_cons]
    by_cases hk : x.kind = 3
    · have ex : arN names a b x = (decide (findN names x.conc = (a : Int)) && (x.sum.any (fun y => decide (findN names y.name = (b : Int))) || x.nd.any (fun y => decide (y.kind = 5) && decide (findN names y.name = (b : Int))))) := by
        unfold arN; rw [decide_eq_true hk, Bool.true_and]
      rw [if_pos hk, ih _ (by rw [nodeG_len, partG_len, hl]), nodeG_get _ _ _ ha hb _ (by rw [partG_len, hl]), partG_get _ _ _ ha hb _ hl, ex]
      generalize r.any (arN names a b) = R
      generalize x.sum.any (fun y => decide (findN names y.name = (b : Int))) = s
      generalize x.nd.any (fun y => decide (y.kind = 5) && decide (findN names y.name = (b : Int))) = n
      cases gA G a b <;> cases decide (findN names x.conc = (a : Int)) <;> cases s <;> cases n <;> simp
    · have ex : arN names a b x = false := by unfold arN; rw [decide_eq_false hk]; rfl
      rw [if_neg hk, ih _ hl, ex, Bool.false_or]
def arO (labs : List Bs) (a b : Nat) (x : PLine) : Bool := decide (x.kind = 4) && (decide (findN labs x.name = (a : Int)) && decide (findN labs x.lower = (b : Int)))
theorem ordG_get (labs : List Bs) (ls : List PLine) {a b : Nat} (ha : a < 8) (hb : b < 8) : ∀ G, G.length = 64 → gA (ordG labs ls G) a b = (gA G a b || ls.any (arO labs a b)) := by
  induction ls with
  | nil => intro G _; simp [ordG]
  | cons x r ih =>
    intro G hl
    rw [ordG, List.any_cons]
    by_cases hk : x.kind = 4
    · rw [if_pos hk, ih _ (by rw [addG_len, hl]), addG_get hl _ _ ha hb]
      unfold arO
      rw [decide_eq_true hk]
      cases gA G a b <;> cases decide (findN labs x.name = (a : Int)) <;> cases decide (findN labs x.lower = (b : Int)) <;> simp
    · rw [if_neg hk, ih _ hl]
      have : arO labs a b x = false := by unfold arO; rw [decide_eq_false hk]; rfl
      rw [this, Bool.false_or]

theorem gZ_get {a b : Nat} : gA gZ a b = false := by
  unfold gA gZ
  simp only [List.getD_eq_getElem?_getD, List.getElem?_replicate]
  split <;> rfl

theorem part_any (S : List PPart) {d : Bs} (hd : d ≠ []) : (S.flatMap partN).any (fun y => decide (y.2 = d)) = S.any (fun x => decide (x.name = d)) := by
  induction S with
  | nil => rfl
  | cons x r ih =>
    rw [List.flatMap_cons, List.any_append, ih, List.any_cons]
    congr 1
    unfold partN
    by_cases h : x.name = []
    · rw [if_pos h, h, decide_eq_false (fun e => hd e.symm)]; rfl
    · rw [if_neg h]; simp
theorem node_any (N : List PNode) (d : Bs) : (needsN N).any (fun y => decide (y.1 = 1) && decide (y.2 = d)) = N.any (fun x => decide (x.kind = 5) && decide (x.name = d)) := by
  induction N with
  | nil => rfl
  | cons x r ih =>
    unfold needsN at ih ⊢
    rw [List.flatMap_cons, List.any_append, ih, List.any_cons]
    congr 1
    unfold nodeN
    by_cases h5 : x.kind = 5
    · rw [if_pos h5, decide_eq_true h5]; simp
    · rw [if_neg h5, decide_eq_false h5]
      split
      · simp
      · split
        · split <;> simp
        · rfl

theorem ar_nm {names : List Bs} (hn : names.Nodup) {a b : Nat} (hne : b < names.length → names.getD b [] ≠ []) (x : PLine) : arN names a b x = (decide (a < names.length) && (decide (b < names.length) && nmX (names.getD a []) (names.getD b []) x)) := by
  unfold arN nmX
  have e : ∀ (nm : Bs) (k : Nat), decide (findN names nm = (k : Int)) = (decide (k < names.length) && decide (nm = names.getD k [])) := fun nm k => by
    rw [Bool.eq_iff_iff, Bool.and_eq_true, decide_eq_true_iff, decide_eq_true_iff, decide_eq_true_iff, find_iff hn]
    exact ⟨fun h => ⟨h.1, h.2.symm⟩, fun h => ⟨h.1, h.2.symm⟩⟩
  simp only [e]
  by_cases hb : b < names.length
  · rw [decide_eq_true hb, part_any _ (hne hb), node_any]
    simp only [Bool.true_and]
    cases decide (x.kind = 3) <;> cases decide (a < names.length) <;> simp
  · rw [decide_eq_false hb]
    simp

theorem ar_ov {labs : List Bs} (hn : labs.Nodup) {a b : Nat} (x : PLine) : arO labs a b x = (decide (a < labs.length) && (decide (b < labs.length) && ovX (labs.getD a []) (labs.getD b []) x)) := by
  unfold arO ovX
  have e : ∀ (nm : Bs) (k : Nat), decide (findN labs nm = (k : Int)) = (decide (k < labs.length) && decide (nm = labs.getD k [])) := fun nm k => by
    rw [Bool.eq_iff_iff, Bool.and_eq_true, decide_eq_true_iff, decide_eq_true_iff, decide_eq_true_iff, find_iff hn]
    exact ⟨fun h => ⟨h.1, h.2.symm⟩, fun h => ⟨h.1, h.2.symm⟩⟩
  rw [e, e]
  cases decide (x.kind = 4) <;> cases decide (a < labs.length) <;> cases decide (b < labs.length) <;> simp

theorem any_and (p : Bool) (q : PLine → Bool) (ls : List PLine) : ls.any (fun x => p && q x) = (p && ls.any q) := by
  induction ls with
  | nil => simp
  | cons x r ih => rw [List.any_cons, ih, List.any_cons]; cases p <;> simp

/-- Rings of conclusions. -/
theorem ring_heads {ls : List PLine} {us : List Toks} (hA : AllLT ls us) (h8 : cntK 3 ls ≤ 8) : ringU us false = ringB (namG (headsB ls) ls gZ) := by
  obtain ⟨hn, hmem, hlen⟩ := heads_inv ls [] List.nodup_nil
  have hl8 : (headsB ls).length ≤ 8 := by unfold headsB; simp at hlen; omega
  have hne : ∀ b, b < (headsB ls).length → (headsB ls).getD b [] ≠ [] := by
    intro b hb e
    have h1 : (headsB ls).getD b [] ∈ headsB ls := by simp [List.getD, hb]
    rw [e] at h1
    have h2 := (hmem []).1 h1
    rcases h2 with h2 | h2
    · simp at h2
    · obtain ⟨x, hx, hc⟩ := List.any_eq_true.1 h2
      unfold isC at hc
      rw [Bool.and_eq_true, decide_eq_true_iff, decide_eq_true_iff] at hc
      have hex : ∀ {ls : List PLine} {us : List Toks}, AllLT ls us → x ∈ ls → ∃ u, LT x u := by
        intro ls
        induction ls with
        | nil => intro us _ h; simp at h
        | cons y r ih =>
          intro us hA h
          cases us with
          | nil => exact absurd hA id
          | cons u us =>
            rcases List.mem_cons.1 h with rfl | h
            · exact ⟨u, hA.1⟩
            · exact ih hA.2 h
      obtain ⟨u, hu⟩ := hex hA hx
      obtain ⟨w, hw⟩ := hu.rule (hu.k3.1 hc.1)
      exact hw.ne hc.2
  unfold ringU namesOf
  simp only [heads_same hA]
  refine ring_same (by rw [namG_len]; exact gZ_len) hl8 (fun a b ha hb => ?_)
  rw [namG_get _ _ ha hb _ gZ_len, gZ_get, Bool.false_or]
  have e1 : ls.any (arN (headsB ls) a b) = (decide (a < (headsB ls).length) && (decide (b < (headsB ls).length) && ls.any (nmX ((headsB ls).getD a []) ((headsB ls).getD b [])))) := by
    rw [← any_and, ← any_and]
    congr 1
    funext x
    exact ar_nm hn (hne b) x
  rw [e1]
  unfold stp stepM stepR namesR
  simp only
  rw [← any_same hA (fun x u hx => (nm_same hx _ _).symm), Bool.and_eq_true, Bool.and_eq_true, decide_eq_true_iff, decide_eq_true_iff]

theorem labs_inv (ls : List PLine) : ∀ acc, (labsG ls acc).length = acc.length + cntK 3 ls ∧ (∀ nm, nm ∈ labsG ls acc ↔ (nm ∈ acc ∨ hasL ls 3 nm = true)) := by
  induction ls with
  | nil => intro acc; exact ⟨by simp [labsG, cntK], fun nm => by simp [labsG, hasL]⟩
  | cons x r ih =>
    intro acc
    rw [labsG, cntK]
    by_cases hk : x.kind = 3
    · rw [if_pos hk, if_pos hk]
      obtain ⟨h1, h2⟩ := ih (acc ++ [x.name])
      refine ⟨by rw [h1, List.length_append, List.length_singleton]; omega, fun nm => ?_⟩
      rw [h2, List.mem_append, List.mem_singleton]
      unfold hasL
      rw [List.any_cons, Bool.or_eq_true]
      unfold isL
      rw [decide_eq_true hk, Bool.true_and, decide_eq_true_iff]
      constructor
      · rintro ((h | h) | h)
        · exact .inl h
        · exact .inr (.inl h.symm)
        · exact .inr (.inr h)
      · rintro (h | h | h)
        · exact .inl (.inl h)
        · exact .inl (.inr h.symm)
        · exact .inr h
    · rw [if_neg hk, if_neg hk]
      obtain ⟨h1, h2⟩ := ih acc
      refine ⟨by omega, fun nm => ?_⟩
      rw [h2]
      unfold hasL
      rw [List.any_cons]
      have : isL 3 nm x = false := by unfold isL; rw [decide_eq_false hk]; rfl
      rw [this, Bool.false_or]
theorem labs_nodup (ls : List PLine) (h : ∀ i, i < ls.length → (lA ls i).kind = 3 → hasL (ls.take i) 3 (lA ls i).name = false) : (labsB ls).Nodup := by
  have key : ∀ n, n ≤ ls.length → (labsG (ls.take n) []).Nodup := by
    intro n
    induction n with
    | zero => intro _; simp [labsG]
    | succ n ih =>
      intro hn
      rw [take_succ_lA ls n (by omega), labsG_app, labsG, labsG]
      split
      · rename_i hk
        rw [List.nodup_append]
        refine ⟨ih (by omega), by simp, fun a ha b hb => ?_⟩
        rw [List.mem_singleton.1 hb]
        intro e
        subst e
        have := ((labs_inv (ls.take n) []).2 (lA ls n).name).1 ha
        rcases this with h1 | h1
        · simp at h1
        · rw [h n (by omega) hk] at h1; exact absurd h1 (by decide)
      · exact ih (by omega)
  have := key ls.length (Nat.le_refl _)
  rw [List.take_length] at this
  exact this
/-- Rings of rules. -/
theorem ring_labs {ls : List PLine} {us : List Toks} (hA : AllLT ls us) (h8 : cntK 3 ls ≤ 8) (hn : (labsB ls).Nodup) : ringU us true = ringB (ordG (labsB ls) ls gZ) := by
  have hlen := (labs_inv ls []).1
  have hl8 : (labsB ls).length ≤ 8 := by unfold labsB; simp at hlen; omega
  unfold ringU namesOf
  simp only [labs_same hA]
  refine ring_same (by rw [ordG_len]; exact gZ_len) hl8 (fun a b ha hb => ?_)
  rw [ordG_get _ _ ha hb _ gZ_len, gZ_get, Bool.false_or]
  have e1 : ls.any (arO (labsB ls) a b) = (decide (a < (labsB ls).length) && (decide (b < (labsB ls).length) && ls.any (ovX ((labsB ls).getD a []) ((labsB ls).getD b [])))) := by
    rw [← any_and, ← any_and]
    congr 1
    funext x
    exact ar_ov hn x
  rw [e1]
  unfold stp stepM stepR overR
  simp only
  rw [← any_same hA (fun x u hx => (ov_same hx _ _).symm), Bool.and_eq_true, Bool.and_eq_true, decide_eq_true_iff, decide_eq_true_iff]
end Go.Proofs.YtnbpdffdnphbeaaGreatDoor
