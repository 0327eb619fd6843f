/- Plain facts: the faults of names, ranges and pairs are the same by the program and by the document. -/
import Derived.Test.YtnbpdffdnphbeaaGreatPCheck
import Derived.Test.YtnbpdffdnphbeaaGreatPGraph
import Derived.Test.YtnbpdffdnphbeaaGreatWsum
import Derived.BigQuiet
import Derived.Test.YtnbpdffdnphbeaaGreatRkLinks
namespace Go.Proofs.YtnbpdffdnphbeaaGreat

def isNumR (us : List Toks) (nm : Bs) : Bool := decide (0 ≤ firstB us kNum 1 nm)
def isFlagR (us : List Toks) (nm : Bs) : Bool := decide (0 ≤ firstB us kFlag 1 nm)
def isHeadR (us : List Toks) (nm : Bs) : Bool := decide (0 ≤ firstB us kRule 3 nm)
def nxA (u : Toks) (k : Nat) : Bs := if k + 1 < u.length then cA u (k + 1) else []
def kindAt (u : Toks) (k : Nat) : Nat := if k < wA' u then 0 else needK (cA u (k - 1)) (nxA u k)
def okR (us : List Toks) (y : Nat × Bs) : Bool := if y.1 = 0 then isNumR us y.2 || isHeadR us y.2 else if y.1 = 1 then isHeadR us y.2 else if y.1 = 2 then isNumR us y.2 else isFlagR us y.2
def fitsR (us : List Toks) (u : Toks) (k : Nat) : Bool := okR us (kindAt u k, tA u k)
def badI (us : List Toks) (u : Toks) : Nat → Nat → Bool
  | 0, _ => false
  | n + 1, k => if cA u k = nameB ∧ fitsR us u k = false then true else badI us u n (k + 1)
def namedR (us : List Toks) (i : Nat) : Bool :=
  if cA (uA us i) 0 = kNum ∨ cA (uA us i) 0 = kFlag then
    (decide (0 ≤ firstB us kNum 1 (tA (uA us i) 1)) && decide (firstB us kNum 1 (tA (uA us i) 1) < (i : Int))) || ((decide (0 ≤ firstB us kFlag 1 (tA (uA us i) 1)) && decide (firstB us kFlag 1 (tA (uA us i) 1) < (i : Int))) || isHeadR us (tA (uA us i) 1))
  else if cA (uA us i) 0 = kOver then decide (firstB us kRule 1 (tA (uA us i) 1) < 0) || decide (firstB us kRule 1 (tA (uA us i) 2) < 0)
  else decide (firstB us kRule 1 (tA (uA us i) 1) < (i : Int)) || badI us (uA us i) ((uA us i).length - 5) 5
def pairR (us : List Toks) (u : Toks) : Bool := decide (tA u 1 = tA u 2) || !decide (tA (uA us (firstB us kRule 1 (tA u 1)).toNat) 3 = tA (uA us (firstB us kRule 1 (tA u 2)).toNat) 3)
def faultR (us : List Toks) (i : Nat) : Int :=
  if namedR us i = true then 4
  else if cA (uA us i) 0 = kNum then (if valF 0 (tA (uA us i) 4) < valF 0 (tA (uA us i) 2) then 5 else 0)
  else if cA (uA us i) 0 = kOver then (if pairR us (uA us i) = true then 6 else 0) else 0

theorem nextc_drop (u : Toks) (k : Nat) : nextc (u.drop (k + 1)) [] = nxA u k := by
  unfold nxA
  split
  · rename_i h; rw [drop_consT u (k + 1) h]; rfl
  · rename_i h; rw [List.drop_eq_nil_of_le (by omega)]; rfl

theorem badI_guard (us : List Toks) (u : Toks) (n : Nat) : ∀ k, wA' u < k → k + n = u.length → badI us u n k = (needG (cA u (k - 1)) (u.drop k) []).any (fun y => !okR us y) := by
  induction n with
  | zero => intro k _ h; rw [List.drop_eq_nil_of_le (by omega)]; rfl
  | succ n ih =>
    intro k hk h
    have hlt : k < u.length := by omega
    rw [drop_consT u k hlt, needG, badI, nextc_drop, ih (k + 1) (by omega) (by omega), show k + 1 - 1 = k by omega]
    show _ = ((if cA u k = nameB then [(needK (cA u (k - 1)) (nxA u k), tA u k)] else []) ++ needG (cA u k) (u.drop (k + 1)) []).any _
    have hf : fitsR us u k = okR us (needK (cA u (k - 1)) (nxA u k), tA u k) := by unfold fitsR kindAt; rw [if_neg (by omega)]
    by_cases hc : cA u k = nameB
    · rw [if_pos hc, List.any_append]
      by_cases ho : fitsR us u k = false
      · rw [if_pos ⟨hc, ho⟩]; rw [hf] at ho; simp [ho]
      · rw [if_neg (fun h => ho h.2)]
        have ho' : okR us (needK (cA u (k - 1)) (nxA u k), tA u k) = true := by rw [← hf]; simpa using ho
        simp [ho']
    · rw [if_neg hc, if_neg (fun h => hc h.1), List.nil_append]

theorem badI_sum (us : List Toks) (u : Toks) {w : Nat} (hw : wA' u = w) (hwl : w < u.length) (n : Nat) : ∀ k, k + n = w → badI us u (u.length - k) k = ((needS ((u.take w).drop k)).any (fun y => !okR us y) || badI us u (u.length - w) w) := by
  induction n with
  | zero => intro k h; obtain rfl : k = w := by omega
            rw [List.drop_eq_nil_of_le (by rw [List.length_take]; omega)]; rfl
  | succ n ih =>
    intro k h
    have hlt : k < (u.take w).length := by rw [List.length_take]; omega
    have e0 : (u.take w).getD k (0, []) = u.getD k (0, []) := by rw [List.getD, List.getD, List.getElem?_take_of_lt (by omega)]
    rw [show u.length - k = (u.length - (k + 1)) + 1 by omega, badI, ih (k + 1) (by omega), drop_consT (u.take w) k hlt, e0, needS]
    show _ = (((if cA u k = nameB then [(0, tA u k)] else []) ++ needS ((u.take w).drop (k + 1))).any _ || _)
    have hf : fitsR us u k = okR us (0, tA u k) := by unfold fitsR kindAt; rw [hw, if_pos (by omega)]
    by_cases hc : cA u k = nameB
    · rw [if_pos hc, List.any_append]
      by_cases ho : fitsR us u k = false
      · rw [if_pos ⟨hc, ho⟩]; rw [hf] at ho; simp [ho]
      · rw [if_neg (fun h => ho h.2)]
        have ho' : okR us (0, tA u k) = true := by rw [← hf]; simpa using ho
        simp [ho']
    · rw [if_neg hc, if_neg (fun h => hc h.1), List.nil_append]

theorem bad_all (us : List Toks) {x : PLine} {u : Toks} {w : Nat} (h : RuleT x u w) (hc : cA u w = kWhen) : badI us u (u.length - 5) 5 = ((x.sum.flatMap partN).any (fun y => !okR us y) || (needsN x.nd).any (fun y => !okR us y)) := by
  have h1 := h.wlo
  have h2 := h.whi
  rw [badI_sum us u h.wAt (by omega) (w - 5) 5 (by omega), h.needs]
  congr 1
  rw [show u.length - w = (u.length - (w + 1)) + 1 by omega, badI, if_neg (fun e => absurd (hc.symm.trans e.1) (by decide)), badI_guard us u _ (w + 1) (by rw [h.wAt]; omega) (by omega), show w + 1 - 1 = w by omega, hc, h.needs2]

theorem num_same {ls : List PLine} {us : List Toks} (h : AllLT ls us) (nm : Bs) : isNumR us nm = hasL ls 1 nm := by
  unfold isNumR hasL firstB
  rw [any_same h (fun x u hx => isL_same hx 1 kNum (.inl ⟨rfl, rfl⟩) nm), Bool.eq_iff_iff, decide_eq_true_iff, firstG_any]
theorem flag_same {ls : List PLine} {us : List Toks} (h : AllLT ls us) (nm : Bs) : isFlagR us nm = hasL ls 2 nm := by
  unfold isFlagR hasL firstB
  rw [any_same h (fun x u hx => isL_same hx 2 kFlag (.inr (.inl ⟨rfl, rfl⟩)) nm), Bool.eq_iff_iff, decide_eq_true_iff, firstG_any]
theorem head_same {ls : List PLine} {us : List Toks} (h : AllLT ls us) (nm : Bs) : isHeadR us nm = isCon ls nm := by
  unfold isHeadR isCon firstB
  rw [any_same h (fun x u hx => isC_same hx nm), Bool.eq_iff_iff, decide_eq_true_iff, firstG_any]
theorem ok_same {ls : List PLine} {us : List Toks} (h : AllLT ls us) (y : Nat × Bs) : okR us y = needOk ls y := by
  unfold okR needOk sumOk
  rw [num_same h, flag_same h, head_same h]
theorem part_same (ls : List PLine) (S : List PPart) : (S.flatMap partN).any (fun y => !needOk ls y) = S.any (fun x => !partOk ls x) := by
  induction S with
  | nil => rfl
  | cons x r ih =>
    rw [List.flatMap_cons, List.any_append, ih, List.any_cons]
    congr 1
    unfold partN partOk
    by_cases h : x.name = []
    · rw [if_pos h, decide_eq_true h]; rfl
    · rw [if_neg h, decide_eq_false h]; simp [needOk]
theorem node_same (ls : List PLine) (N : List PNode) : (needsN N).any (fun y => !needOk ls y) = N.any (fun x => !nodeOk ls x) := by
  induction N with
  | nil => rfl
  | cons x r ih =>
    unfold needsN at ih ⊢
    rw [List.flatMap_cons, List.any_append, ih, List.any_cons]
    congr 1
    unfold nodeN nodeOk
    by_cases h5 : x.kind = 5
    · rw [if_pos h5, if_pos h5]; simp [needOk]
    · rw [if_neg h5, if_neg h5]
      by_cases h6 : x.kind = 6
      · rw [if_pos h6, if_pos h6]; simp [needOk]
      · rw [if_neg h6, if_neg h6]
        by_cases h7 : x.kind = 7
        · rw [if_pos h7, if_pos h7]
          by_cases ho : x.other = []
          · rw [if_pos ho, decide_eq_true ho]; simp [needOk]
          · rw [if_neg ho, decide_eq_false ho]
            show ((!hasL ls 1 x.name) || ((!hasL ls 1 x.other) || false)) = !((false || hasL ls 1 x.other) && hasL ls 1 x.name)
            cases hasL ls 1 x.name <;> cases hasL ls 1 x.other <;> rfl
        · rw [if_neg h7, if_neg h7]; rfl

theorem early_same {ls : List PLine} {us : List Toks} (h : AllLT ls us) (k : Int) (c : Bs) (hk : (k = 1 ∧ c = kNum) ∨ (k = 2 ∧ c = kFlag) ∨ (k = 3 ∧ c = kRule)) (nm : Bs) (i : Nat) : (decide (0 ≤ firstB us c 1 nm) && decide (firstB us c 1 nm < (i : Int))) = hasL (ls.take i) k nm := by
  unfold hasL firstB
  rw [any_same (h.take i) (fun x u hx => isL_same hx k c hk nm), Bool.eq_iff_iff, Bool.and_eq_true, decide_eq_true_iff, decide_eq_true_iff, ← firstG_take (isU c 1 nm) us 0 i]
  simp

theorem find_same {ls : List PLine} {us : List Toks} (h : AllLT ls us) (nm : Bs) : (findR ls nm = ls.length ∧ firstB us kRule 1 nm = -1) ∨ (findR ls nm < ls.length ∧ firstB us kRule 1 nm = (findR ls nm : Int)) := by
  have := first_find h (fun x u hx => isL_same hx 3 kRule (.inr (.inr ⟨rfl, rfl⟩)) nm) 0
  unfold findR firstB
  simpa using this

theorem findG_hit (p : PLine → Bool) (ls : List PLine) : ∀ i, findG p ls i < i + ls.length → p (lA ls (findG p ls i - i)) = true := by
  induction ls with
  | nil => intro i h; simp [findG] at h
  | cons x r ih =>
    intro i h
    rw [findG] at h ⊢
    split
    · rename_i hp; simpa [lA] using hp
    · rename_i hp
      rw [if_neg hp] at h
      have h1 := (findG_le p r (i + 1)).1
      have := ih (i + 1) (by rw [List.length_cons] at h; omega)
      rw [show findG p r (i + 1) - i = (findG p r (i + 1) - (i + 1)) + 1 by omega]
      exact this

theorem fault_same {ls : List PLine} {us : List Toks} (h : AllLT ls us) {i : Nat} (hi : i < us.length) : faultR us i = errP ls i := by
  have hx := h.get i hi
  unfold faultR
  rcases hx.kind with ⟨a, b, _, _, _, d1, d2⟩ | ⟨a, b⟩ | ⟨a, b, _, d⟩ | ⟨a, b, d⟩
  · have e : namedR us i = decide (inpE ls i = 4) := by
      unfold namedR inpE
      rw [if_pos (.inl b), early_same h 1 kNum (.inl ⟨rfl, rfl⟩), early_same h 2 kFlag (.inr (.inl ⟨rfl, rfl⟩)), head_same h, hx.name]
      generalize (hasL (ls.take i) 1 (lA ls i).name || (hasL (ls.take i) 2 (lA ls i).name || isCon ls (lA ls i).name)) = z
      cases z <;> decide
    have eR : errP ls i = numE ls i := by unfold errP; rw [if_pos a]
    rw [e, eR, if_pos b, d1, d2]
    unfold numE
    have h4 : inpE ls i = 4 ∨ inpE ls i = 0 := by unfold inpE; split; exact .inl rfl; exact .inr rfl
    rcases h4 with h4 | h4
    · rw [h4]; simp
    · rw [h4]; simp
  · have e : namedR us i = decide (inpE ls i = 4) := by
      unfold namedR inpE
      rw [if_pos (.inr b), early_same h 1 kNum (.inl ⟨rfl, rfl⟩), early_same h 2 kFlag (.inr (.inl ⟨rfl, rfl⟩)), head_same h, hx.name]
      generalize (hasL (ls.take i) 1 (lA ls i).name || (hasL (ls.take i) 2 (lA ls i).name || isCon ls (lA ls i).name)) = z
      cases z <;> decide
    have eR : errP ls i = inpE ls i := by unfold errP; rw [if_neg (by rw [a]; decide), if_pos a]
    rw [e, eR, if_neg (show ¬ cA (uA us i) 0 = kNum by rw [b]; decide), if_neg (show ¬ cA (uA us i) 0 = kOver by rw [b]; decide)]
    have h4 : inpE ls i = 4 ∨ inpE ls i = 0 := by unfold inpE; split; exact .inl rfl; exact .inr rfl
    rcases h4 with h4 | h4 <;> rw [h4] <;> rfl
  · have eR : errP ls i = overE ls (lA ls i) := by unfold errP; rw [if_neg (by rw [a]; decide), if_neg (by rw [a]; decide), if_neg (by rw [a]; decide), if_pos a]
    rw [eR, if_neg (show ¬ cA (uA us i) 0 = kNum by rw [b]; decide), if_pos b]
    have eN : namedR us i = (decide (firstB us kRule 1 (tA (uA us i) 1) < 0) || decide (firstB us kRule 1 (tA (uA us i) 2) < 0)) := by
      unfold namedR; rw [if_neg (show ¬ (cA (uA us i) 0 = kNum ∨ cA (uA us i) 0 = kFlag) by rw [b]; decide), if_pos b]
    have hl := h.len
    rw [hx.name, d] at eN
    rcases find_same h (lA ls i).name with ⟨f1, f2⟩ | ⟨f1, f2⟩
    · have e1 : overE ls (lA ls i) = 4 := by unfold overE; rw [if_pos (.inl f1)]
      rw [e1, if_pos (by rw [eN, f2]; rfl)]
    · rcases find_same h (lA ls i).lower with ⟨g1, g2⟩ | ⟨g1, g2⟩
      · have e1 : overE ls (lA ls i) = 4 := by unfold overE; rw [if_pos (.inr g1)]
        rw [e1, if_pos (by rw [eN, g2]; simp)]
      · have e1 : overE ls (lA ls i) = if (lA ls i).name = (lA ls i).lower ∨ (lA ls (findR ls (lA ls i).name)).conc ≠ (lA ls (findR ls (lA ls i).lower)).conc then 6 else 0 := by
          unfold overE; rw [if_neg (by rintro (e | e) <;> omega)]
        have e2 : namedR us i = false := by
          rw [eN, f2, g2, decide_eq_false (by omega), decide_eq_false (by omega)]; rfl
        have q1 := h.get (findR ls (lA ls i).name) (by omega)
        have q2 := h.get (findR ls (lA ls i).lower) (by omega)
        have p1 : isL 3 (lA ls i).name (lA ls (findR ls (lA ls i).name)) = true := findG_hit (isL 3 (lA ls i).name) ls 0 (by rw [Nat.zero_add]; exact f1)
        have p2 : isL 3 (lA ls i).lower (lA ls (findR ls (lA ls i).lower)) = true := findG_hit (isL 3 (lA ls i).lower) ls 0 (by rw [Nat.zero_add]; exact g1)
        have p1' : (lA ls (findR ls (lA ls i).name)).kind = 3 := by
          unfold isL at p1; rw [Bool.and_eq_true] at p1; simpa using p1.1
        have p2' : (lA ls (findR ls (lA ls i).lower)).kind = 3 := by
          unfold isL at p2; rw [Bool.and_eq_true] at p2; simpa using p2.1
        obtain ⟨w1, r1⟩ := q1.rule (q1.k3.1 p1')
        obtain ⟨w2, r2⟩ := q2.rule (q2.k3.1 p2')
        have e3 : pairR us (uA us i) = (decide ((lA ls i).name = (lA ls i).lower) || !decide ((lA ls (findR ls (lA ls i).name)).conc = (lA ls (findR ls (lA ls i).lower)).conc)) := by
          unfold pairR; rw [hx.name, d, f2, g2, Int.toNat_natCast, Int.toNat_natCast, r1.conc, r2.conc]
        rw [e1, e3, if_neg (by rw [e2]; decide)]
        by_cases c1 : (lA ls i).name = (lA ls i).lower
        · simp [c1]
        · by_cases c2 : (lA ls (findR ls (lA ls i).name)).conc = (lA ls (findR ls (lA ls i).lower)).conc
          · simp [c1, c2]
          · simp [c1, c2]
  · obtain ⟨w, hw⟩ := d
    have eR : errP ls i = ruleE ls i := by unfold errP; rw [if_neg (by rw [a]; decide), if_neg (by rw [a]; decide), if_pos a]
    rw [eR, if_neg (show ¬ cA (uA us i) 0 = kNum by rw [b]; decide), if_neg (show ¬ cA (uA us i) 0 = kOver by rw [b]; decide)]
    have hcw : cA (uA us i) w = kWhen := by
      have hwhen : ∀ (u : Toks) (k j : Nat), whenG u k = some j → k ≤ j ∧ cA u (j - k) = kWhen := by
        intro u
        induction u with
        | nil => intro k j h; simp [whenG] at h
        | cons t r ih =>
          intro k j h
          rw [whenG] at h
          split at h
          · rename_i ht
            obtain rfl := Option.some.inj h
            exact ⟨Nat.le_refl _, by rw [Nat.sub_self]; exact ht⟩
          · obtain ⟨h1, h2⟩ := ih (k + 1) j h
            refine ⟨by omega, ?_⟩
            rw [show j - k = (j - (k + 1)) + 1 by omega]; exact h2
      have := (hwhen _ 0 w hw.whenAt).2
      simpa using this
    have e : namedR us i = (hasL (ls.take i) 3 (lA ls i).name || ((lA ls i).sum.any (fun x => !partOk ls x) || (lA ls i).nd.any (fun x => !nodeOk ls x))) := by
      unfold namedR
      rw [if_neg (show ¬ (cA (uA us i) 0 = kNum ∨ cA (uA us i) 0 = kFlag) by rw [b]; decide), if_neg (show ¬ cA (uA us i) 0 = kOver by rw [b]; decide), bad_all us hw hcw, hx.name]
      have h0 : 0 ≤ firstB us kRule 1 (lA ls i).name := by
        unfold firstB
        rw [firstG_any]
        refine List.any_eq_true.2 ⟨uA us i, ?_, ?_⟩
        · unfold uA; rw [List.getD, List.getElem?_eq_getElem hi]; exact List.getElem_mem hi
        · unfold isU; rw [hx.name, decide_eq_true b]; simp
      have := early_same h 3 kRule (.inr (.inr ⟨rfl, rfl⟩)) (lA ls i).name i
      rw [decide_eq_true h0, Bool.true_and] at this
      rw [this, ← part_same, ← node_same]
      congr 1
      congr 1
      · congr 1; funext y; rw [ok_same h]
      · congr 1; funext y; rw [ok_same h]
    rw [e]
    unfold ruleE
    generalize (hasL (ls.take i) 3 (lA ls i).name || ((lA ls i).sum.any (fun x => !partOk ls x) || (lA ls i).nd.any (fun x => !nodeOk ls x))) = z
    cases z <;> rfl
end Go.Proofs.YtnbpdffdnphbeaaGreat

/- What the small functions of the document's answer give: number, limit, first, isNum, isFlag, isHead. -/
namespace Go.Proofs.YtnbpdffdnphbeaaGreat
open Go.RowKit

/-- The lines' tokens lie in memory, behind a slice's pointer. -/
structure RowL (w : World) (a : Option Addr) (us : List Toks) : Prop where
  blk : 0 < us.length → ∃ gl, a = some ⟨gl, 0, none⟩ ∧ ∀ i, i < us.length → ∃ g o c, w.cell? ⟨gl, i, none⟩ = some (.slice (some ⟨g, o, none⟩) (uA us i).length c) ∧ SegR w g o (uA us i) ∧ (uA us i).length ≤ c ∧ c ≤ maxLen
  few : us.length ≤ 10000
  small : ∀ u ∈ us, u.length ≤ 10000

theorem cell_lt {w : World} {g o : Nat} {v : Value} (h : w.cell? ⟨g, o, none⟩ = some v) : g < w.heap.size := by
  rcases Nat.lt_or_ge g w.heap.size with h1 | h1
  · exact h1
  · rw [World.cell?, Array.getElem?_eq_none (by simpa using h1)] at h; cases h
theorem SegR.below' {w w' : World} {g o : Nat} {ts : Toks} (h : SegR w g o ts) (hb : Below w.heap.size w w') : SegR w' g o ts := by
  intro i hi
  obtain ⟨a, b, c⟩ := h i hi
  have hg := cell_lt a
  exact ⟨by rw [hb.cell (p := ⟨g, _, none⟩) hg]; exact a, by rw [hb.cell (p := ⟨g, _, none⟩) hg]; exact b, by rw [hb.cell (p := ⟨g, _, none⟩) hg]; exact c⟩
theorem RowL.below {w w' : World} {a : Option Addr} {us : List Toks} (h : RowL w a us) (hb : Below w.heap.size w w') : RowL w' a us := by
  refine ⟨fun h0 => ?_, h.few, h.small⟩
  obtain ⟨gl, e, p⟩ := h.blk h0
  refine ⟨gl, e, fun i hi => ?_⟩
  obtain ⟨g, o, c, h1, h2, h3, h4⟩ := p i hi
  exact ⟨g, o, c, by rw [hb.cell (p := ⟨gl, i, none⟩) (cell_lt h1)]; exact h1, h2.below' hb, h3, h4⟩
theorem uA_mem {us : List Toks} {i : Nat} (h : i < us.length) : uA us i ∈ us := by simp [uA, List.getD, h]
theorem RowL.at {w : World} {a : Option Addr} {us : List Toks} (h : RowL w a us) {i : Nat} (hi : i < us.length) : ∃ gl g o c, a = some ⟨gl, 0, none⟩ ∧ w.cell? ⟨gl, i, none⟩ = some (.slice (some ⟨g, o, none⟩) (uA us i).length c) ∧ SegR w g o (uA us i) ∧ (uA us i).length ≤ c ∧ c ≤ maxLen ∧ (uA us i).length ≤ 10000 := by
  obtain ⟨gl, e, p⟩ := h.blk (by omega)
  obtain ⟨g, o, c, h1, h2, h3, h4⟩ := p i hi
  exact ⟨gl, g, o, c, e, h1, h2, h3, h4, h.small _ (uA_mem hi)⟩
/-- A token's text and its class. -/
theorem SegR.tok {w : World} {g o : Nat} {ts : Toks} (h : SegR w g o ts) {i : Nat} (hi : i < ts.length) : w.cell? ⟨g, o + i * 3, none⟩ = some (.string ⟨(tA ts i).toArray⟩) ∧ w.cell? ⟨g, o + i * 3 + 2, none⟩ = some (.string ⟨(cA ts i).toArray⟩) :=
  ⟨(h i hi).1, (h i hi).2.2⟩

theorem firstG_drop (p : Toks → Bool) (us : List Toks) (i : Nat) (h : i < us.length) : firstG p (us.drop i) i = if p (uA us i) then (i : Int) else firstG p (us.drop (i + 1)) (i + 1) := by
  rw [List.drop_eq_getElem_cons h, firstG]; simp [uA, List.getD, h]

end Go.Proofs.YtnbpdffdnphbeaaGreat

/- Cells behind a slice's pointer, by their row and by their type. -/
namespace Go.Proofs.YtnbpdffdnphbeaaGreat
open Go.RowKit

/-- Cells lie in memory, from the beginning of a block on, behind a slice's pointer. -/
def CelV (w : World) (a : Option Addr) (xs : List Value) : Prop := xs = [] ∨ ∃ g, a = some ⟨g, 0, none⟩ ∧ ∀ j, j < xs.length → w.cell? ⟨g, j, none⟩ = xs[j]?
theorem CelV.below {w w' : World} {a : Option Addr} {xs : List Value} (h : CelV w a xs) (hb : Below w.heap.size w w') : CelV w' a xs := by
  rcases h with h | ⟨g, h1, h2⟩
  · exact .inl h
  · refine .inr ⟨g, h1, fun j hj => ?_⟩
    have h3 := h2 j hj
    rw [List.getElem?_eq_getElem hj] at h3
    rw [hb.cell (p := ⟨g, j, none⟩) (cell_lt h3), h3, List.getElem?_eq_getElem hj]
theorem CelV.at {w : World} {a : Option Addr} {xs : List Value} (h : CelV w a xs) {j : Nat} {v : Value} (hj : xs[j]? = some v) : ∃ g, a = some ⟨g, 0, none⟩ ∧ w.cell? ⟨g, j, none⟩ = some v := by
  rcases h with h | ⟨g, h1, h2⟩
  · rw [h] at hj; simp at hj
  · exact ⟨g, h1, (h2 j (List.getElem?_eq_some_iff.1 hj).1).trans hj⟩
theorem own_cel {w : World} {B k n : Nat} {t : TypeId} {v : Value} {xs : List Value} (h : w.ownsRow B t k v n xs) : ∃ a c, v = .slice a n c ∧ CelV w a xs ∧ n ≤ c ∧ c ≤ maxLen := by
  have hl := h.1
  rcases h.2 with ⟨h1, h2⟩ | ⟨g, cap, cur, h1, _, h3, h4, h5, _, h7⟩
  · refine ⟨none, 0, by rw [h1, h2], .inl (List.eq_nil_of_length_eq_zero (by rw [hl, h2, Nat.zero_mul])), by omega, Nat.zero_le _⟩
  · exact ⟨some ⟨g, 0, none⟩, cap, h1, .inr ⟨g, rfl, fun j hj => by
      have := List.getElem?_eq_getElem hj
      rw [this]; exact cell_take2 h3 (n := n * k) h7 this⟩, h4, h5⟩
/-- The r-th cell of the i-th of things that take k cells each. -/
theorem flat_get {α : Type} (f : α → List Value) (k : Nat) (hf : ∀ x, (f x).length = k) (d : α) (L : List α) : ∀ i r, i < L.length → r < k → (L.flatMap f)[i * k + r]? = (f (L.getD i d))[r]? := by
  induction L with
  | nil => intro i r h; simp at h
  | cons x L ih =>
    intro i r hi hr
    rw [List.flatMap_cons]
    cases i with
    | zero => rw [Nat.zero_mul, Nat.zero_add, List.getElem?_append_left (by rw [hf]; exact hr)]; rfl
    | succ i =>
      rw [List.getElem?_append_right (by rw [hf]; rw [Nat.succ_mul]; omega), hf, show (i + 1) * k + r - k = i * k + r by rw [Nat.succ_mul]; omega, ih i r (by simpa using hi) hr]; rfl
theorem flat_len {α : Type} (f : α → List Value) (k : Nat) (hf : ∀ x, (f x).length = k) (L : List α) : (L.flatMap f).length = L.length * k := by
  induction L with
  | nil => simp
  | cons x L ih => rw [List.flatMap_cons, List.length_append, hf, ih, List.length_cons, Nat.succ_mul, Nat.add_comm]

/-- Cells lie in a block of a type, from its beginning on, behind a slice's pointer. -/
def CelT (w : World) (t : TypeId) (a : Option Addr) (xs : List Value) : Prop := xs = [] ∨ ∃ g cs fz, a = some ⟨g, 0, none⟩ ∧ w.heap[g]? = some (.cells cs t fz) ∧ ∀ j, j < xs.length → cs[j]? = xs[j]?
theorem CelT.cel {w : World} {t : TypeId} {a : Option Addr} {xs : List Value} (h : CelT w t a xs) : CelV w a xs := by
  rcases h with h | ⟨g, cs, fz, h1, h2, h3⟩
  · exact .inl h
  · exact .inr ⟨g, h1, fun j hj => (cell_row h2 j).trans (h3 j hj)⟩
theorem own_celT {w : World} {B k n : Nat} {t : TypeId} {v : Value} {xs : List Value} (h : w.ownsRow B t k v n xs) : ∃ a c, v = .slice a n c ∧ CelT w t a xs := by
  have hl := h.1
  rcases h.2 with ⟨h1, h2⟩ | ⟨g, cap, cur, h1, _, h3, h4, h5, _, h7⟩
  · exact ⟨none, 0, by rw [h1, h2], .inl (List.eq_nil_of_length_eq_zero (by rw [hl, h2, Nat.zero_mul]))⟩
  · exact ⟨some ⟨g, 0, none⟩, cap, h1, .inr ⟨g, cur, _, rfl, h3, fun j hj => by
      rw [← h7, List.getElem?_take, if_pos (by rw [← hl]; exact hj), Array.getElem?_toList]⟩⟩
theorem CelT.keep {w w' : World} {t : TypeId} {a : Option Addr} {xs : List Value} (h : CelT w t a xs) (hk : ∀ (g : Nat) (cs : Array Value) (fz : Nat × Nat), w.heap[g]? = some (Obj.cells cs t fz) → w'.heap[g]? = w.heap[g]?) : CelT w' t a xs := by
  rcases h with h | ⟨g, cs, fz, h1, h2, h3⟩
  · exact .inl h
  · exact .inr ⟨g, cs, fz, h1, by rw [hk g cs fz h2]; exact h2, h3⟩
theorem CelT.below {w w' : World} {t : TypeId} {a : Option Addr} {xs : List Value} (h : CelT w t a xs) (hb : Below w.heap.size w w') : CelT w' t a xs :=
  h.keep fun g _ _ hg => hb.block g (hlt_of hg)
theorem CelT.grown {w w' : World} {t e : TypeId} {B k n : Nat} {v : Value} {ys : List Value} {a : Option Addr} {xs : List Value} (h : CelT w t a xs) (hown : w.ownsRow B e k v n ys) (hne : t ≠ e) (hg : w.grownBy w' v.ownBlock) : CelT w' t a xs :=
  h.keep fun g cs fz hgg => hg.block g (hlt_of hgg) (fun e1 => by
    rcases hown.2 with ⟨k1, _⟩ | ⟨g', cap, cur, k1, _, k3, _⟩
    · rw [k1] at e1; simp [Value.ownBlock] at e1
    · rw [k1] at e1; simp [Value.ownBlock] at e1
      subst e1
      rw [hgg] at k3
      simp only [Option.some.injEq, Obj.cells.injEq] at k3
      exact hne k3.2.1)
theorem CelT.set {w : World} {t : TypeId} {a : Option Addr} {xs : List Value} (h : CelT w t a xs) {b j : Nat} {u : Value} {cs : Array Value} {t' : TypeId} {fz : Nat × Nat} (hb : w.heap[b]? = some (.cells cs t' fz)) (hne : t ≠ t') : CelT (w.setCell ⟨b, j, none⟩ u) t a xs :=
  h.keep fun g cs' fz' hg => Below.heap_setCell _ _ _ _ (fun e => by
    subst e; rw [hb] at hg
    simp only [Option.some.injEq, Obj.cells.injEq] at hg
    exact hne hg.2.1.symm)

theorem hb_endK (w : World) (o : Obj) (H : Nat) (hH : w.heap.size = H) : (w.alloc o).heap[H]? = some o := by subst hH; exact hb_end _ _
end Go.Proofs.YtnbpdffdnphbeaaGreat
