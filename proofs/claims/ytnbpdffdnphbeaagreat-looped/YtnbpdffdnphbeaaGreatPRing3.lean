/- Plain facts: the arrows that the program draws are the document's steps; rings are the same. -/
import Derived.Test.YtnbpdffdnphbeaaGreatRfBase2
import Derived.Deep.OwnRows
import Derived.Deep.RegionWith
import Derived.Deep.CutRange
import Derived.Test.YtnbpdffdnphbeaaGreatWsum
import Derived.Test.YtnbpdffdnphbeaaGreatPWeight
namespace Go.Proofs.YtnbpdffdnphbeaaGreat

theorem addG_get {G : List Bool} (hl : G.length = 64) (f t : Int) {a b : Nat} (ha : a < 8) (hb : b < 8) : gA (addG G f t) a b = (gA G a b || (decide (f = (a : Int)) && decide (t = (b : Int)))) := by
  unfold addG
  by_cases h : (0 ≤ f ∧ f < 8) ∧ (0 ≤ t ∧ t < 8)
  · rw [if_pos h, gA_set hl (by omega)]
    congr 1
    have e : decide (a * 8 + b = f.toNat * 8 + t.toNat) = (decide (f = (a : Int)) && decide (t = (b : Int))) := by
      rw [Bool.eq_iff_iff, Bool.and_eq_true, decide_eq_true_iff, decide_eq_true_iff, decide_eq_true_iff]
      omega
    exact e
  · rw [if_neg h]
    have : (decide (f = (a : Int)) && decide (t = (b : Int))) = false := by
      rw [Bool.and_eq_false_iff, decide_eq_false_iff_not, decide_eq_false_iff_not]
      omega
    rw [this, Bool.or_false]
theorem partG_len (names : List Bs) (f : Int) (S : List PPart) : ∀ G, (partG names f S G).length = G.length := by
  induction S with
  | nil => intro G; rfl
  | cons x r ih => intro G; rw [partG, ih, addG_len]
theorem nodeG_len (names : List Bs) (f : Int) (N : List PNode) : ∀ G, (nodeG names f N G).length = G.length := by
  induction N with
  | nil => intro G; rfl
  | cons x r ih => intro G; rw [nodeG, ih]; split
                   · rw [addG_len]
                   · rfl
theorem partG_get (names : List Bs) (f : Int) (S : List PPart) {a b : Nat} (ha : a < 8) (hb : b < 8) : ∀ G, G.length = 64 → gA (partG names f S G) a b = (gA G a b || (decide (f = (a : Int)) && S.any (fun x => decide (findN names x.name = (b : Int))))) := by
  induction S with
  | nil => intro G _; simp [partG]
  | cons x r ih =>
    intro G hl
    rw [partG, ih _ (by rw [addG_len, hl]), addG_get hl f _ ha hb, List.any_cons]
    cases gA G a b <;> cases decide (f = (a : Int)) <;> cases decide (findN names x.name = (b : Int)) <;> simp
theorem nodeG_get (names : List Bs) (f : Int) (N : List PNode) {a b : Nat} (ha : a < 8) (hb : b < 8) : ∀ G, G.length = 64 → gA (nodeG names f N G) a b = (gA G a b || (decide (f = (a : Int)) && N.any (fun x => decide (x.kind = 5) && decide (findN names x.name = (b : Int))))) := by
  induction N with
  | nil => intro G _; simp [nodeG]
  | cons x r ih =>
    intro G hl
    rw [nodeG]
    by_cases hk : x.kind = 5
    · rw [if_pos hk, ih _ (by rw [addG_len, hl]), addG_get hl f _ ha hb, List.any_cons, decide_eq_true hk]
      cases gA G a b <;> cases decide (f = (a : Int)) <;> cases decide (findN names x.name = (b : Int)) <;> simp
    · rw [if_neg hk, ih _ hl, List.any_cons, decide_eq_false hk]; simp
def arN (names : List Bs) (a b : Nat) (x : PLine) : Bool := decide (x.kind = 3) && (decide (findN names x.conc = (a : Int)) && (x.sum.any (fun y => decide (findN names y.name = (b : Int))) || x.nd.any (fun y => decide (y.kind = 5) && decide (findN names y.name = (b : Int)))))
theorem namG_get (names : List Bs) (ls : List PLine) {a b : Nat} (ha : a < 8) (hb : b < 8) : ∀ G, G.length = 64 → gA (namG names ls G) a b = (gA G a b || ls.any (arN names a b)) := by
  induction ls with
  | nil => intro G _; simp [namG]
  | cons x r ih =>
    intro G hl
    rw [namG, List.any_cons]
    by_cases hk : x.kind = 3
    · have ex : arN names a b x = (decide (findN names x.conc = (a : Int)) && (x.sum.any (fun y => decide (findN names y.name = (b : Int))) || x.nd.any (fun y => decide (y.kind = 5) && decide (findN names y.name = (b : Int))))) := by
        unfold arN; rw [decide_eq_true hk, Bool.true_and]
      rw [if_pos hk, ih _ (by rw [nodeG_len, partG_len, hl]), nodeG_get _ _ _ ha hb _ (by rw [partG_len, hl]), partG_get _ _ _ ha hb _ hl, ex]
      generalize r.any (arN names a b) = R
      generalize x.sum.any (fun y => decide (findN names y.name = (b : Int))) = s
      generalize x.nd.any (fun y => decide (y.kind = 5) && decide (findN names y.name = (b : Int))) = n
      cases gA G a b <;> cases decide (findN names x.conc = (a : Int)) <;> cases s <;> cases n <;> simp
    · have ex : arN names a b x = false := by unfold arN; rw [decide_eq_false hk]; rfl
      rw [if_neg hk, ih _ hl, ex, Bool.false_or]
def arO (labs : List Bs) (a b : Nat) (x : PLine) : Bool := decide (x.kind = 4) && (decide (findN labs x.name = (a : Int)) && decide (findN labs x.lower = (b : Int)))
theorem ordG_get (labs : List Bs) (ls : List PLine) {a b : Nat} (ha : a < 8) (hb : b < 8) : ∀ G, G.length = 64 → gA (ordG labs ls G) a b = (gA G a b || ls.any (arO labs a b)) := by
  induction ls with
  | nil => intro G _; simp [ordG]
  | cons x r ih =>
    intro G hl
    rw [ordG, List.any_cons]
    by_cases hk : x.kind = 4
    · rw [if_pos hk, ih _ (by rw [addG_len, hl]), addG_get hl _ _ ha hb]
      unfold arO
      rw [decide_eq_true hk]
      cases gA G a b <;> cases decide (findN labs x.name = (a : Int)) <;> cases decide (findN labs x.lower = (b : Int)) <;> simp
    · rw [if_neg hk, ih _ hl]
      have : arO labs a b x = false := by unfold arO; rw [decide_eq_false hk]; rfl
      rw [this, Bool.false_or]

theorem gZ_get {a b : Nat} : gA gZ a b = false := by
  unfold gA gZ
  simp only [List.getD_eq_getElem?_getD, List.getElem?_replicate]
  split <;> rfl

theorem part_any (S : List PPart) {d : Bs} (hd : d ≠ []) : (S.flatMap partN).any (fun y => decide (y.2 = d)) = S.any (fun x => decide (x.name = d)) := by
  induction S with
  | nil => rfl
  | cons x r ih =>
    rw [List.flatMap_cons, List.any_append, ih, List.any_cons]
    congr 1
    unfold partN
    by_cases h : x.name = []
    · rw [if_pos h, h, decide_eq_false (fun e => hd e.symm)]; rfl
    · rw [if_neg h]; simp
theorem node_any (N : List PNode) (d : Bs) : (needsN N).any (fun y => decide (y.1 = 1) && decide (y.2 = d)) = N.any (fun x => decide (x.kind = 5) && decide (x.name = d)) := by
  induction N with
  | nil => rfl
  | cons x r ih =>
    unfold needsN at ih ⊢
    rw [List.flatMap_cons, List.any_append, ih, List.any_cons]
    congr 1
    unfold nodeN
    by_cases h5 : x.kind = 5
    · rw [if_pos h5, decide_eq_true h5]; simp
    · rw [if_neg h5, decide_eq_false h5]
      split
      · simp
      · split
        · split <;> simp
        · rfl

theorem ar_nm {names : List Bs} (hn : names.Nodup) {a b : Nat} (hne : b < names.length → names.getD b [] ≠ []) (x : PLine) : arN names a b x = (decide (a < names.length) && (decide (b < names.length) && nmX (names.getD a []) (names.getD b []) x)) := by
  unfold arN nmX
  have e : ∀ (nm : Bs) (k : Nat), decide (findN names nm = (k : Int)) = (decide (k < names.length) && decide (nm = names.getD k [])) := fun nm k => by
    rw [Bool.eq_iff_iff, Bool.and_eq_true, decide_eq_true_iff, decide_eq_true_iff, decide_eq_true_iff, find_iff hn]
    exact ⟨fun h => ⟨h.1, h.2.symm⟩, fun h => ⟨h.1, h.2.symm⟩⟩
  simp only [e]
  by_cases hb : b < names.length
  · rw [decide_eq_true hb, part_any _ (hne hb), node_any]
    simp only [Bool.true_and]
    cases decide (x.kind = 3) <;> cases decide (a < names.length) <;> simp
  · rw [decide_eq_false hb]
    simp

theorem ar_ov {labs : List Bs} (hn : labs.Nodup) {a b : Nat} (x : PLine) : arO labs a b x = (decide (a < labs.length) && (decide (b < labs.length) && ovX (labs.getD a []) (labs.getD b []) x)) := by
  unfold arO ovX
  have e : ∀ (nm : Bs) (k : Nat), decide (findN labs nm = (k : Int)) = (decide (k < labs.length) && decide (nm = labs.getD k [])) := fun nm k => by
    rw [Bool.eq_iff_iff, Bool.and_eq_true, decide_eq_true_iff, decide_eq_true_iff, decide_eq_true_iff, find_iff hn]
    exact ⟨fun h => ⟨h.1, h.2.symm⟩, fun h => ⟨h.1, h.2.symm⟩⟩
  rw [e, e]
  cases decide (x.kind = 4) <;> cases decide (a < labs.length) <;> cases decide (b < labs.length) <;> simp

theorem any_and (p : Bool) (q : PLine → Bool) (ls : List PLine) : ls.any (fun x => p && q x) = (p && ls.any q) := by
  induction ls with
  | nil => simp
  | cons x r ih => rw [List.any_cons, ih, List.any_cons]; cases p <;> simp

/-- Rings of conclusions. -/
theorem ring_heads {ls : List PLine} {us : List Toks} (hA : AllLT ls us) (h8 : cntK 3 ls ≤ 8) : ringU us false = ringB (namG (headsB ls) ls gZ) := by
  obtain ⟨hn, hmem, hlen⟩ := heads_inv ls [] List.nodup_nil
  have hl8 : (headsB ls).length ≤ 8 := by unfold headsB; simp at hlen; omega
  have hne : ∀ b, b < (headsB ls).length → (headsB ls).getD b [] ≠ [] := by
    intro b hb e
    have h1 : (headsB ls).getD b [] ∈ headsB ls := by simp [List.getD, hb]
    rw [e] at h1
    have h2 := (hmem []).1 h1
    rcases h2 with h2 | h2
    · simp at h2
    · obtain ⟨x, hx, hc⟩ := List.any_eq_true.1 h2
      unfold isC at hc
      rw [Bool.and_eq_true, decide_eq_true_iff, decide_eq_true_iff] at hc
      have hex : ∀ {ls : List PLine} {us : List Toks}, AllLT ls us → x ∈ ls → ∃ u, LT x u := by
        intro ls
        induction ls with
        | nil => intro us _ h; simp at h
        | cons y r ih =>
          intro us hA h
          cases us with
          | nil => exact absurd hA id
          | cons u us =>
            rcases List.mem_cons.1 h with rfl | h
            · exact ⟨u, hA.1⟩
            · exact ih hA.2 h
      obtain ⟨u, hu⟩ := hex hA hx
      obtain ⟨w, hw⟩ := hu.rule (hu.k3.1 hc.1)
      exact hw.ne hc.2
  unfold ringU namesOf
  simp only [heads_same hA]
  refine ring_same (by rw [namG_len]; exact gZ_len) hl8 (fun a b ha hb => ?_)
  rw [namG_get _ _ ha hb _ gZ_len, gZ_get, Bool.false_or]
  have e1 : ls.any (arN (headsB ls) a b) = (decide (a < (headsB ls).length) && (decide (b < (headsB ls).length) && ls.any (nmX ((headsB ls).getD a []) ((headsB ls).getD b [])))) := by
    rw [← any_and, ← any_and]
    congr 1
    funext x
    exact ar_nm hn (hne b) x
  rw [e1]
  unfold stp stepM stepR namesR
  simp only
  rw [← any_same hA (fun x u hx => (nm_same hx _ _).symm), Bool.and_eq_true, Bool.and_eq_true, decide_eq_true_iff, decide_eq_true_iff]

theorem labs_inv (ls : List PLine) : ∀ acc, (labsG ls acc).length = acc.length + cntK 3 ls ∧ (∀ nm, nm ∈ labsG ls acc ↔ (nm ∈ acc ∨ hasL ls 3 nm = true)) := by
  induction ls with
  | nil => intro acc; exact ⟨by simp [labsG, cntK], fun nm => by simp [labsG, hasL]⟩
  | cons x r ih =>
    intro acc
    rw [labsG, cntK]
    by_cases hk : x.kind = 3
    · rw [if_pos hk, if_pos hk]
      obtain ⟨h1, h2⟩ := ih (acc ++ [x.name])
      refine ⟨by rw [h1, List.length_append, List.length_singleton]; omega, fun nm => ?_⟩
      rw [h2, List.mem_append, List.mem_singleton]
      unfold hasL
      rw [List.any_cons, Bool.or_eq_true]
      unfold isL
      rw [decide_eq_true hk, Bool.true_and, decide_eq_true_iff]
      constructor
      · rintro ((h | h) | h)
        · exact .inl h
        · exact .inr (.inl h.symm)
        · exact .inr (.inr h)
      · rintro (h | h | h)
        · exact .inl (.inl h)
        · exact .inl (.inr h.symm)
        · exact .inr h
    · rw [if_neg hk, if_neg hk]
      obtain ⟨h1, h2⟩ := ih acc
      refine ⟨by omega, fun nm => ?_⟩
      rw [h2]
      unfold hasL
      rw [List.any_cons]
      have : isL 3 nm x = false := by unfold isL; rw [decide_eq_false hk]; rfl
      rw [this, Bool.false_or]
theorem labs_nodup (ls : List PLine) (h : ∀ i, i < ls.length → (lA ls i).kind = 3 → hasL (ls.take i) 3 (lA ls i).name = false) : (labsB ls).Nodup := by
  have key : ∀ n, n ≤ ls.length → (labsG (ls.take n) []).Nodup := by
    intro n
    induction n with
    | zero => intro _; simp [labsG]
    | succ n ih =>
      intro hn
      rw [take_succ_lA ls n (by omega), labsG_app, labsG, labsG]
      split
      · rename_i hk
        rw [List.nodup_append]
        refine ⟨ih (by omega), by simp, fun a ha b hb => ?_⟩
        rw [List.mem_singleton.1 hb]
        intro e
        subst e
        have := ((labs_inv (ls.take n) []).2 (lA ls n).name).1 ha
        rcases this with h1 | h1
        · simp at h1
        · rw [h n (by omega) hk] at h1; exact absurd h1 (by decide)
      · exact ih (by omega)
  have := key ls.length (Nat.le_refl _)
  rw [List.take_length] at this
  exact this
/-- Rings of rules. -/
theorem ring_labs {ls : List PLine} {us : List Toks} (hA : AllLT ls us) (h8 : cntK 3 ls ≤ 8) (hn : (labsB ls).Nodup) : ringU us true = ringB (ordG (labsB ls) ls gZ) := by
  have hlen := (labs_inv ls []).1
  have hl8 : (labsB ls).length ≤ 8 := by unfold labsB; simp at hlen; omega
  unfold ringU namesOf
  simp only [labs_same hA]
  refine ring_same (by rw [ordG_len]; exact gZ_len) hl8 (fun a b ha hb => ?_)
  rw [ordG_get _ _ ha hb _ gZ_len, gZ_get, Bool.false_or]
  have e1 : ls.any (arO (labsB ls) a b) = (decide (a < (labsB ls).length) && (decide (b < (labsB ls).length) && ls.any (ovX ((labsB ls).getD a []) ((labsB ls).getD b [])))) := by
    rw [← any_and, ← any_and]
    congr 1
    funext x
    exact ar_ov hn x
  rw [e1]
  unfold stp stepM stepR overR
  simp only
  rw [← any_same hA (fun x u hx => (ov_same hx _ _).symm), Bool.and_eq_true, Bool.and_eq_true, decide_eq_true_iff, decide_eq_true_iff]
end Go.Proofs.YtnbpdffdnphbeaaGreat

/- What Heads and Labels of the document's answer give: the conclusions in order, the labels of all rules. -/
namespace Go.Proofs.YtnbpdffdnphbeaaGreat
open Go.RowKit

theorem headsR_step (us : List Toks) (i : Nat) (acc : List Bs) (h : i < us.length) : headsR us (us.length - i) i acc = headsR us (us.length - (i + 1)) (i + 1) (if cA (uA us i) 0 = kRule ∧ firstB us kRule 3 (tA (uA us i) 3) = (i : Int) then acc ++ [tA (uA us i) 3] else acc) := by
  rw [show us.length - i = (us.length - (i + 1)) + 1 by omega, headsR]
theorem labsR_step (us : List Toks) (i : Nat) (acc : List Bs) (h : i < us.length) : labsR us (us.length - i) i acc = labsR us (us.length - (i + 1)) (i + 1) (if cA (uA us i) 0 = kRule then acc ++ [tA (uA us i) 1] else acc) := by
  rw [show us.length - i = (us.length - (i + 1)) + 1 by omega, labsR]

end Go.Proofs.YtnbpdffdnphbeaaGreat

/- What Names, Over and step of the document's answer give: from which name to which there is a step. -/
namespace Go.Proofs.YtnbpdffdnphbeaaGreat
open Go.RowKit

theorem any_dropU (p : Toks → Bool) (us : List Toks) (i : Nat) (h : i < us.length) : (us.drop i).any p = (p (uA us i) || (us.drop (i + 1)).any p) := by
  rw [List.drop_eq_getElem_cons h, List.any_cons]; simp [uA, List.getD, h]
theorem nmI_step (u : Toks) (d : Bs) (k : Nat) (h : k < u.length) : nmI u d (u.length - k) k = (nmAt u d k || nmI u d (u.length - (k + 1)) (k + 1)) := by
  rw [show u.length - k = (u.length - (k + 1)) + 1 by omega, nmI]

end Go.Proofs.YtnbpdffdnphbeaaGreat

/- What Over, step and steps of the document's answer give: a row of bools for each name. -/
namespace Go.Proofs.YtnbpdffdnphbeaaGreat
open Go.RowKit

/- Rows of bools. -/
def BoolM (w : World) (g : Nat) (l : List Bool) : Prop := w.heap[g]? = some (.cells (gC l) 4 (0, 0))
theorem BoolM.cell {w : World} {g : Nat} {l : List Bool} (h : BoolM w g l) {k : Nat} (hk : k < l.length) : w.cell? ⟨g, k, none⟩ = some (.bool (l.getD k false)) := by
  simp only [World.cell?, show w.heap[g]? = _ from h]
  exact gC_get hk
theorem BoolM.free {w : World} {g : Nat} {l : List Bool} (h : BoolM w g l) (k : Nat) : w.frozen? ⟨g, k, none⟩ = false := by simp [World.frozen?, show w.heap[g]? = _ from h]
theorem BoolM.lt {w : World} {g : Nat} {l : List Bool} (h : BoolM w g l) : g < w.heap.size := by
  rcases Nat.lt_or_ge g w.heap.size with h1 | h1
  · exact h1
  · have h2 : w.heap[g]? = _ := h; rw [Array.getElem?_eq_none h1] at h2; cases h2
theorem BoolM.set {w : World} {g : Nat} {l : List Bool} (h : BoolM w g l) (k : Nat) (b : Bool) : BoolM (w.setCell ⟨g, k, none⟩ (.bool b)) g (l.set k b) := by
  unfold BoolM at h ⊢
  rw [setCell_eq_setRow w g k _ _ _ _ h, setRow_heap w g (gC l) _ _ _ h]
  congr 2
  simp [gC, List.map_set]
theorem OnlyG.drew {g : Nat} {a b : World} (h : OnlyG g a b) : OnlyG g a b.drew := ⟨h.os, h.tape, h.output, h.size, h.block⟩
theorem made_false (n : Nat) : madeCells #[Value.bool false] n = gC (List.replicate n false) := by
  apply Array.ext
  · simp [madeCells, gC]
  · intro i h1 h2
    simp [madeCells, gC, Nat.mod_one]

/-- A row so far: the first k bools are told. -/
def rowTo (m : Nat → Nat → Bool) (i N k : Nat) : List Bool := (List.range N).map fun j => decide (j < k) && m i j
theorem rowTo_len (m : Nat → Nat → Bool) (i N k : Nat) : (rowTo m i N k).length = N := by simp [rowTo]
theorem rowTo_zero (m : Nat → Nat → Bool) (i N : Nat) : rowTo m i N 0 = List.replicate N false := by
  apply List.ext_getElem
  · simp [rowTo]
  · intro n h1 h2; simp [rowTo]
theorem rowTo_set (m : Nat → Nat → Bool) (i N k : Nat) : (rowTo m i N k).set k (m i k) = rowTo m i N (k + 1) := by
  apply List.ext_getElem
  · simp [rowTo]
  · intro n h1 h2
    simp only [rowTo, List.getElem_set, List.getElem_map, List.getElem_range]
    by_cases h : k = n
    · subst h; simp
    · rw [if_neg h]
      congr 1
      rw [decide_eq_decide]; omega
theorem rowTo_get (m : Nat → Nat → Bool) (i N k : Nat) (hk : k < N) : (rowTo m i N N).getD k false = m i k := by
  simp [rowTo, List.getD, hk]

def rowV (N g : Nat) : Value := .slice (some ⟨g, 0, none⟩) N N
/-- Rows lie in memory. -/
structure MatM (B : Nat) (w : World) (v : Value) (gs : List Nat) (m : Nat → Nat → Bool) (N k : Nat) : Prop where
  len : gs.length = k
  own : w.ownsRow B 99 1 v gs.length (gs.map (rowV N))
  rows : ∀ j, j < k → BoolM w (gs.getD j 0) (rowTo m j N N)

theorem infoRow : (Tryz.prog.info? 99).map (fun i => (i.zero, i.size, i.bytes)) = some (some (.slice none 0 0), 1, 24) := by kernel_rfl
theorem infoBool : (Tryz.prog.info? 4).map (fun i => (i.zero, i.size, i.bytes)) = some (some (.bool false), 1, 1) := by kernel_rfl

theorem owns_same {w w' : World} {B : Nat} {e : TypeId} {size : Nat} {v : Value} {n : Nat} {xs : List Value} (h : w.ownsRow B e size v n xs) (hb : Below w.heap.size w w') : w'.ownsRow B e size v n xs := by
  refine ⟨h.1, ?_⟩
  rcases h.2 with h1 | ⟨g, cap, cur, h1, h2, h3, r⟩
  · exact .inl h1
  · refine .inr ⟨g, cap, cur, h1, h2, ?_, r⟩
    have hlt : g < w.heap.size := by
      rcases Nat.lt_or_ge g w.heap.size with h | h
      · exact h
      · rw [Array.getElem?_eq_none h] at h3; cases h3
    rw [hb.block g hlt]; exact h3
theorem BoolM.below {w w' : World} {g : Nat} {l : List Bool} (h : BoolM w g l) (hb : Below w.heap.size w w') : BoolM w' g l := by
  have hl := h.lt
  unfold BoolM at h ⊢
  rw [hb.block g hl]; exact h
theorem BoolM.grown {w w' : World} {g B : Nat} {l : List Bool} {v : Value} {n : Nat} {xs : List Value} (h : BoolM w g l) (hl : w.ownsRow B 99 1 v n xs) (hg : w.grownBy w' v.ownBlock) : BoolM w' g l := by
  have hlt := h.lt
  unfold BoolM at h ⊢
  rw [hg.block g hlt ?_]; · exact h
  intro hE
  rcases hl.2 with ⟨k1, _⟩ | ⟨g', cap', cur', k1, _, k3, _⟩
  · rw [k1] at hE; simp [Value.ownBlock] at hE
  · rw [k1] at hE
    simp [Value.ownBlock] at hE
    subst hE
    rw [h] at k3
    simp at k3
theorem MatM.snoc {B N i g : Nat} {w w' : World} {v v' : Value} {gs : List Nat} {m : Nat → Nat → Bool} (h : MatM B w v gs m N i) (hr : BoolM w g (rowTo m i N N)) (hg : w.grownBy w' v.ownBlock) (hown : w'.ownsRow B 99 1 v' (gs.length + 1) (gs.map (rowV N) ++ [rowV N g])) : MatM B w' v' (gs ++ [g]) m N (i + 1) := by
  refine ⟨by rw [List.length_append, List.length_singleton, h.len], by rw [List.length_append, List.map_append]; exact hown, fun j hj => ?_⟩
  have hl := h.len
  rcases Nat.lt_or_ge j i with h1 | h1
  · have e : (gs ++ [g]).getD j 0 = gs.getD j 0 := by rw [List.getD, List.getD, List.getElem?_append_left (by omega)]
    rw [e]; exact (h.rows j h1).grown h.own hg
  · obtain rfl : j = i := by omega
    have e : (gs ++ [g]).getD j 0 = g := by rw [List.getD, List.getElem?_append_right (by omega), hl]; simp
    rw [e]; exact hr.grown h.own hg

theorem StrV.below {w w' : World} {a : Option Addr} {names : List Bs} (h : StrV w a names) (hb : Below w.heap.size w w') : StrV w' a names :=
  ⟨fun h0 => let ⟨g, e, p⟩ := h.blk h0; ⟨g, e, fun i hi => by rw [hb.cell (p := ⟨g, i, none⟩) (cell_lt (p i hi))]; exact p i hi⟩, h.few⟩

end Go.Proofs.YtnbpdffdnphbeaaGreat

/- What Leads and ringed of the document's answer give: is there a chain, is there a ring? -/
namespace Go.Proofs.YtnbpdffdnphbeaaGreat
open Go.RowKit

theorem lY_step (m : Nat → Nat → Bool) (fr : Bool) (x N y : Nat) (s : List Bool) (h : y < N) : lY m fr x (N - y) y s = lY m fr x (N - (y + 1)) (y + 1) (if fr && m x y then s.set y true else s) := by
  rw [show N - y = (N - (y + 1)) + 1 by omega, lY]
theorem lX_step (m : Nat → Nat → Bool) (i N x : Nat) (s : List Bool) (h : x < N) : lX m i N (N - x) x s = lX m i N (N - (x + 1)) (x + 1) (lY m (lFr i x s) x N 0 s) := by
  rw [show N - x = (N - (x + 1)) + 1 by omega, lX]
theorem lN_step (m : Nat → Nat → Bool) (i N n : Nat) (s : List Bool) (h : n < N + 1) : lN m i N (N + 1 - n) s = lN m i N (N + 1 - (n + 1)) (lX m i N N 0 s) := by
  rw [show N + 1 - n = (N + 1 - (n + 1)) + 1 by omega, lN]

/-- A row's value and its cells, at any world that leaves it. -/
theorem MatM.row {B N : Nat} {w : World} {v : Value} {gs : List Nat} {m : Nat → Nat → Bool} (h : MatM B w v gs m N N) {x : Nat} (hx : x < N) : ∃ gm cm, v = .slice (some ⟨gm, 0, none⟩) N cm ∧ w.cell? ⟨gm, x, none⟩ = some (.slice (some ⟨gs.getD x 0, 0, none⟩) N N) ∧ gm < w.heap.size ∧ BoolM w (gs.getD x 0) (rowTo m x N N) := by
  rcases h.own.2 with ⟨_, h2⟩ | ⟨g, cap, cur, h1, _, h3, _, _, _, h7⟩
  · have := h.len; omega
  · refine ⟨g, cap, by rw [h1, h.len], ?_, ?_, h.rows x hx⟩
    · refine cell_take2 h3 h7 ?_
      rw [List.getElem?_map]
      simp [List.getD, rowV, show x < gs.length by rw [h.len]; exact hx]
    · rcases Nat.lt_or_ge g w.heap.size with h9 | h9
      · exact h9
      · rw [Array.getElem?_eq_none h9] at h3; cases h3

theorem MatM.below {B N k : Nat} {w w' : World} {v : Value} {gs : List Nat} {m : Nat → Nat → Bool} (h : MatM B w v gs m N k) (hb : Below w.heap.size w w') : MatM B w' v gs m N k :=
  ⟨h.len, owns_same h.own hb, fun j hj => (h.rows j hj).below hb⟩

theorem any_range_drop (p : Nat → Bool) (N i : Nat) (h : i < N) : ((List.range N).drop i).any p = (p i || ((List.range N).drop (i + 1)).any p) := by
  rw [List.drop_eq_getElem_cons (by simpa using h), List.any_cons, List.getElem_range]

end Go.Proofs.YtnbpdffdnphbeaaGreat

/- What fits and named of the document's answer give: are a line's names those that may stand there? -/
namespace Go.Proofs.YtnbpdffdnphbeaaGreat
open Go.RowKit

def cmpW : Bs := [60, 32, 60, 61, 32, 61, 32, 33, 61, 32, 62, 61, 32, 62]
theorem among_cmp (s : Bs) : amongB cmpW s = decide (s ∈ cmpL) := by
  rw [among_iff, show wordsG cmpW (cmpW.length + 1) 0 0 = cmpL by decide]

end Go.Proofs.YtnbpdffdnphbeaaGreat

/- What weight of the document's answer gives of the tokens of a guard: its tests and its depth. -/
namespace Go.Proofs.YtnbpdffdnphbeaaGreat
open Go.RowKit

theorem ret_ints {a b c d : Int} (h : a = c) (k : b = d) : Ending.returned (.tuple #[.int .i64 a, .int .i64 b]) = .returned (.tuple #[.int .i64 c, .int .i64 d]) := by rw [h, k]

end Go.Proofs.YtnbpdffdnphbeaaGreat
