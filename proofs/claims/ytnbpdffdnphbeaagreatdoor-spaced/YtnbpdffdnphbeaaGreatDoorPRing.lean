/- Plain facts: the document's conclusions, labels and steps are those that the program draws; so both tell a ring of the same rulebooks. -/
import Derived.Test.YtnbpdffdnphbeaaGreatDoorPCheck2
import Derived.Test.YtnbpdffdnphbeaaGreatDoorCkErr2
namespace Go.Proofs.YtnbpdffdnphbeaaGreatDoor

/- The document's side. -/
/- The program's side, as steps between lines. -/
end Go.Proofs.YtnbpdffdnphbeaaGreatDoor

/- Plain facts: where no line is one too many and none has a fault, the program and the document tell a ring of the same lines. -/
namespace Go.Proofs.YtnbpdffdnphbeaaGreatDoor

/- Heads. -/
end Go.Proofs.YtnbpdffdnphbeaaGreatDoor

/- Plain facts: the arrows that the program draws are the document's steps; rings are the same. -/
namespace Go.Proofs.YtnbpdffdnphbeaaGreatDoor

theorem addG_get {G : List Bool} (hl : G.length = 64) (f t : Int) {a b : Nat} (ha : a < 8) (hb : b < 8) : gA (addG G f t) a b = (gA G a b || (decide (f = (a : Int)) && decide (t = (b : Int)))) := by
  unfold addG
  by_cases h : (0 ≤ f ∧ f < 8) ∧ (0 ≤ t ∧ t < 8)
  · rw [if_pos h, gA_set hl (by omega)]
    congr 1
    have e : decide (a * 8 + b = f.toNat * 8 + t.toNat) = (decide (f = (a : Int)) && decide (t = (b : Int))) := by
      rw [Bool.eq_iff_iff, Bool.and_eq_true, decide_eq_true_iff, decide_eq_true_iff, decide_eq_true_iff]
      omega
    exact e
  · rw [if_neg h]
    have : (decide (f = (a : Int)) && decide (t = (b : Int))) = false := by
      rw [Bool.and_eq_false_iff, decide_eq_false_iff_not, decide_eq_false_iff_not]
      omega
    rw [this, Bool.or_false]
theorem partG_len (names : List Bs) (f : Int) (S : List PPart) : ∀ G, (partG names f S G).length = G.length := by
  induction S with
  | nil => intro G; rfl
  | cons x r ih => intro G; rw [partG, ih, addG_len]
theorem nodeG_len (names : List Bs) (f : Int) (N : List PNode) : ∀ G, (nodeG names f N G).length = G.length := by
  induction N with
  | nil => intro G; rfl
  | cons x r ih => intro G; rw [nodeG, ih]; split
                   · rw [addG_len]
                   · rfl
theorem partG_get (names : List Bs) (f : Int) (S : List PPart) {a b : Nat} (ha : a < 8) (hb : b < 8) : ∀ G, G.length = 64 → gA (partG names f S G) a b = (gA G a b || (decide (f = (a : Int)) && S.any (fun x => decide (findN names x.name = (b : Int))))) := by
  induction S with
  | nil => intro G _; simp [partG]
  | cons x r ih =>
    intro G hl
    rw [partG, ih _ (by rw [addG_len, hl]), addG_get hl f _ ha hb, List.any_cons]
    cases gA G a b <;> cases decide (f = (a : Int)) <;> cases decide (findN names x.name = (b : Int)) <;> simp
theorem nodeG_get (names : List Bs) (f : Int) (N : List PNode) {a b : Nat} (ha : a < 8) (hb : b < 8) : ∀ G, G.length = 64 → gA (nodeG names f N G) a b = (gA G a b || (decide (f = (a : Int)) && N.any (fun x => decide (x.kind = 5) && decide (findN names x.name = (b : Int))))) := by
  induction N with
  | nil => intro G _; simp [nodeG]
  | cons x r ih =>
    intro G hl
    rw [nodeG]
    by_cases hk : x.kind = 5
    · rw [if_pos hk, ih _ (by rw [addG_len, hl]), addG_get hl f _ ha hb, List.any_cons, decide_eq_true hk]
      cases gA G a b <;> cases decide (f = (a : Int)) <;> cases decide (findN names x.name = (b : Int)) <;> simp
    · rw [if_neg hk, ih _ hl, List.any_cons, decide_eq_false hk]; simp
def arN (names : List Bs) (a b : Nat) (x : PLine) : Bool := decide (x.kind = 3) && (decide (findN names x.conc = (a : Int)) && (x.sum.any (fun y => decide (findN names y.name = (b : Int))) || x.nd.any (fun y => decide (y.kind = 5) && decide (findN names y.name = (b : Int)))))
theorem namG_get (names : List Bs) (ls : List PLine) {a b : Nat} (ha : a < 8) (hb : b < 8) : ∀ G, G.length = 64 → gA (namG names ls G) a b = (gA G a b || ls.any (arN names a b)) := by
  induction ls with
  | nil => intro G _; simp [namG]
  | cons x r ih =>
    intro G hl
    rw [namG, List.any_cons]
    by_cases hk : x.kind = 3
    · have ex : arN names a b x = (decide (findN names x.conc = (a : Int)) && (x.sum.any (fun y => decide (findN names y.name = (b : Int))) || x.nd.any (fun y => decide (y.kind = 5) && decide (findN names y.name = (b : Int))))) := by
        unfold arN; rw [decide_eq_true hk, Bool.true_and]
      rw [if_pos hk, ih _ (by rw [nodeG_len, partG_len, hl]), nodeG_get _ _ _ ha hb _ (by rw [partG_len, hl]), partG_get _ _ _ ha hb _ hl, ex]
      generalize r.any (arN names a b) = R
      generalize x.sum.any (fun y => decide (findN names y.name = (b : Int))) = s
      generalize x.nd.any (fun y => decide (y.kind = 5) && decide (findN names y.name = (b : Int))) = n
      cases gA G a b <;> cases decide (findN names x.conc = (a : Int)) <;> cases s <;> cases n <;> simp
    · have ex : arN names a b x = false := by unfold arN; rw [decide_eq_false hk]; rfl
      rw [if_neg hk, ih _ hl, ex, Bool.false_or]
def arO (labs : List Bs) (a b : Nat) (x : PLine) : Bool := decide (x.kind = 4) && (decide (findN labs x.name = (a : Int)) && decide (findN labs x.lower = (b : Int)))
theorem ordG_get (labs : List Bs) (ls : List PLine) {a b : Nat} (ha : a < 8) (hb : b < 8) : ∀ G, G.length = 64 → gA (ordG labs ls G) a b = (gA G a b || ls.any (arO labs a b)) := by
  induction ls with
  | nil => intro G _; simp [ordG]
  | cons x r ih =>
    intro G hl
    rw [ordG, List.any_cons]
    by_cases hk : x.kind = 4
    · rw [if_pos hk, ih _ (by rw [addG_len, hl]), addG_get hl _ _ ha hb]
      unfold arO
      rw [decide_eq_true hk]
      cases gA G a b <;> cases decide (findN labs x.name = (a : Int)) <;> cases decide (findN labs x.lower = (b : Int)) <;> simp
    · rw [if_neg hk, ih _ hl]
      have : arO labs a b x = false := by unfold arO; rw [decide_eq_false hk]; rfl
      rw [this, Bool.false_or]

end Go.Proofs.YtnbpdffdnphbeaaGreatDoor
