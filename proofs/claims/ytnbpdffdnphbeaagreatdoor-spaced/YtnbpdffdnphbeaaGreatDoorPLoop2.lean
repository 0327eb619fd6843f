/- Plain: what Check and Ring tell of such lines. -/
import Derived.Test.YtnbpdffdnphbeaaGreatDoorPLoop
import Derived.Test.YtnbpdffdnphbeaaGreatDoorCkErr2
import Derived.Test.YtnbpdffdnphbeaaGreatDoorRgLinks
import Derived.Test.YtnbpdffdnphbeaaGreatDoorWsum
namespace Go.Proofs.YtnbpdffdnphbeaaGreatDoor

/-- Two rules' lines that Check can't tell apart, where no line is a num's. -/
structure Sim (x y : PLine) : Prop where
  k : x.kind = 3
  k' : y.kind = 3
  nm : x.name = y.name
  cc : x.conc = y.conc
  c0 : x.conc ≠ []
  mn : manyX x = manyX y
  er : ∀ ls, (∀ nm, hasL ls 1 nm = false) → (x.sum.any (fun p => !partOk ls p) || x.nd.any (fun p => !nodeOk ls p)) = (y.sum.any (fun p => !partOk ls p) || y.nd.any (fun p => !nodeOk ls p))
  gr : ∀ names f G, findN names [] = -1 → nodeG names f x.nd (partG names f x.sum G) = nodeG names f y.nd (partG names f y.sum G)
def AllS : List PLine → List PLine → Prop
  | [], [] => True
  | x :: xs, y :: ys => Sim x y ∧ AllS xs ys
  | _, _ => False

theorem AllS.ind {M : List PLine → List PLine → Prop} (h0 : M [] []) (h1 : ∀ x y xs ys, Sim x y → AllS xs ys → M xs ys → M (x :: xs) (y :: ys)) : ∀ xs ys, AllS xs ys → M xs ys
  | [], [], _ => h0
  | x :: xs, y :: ys, h => h1 x y xs ys h.1 h.2 (AllS.ind h0 h1 xs ys h.2)
  | [], _ :: _, h => absurd h id
  | _ :: _, [], h => absurd h id
theorem AllS.len {xs ys : List PLine} (h : AllS xs ys) : xs.length = ys.length :=
  AllS.ind (M := fun xs ys => xs.length = ys.length) rfl (fun _ _ _ _ _ _ h => by simp [h]) xs ys h
theorem AllS.cnt {xs ys : List PLine} (h : AllS xs ys) (k : Int) : cntK k xs = cntK k ys :=
  AllS.ind (M := fun xs ys => cntK k xs = cntK k ys) rfl (fun _ _ _ _ s _ h => by rw [cntK, cntK, s.k, s.k', h]) xs ys h
theorem AllS.take {xs ys : List PLine} (h : AllS xs ys) : ∀ n, AllS (xs.take n) (ys.take n) :=
  AllS.ind (M := fun xs ys => ∀ n, AllS (xs.take n) (ys.take n)) (fun n => by simp [AllS]) (fun x y xs ys s _ h n => by
    cases n with
    | zero => trivial
    | succ n => exact ⟨s, h n⟩) xs ys h
theorem AllS.get {xs ys : List PLine} (h : AllS xs ys) : ∀ i, i < ys.length → Sim (lA xs i) (lA ys i) :=
  AllS.ind (M := fun xs ys => ∀ i, i < ys.length → Sim (lA xs i) (lA ys i)) (fun i hi => absurd hi (by simp)) (fun x y xs ys s _ h i hi => by
    cases i with
    | zero => exact s
    | succ i => exact h i (by simpa using hi)) xs ys h
theorem AllS.heads {xs ys : List PLine} (h : AllS xs ys) : ∀ acc, headsG xs acc = headsG ys acc :=
  AllS.ind (M := fun xs ys => ∀ acc, headsG xs acc = headsG ys acc) (fun _ => rfl) (fun _ _ _ _ s _ h acc => by rw [headsG, headsG, s.k, s.k', s.cc, h]) xs ys h
theorem AllS.nam {xs ys : List PLine} (h : AllS xs ys) (l : List Bs) (hl : findN l [] = -1) : ∀ G, namG l xs G = namG l ys G :=
  AllS.ind (M := fun xs ys => ∀ G, namG l xs G = namG l ys G) (fun _ => rfl) (fun _ _ _ _ s _ h G => by rw [namG, namG, s.k, s.k', if_pos rfl, if_pos rfl, s.cc, s.gr l _ G hl, h]) xs ys h
theorem AllS.many {xs ys : List PLine} (h : AllS xs ys) : ∀ n i, i + n ≤ ys.length → manyG xs n i = manyG ys n i := by
  intro n
  induction n with
  | zero => intro i _; rfl
  | succ n ih =>
    intro i hi
    have s := h.get i (by omega)
    have e : manyP xs i = manyP ys i := by unfold manyP; rw [s.k, s.k', s.mn, (h.take i).cnt]
    rw [manyG, manyG, e, ih (i + 1) (by omega)]
end Go.Proofs.YtnbpdffdnphbeaaGreatDoor

/- Plain: such lines are good, such texts short. -/
namespace Go.Proofs.YtnbpdffdnphbeaaGreatDoor

end Go.Proofs.YtnbpdffdnphbeaaGreatDoor
