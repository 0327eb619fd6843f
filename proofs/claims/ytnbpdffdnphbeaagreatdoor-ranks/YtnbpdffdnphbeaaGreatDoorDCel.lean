/- Cells behind a slice's pointer, by their row and by their type. -/
import Derived.Test.YtnbpdffdnphbeaaGreatDoorRgLinks
import Derived.Test.YtnbpdffdnphbeaaGreatDoorRfBase
import Derived.Test.YtnbpdffdnphbeaaGreatDoorCkErr
import Derived.Test.YtnbpdffdnphbeaaGreatDoorCkAll
import Derived.Laws.IdiomStrings
import Derived.Deep.DeepCutAuto
namespace Go.Proofs.YtnbpdffdnphbeaaGreatDoor
open Go.RowKit

/-- Cells lie in memory, from the beginning of a block on, behind a slice's pointer. -/
def CelV (w : World) (a : Option Addr) (xs : List Value) : Prop := xs = [] ∨ ∃ g, a = some ⟨g, 0, none⟩ ∧ ∀ j, j < xs.length → w.cell? ⟨g, j, none⟩ = xs[j]?
theorem CelV.below {w w' : World} {a : Option Addr} {xs : List Value} (h : CelV w a xs) (hb : Below w.heap.size w w') : CelV w' a xs := by
  rcases h with h | ⟨g, h1, h2⟩
  · exact .inl h
  · refine .inr ⟨g, h1, fun j hj => ?_⟩
    have h3 := h2 j hj
    rw [List.getElem?_eq_getElem hj] at h3
    rw [hb.cell (p := ⟨g, j, none⟩) (cell_lt h3), h3, List.getElem?_eq_getElem hj]
theorem CelV.at {w : World} {a : Option Addr} {xs : List Value} (h : CelV w a xs) {j : Nat} {v : Value} (hj : xs[j]? = some v) : ∃ g, a = some ⟨g, 0, none⟩ ∧ w.cell? ⟨g, j, none⟩ = some v := by
  rcases h with h | ⟨g, h1, h2⟩
  · rw [h] at hj; simp at hj
  · exact ⟨g, h1, (h2 j (List.getElem?_eq_some_iff.1 hj).1).trans hj⟩
theorem own_cel {w : World} {B k n : Nat} {t : TypeId} {v : Value} {xs : List Value} (h : w.ownsRow B t k v n xs) : ∃ a c, v = .slice a n c ∧ CelV w a xs ∧ n ≤ c ∧ c ≤ maxLen := by
  have hl := h.1
  rcases h.2 with ⟨h1, h2⟩ | ⟨g, cap, cur, h1, _, h3, h4, h5, _, h7⟩
  · refine ⟨none, 0, by rw [h1, h2], .inl (List.eq_nil_of_length_eq_zero (by rw [hl, h2, Nat.zero_mul])), by omega, Nat.zero_le _⟩
  · exact ⟨some ⟨g, 0, none⟩, cap, h1, .inr ⟨g, rfl, fun j hj => by
      have := List.getElem?_eq_getElem hj
      rw [this]; exact cell_take2 h3 (n := n * k) h7 this⟩, h4, h5⟩
/-- The r-th cell of the i-th of things that take k cells each. -/
theorem flat_get {α : Type} (f : α → List Value) (k : Nat) (hf : ∀ x, (f x).length = k) (d : α) (L : List α) : ∀ i r, i < L.length → r < k → (L.flatMap f)[i * k + r]? = (f (L.getD i d))[r]? := by
  induction L with
  | nil => intro i r h; simp at h
  | cons x L ih =>
    intro i r hi hr
    rw [List.flatMap_cons]
    cases i with
    | zero => rw [Nat.zero_mul, Nat.zero_add, List.getElem?_append_left (by rw [hf]; exact hr)]; rfl
    | succ i =>
      rw [List.getElem?_append_right (by rw [hf]; rw [Nat.succ_mul]; omega), hf, show (i + 1) * k + r - k = i * k + r by rw [Nat.succ_mul]; omega, ih i r (by simpa using hi) hr]; rfl
theorem flat_len {α : Type} (f : α → List Value) (k : Nat) (hf : ∀ x, (f x).length = k) (L : List α) : (L.flatMap f).length = L.length * k := by
  induction L with
  | nil => simp
  | cons x L ih => rw [List.flatMap_cons, List.length_append, hf, ih, List.length_cons, Nat.succ_mul, Nat.add_comm]

/-- Cells lie in a block of a type, from its beginning on, behind a slice's pointer. -/
def CelT (w : World) (t : TypeId) (a : Option Addr) (xs : List Value) : Prop := xs = [] ∨ ∃ g cs fz, a = some ⟨g, 0, none⟩ ∧ w.heap[g]? = some (.cells cs t fz) ∧ ∀ j, j < xs.length → cs[j]? = xs[j]?
theorem CelT.cel {w : World} {t : TypeId} {a : Option Addr} {xs : List Value} (h : CelT w t a xs) : CelV w a xs := by
  rcases h with h | ⟨g, cs, fz, h1, h2, h3⟩
  · exact .inl h
  · exact .inr ⟨g, h1, fun j hj => (cell_row h2 j).trans (h3 j hj)⟩
theorem own_celT {w : World} {B k n : Nat} {t : TypeId} {v : Value} {xs : List Value} (h : w.ownsRow B t k v n xs) : ∃ a c, v = .slice a n c ∧ CelT w t a xs := by
  have hl := h.1
  rcases h.2 with ⟨h1, h2⟩ | ⟨g, cap, cur, h1, _, h3, h4, h5, _, h7⟩
  · exact ⟨none, 0, by rw [h1, h2], .inl (List.eq_nil_of_length_eq_zero (by rw [hl, h2, Nat.zero_mul]))⟩
  · exact ⟨some ⟨g, 0, none⟩, cap, h1, .inr ⟨g, cur, _, rfl, h3, fun j hj => by
      rw [← h7, List.getElem?_take, if_pos (by rw [← hl]; exact hj), Array.getElem?_toList]⟩⟩
theorem CelT.keep {w w' : World} {t : TypeId} {a : Option Addr} {xs : List Value} (h : CelT w t a xs) (hk : ∀ (g : Nat) (cs : Array Value) (fz : Nat × Nat), w.heap[g]? = some (Obj.cells cs t fz) → w'.heap[g]? = w.heap[g]?) : CelT w' t a xs := by
  rcases h with h | ⟨g, cs, fz, h1, h2, h3⟩
  · exact .inl h
  · exact .inr ⟨g, cs, fz, h1, by rw [hk g cs fz h2]; exact h2, h3⟩
theorem CelT.below {w w' : World} {t : TypeId} {a : Option Addr} {xs : List Value} (h : CelT w t a xs) (hb : Below w.heap.size w w') : CelT w' t a xs :=
  h.keep fun g _ _ hg => hb.block g (hlt_of hg)
theorem CelT.grown {w w' : World} {t e : TypeId} {B k n : Nat} {v : Value} {ys : List Value} {a : Option Addr} {xs : List Value} (h : CelT w t a xs) (hown : w.ownsRow B e k v n ys) (hne : t ≠ e) (hg : w.grownBy w' v.ownBlock) : CelT w' t a xs :=
  h.keep fun g cs fz hgg => hg.block g (hlt_of hgg) (fun e1 => by
    rcases hown.2 with ⟨k1, _⟩ | ⟨g', cap, cur, k1, _, k3, _⟩
    · rw [k1] at e1; simp [Value.ownBlock] at e1
    · rw [k1] at e1; simp [Value.ownBlock] at e1
      subst e1
      rw [hgg] at k3
      simp only [Option.some.injEq, Obj.cells.injEq] at k3
      exact hne k3.2.1)
theorem CelT.set {w : World} {t : TypeId} {a : Option Addr} {xs : List Value} (h : CelT w t a xs) {b j : Nat} {u : Value} {cs : Array Value} {t' : TypeId} {fz : Nat × Nat} (hb : w.heap[b]? = some (.cells cs t' fz)) (hne : t ≠ t') : CelT (w.setCell ⟨b, j, none⟩ u) t a xs :=
  h.keep fun g cs' fz' hg => Below.heap_setCell _ _ _ _ (fun e => by
    subst e; rw [hb] at hg
    simp only [Option.some.injEq, Obj.cells.injEq] at hg
    exact hne hg.2.1.symm)

theorem hb_endK (w : World) (o : Obj) (H : Nat) (hH : w.heap.size = H) : (w.alloc o).heap[H]? = some o := by subst hH; exact hb_end _ _
end Go.Proofs.YtnbpdffdnphbeaaGreatDoor

/- The program's model: its parts, and their cells. -/
namespace Go.Proofs.YtnbpdffdnphbeaaGreatDoor
open Go.RowKit

/-- A node of the program's model. -/
structure MNode where
  kind : Int
  left : Int
  right : Int
  place : Int
  two : Bool
  other : Int
  num : Int
  less : Bool
  equal : Bool
  more : Bool
def mnodeC (x : MNode) : List Value := [.int .i64 x.kind, .int .i64 x.left, .int .i64 x.right, .int .i64 x.place, .bool x.two, .int .i64 x.other, .int .i64 x.num, .bool x.less, .bool x.equal, .bool x.more]
def mnodeV (x : MNode) : Value := .agg #[.int .i64 x.kind, .int .i64 x.left, .int .i64 x.right, .int .i64 x.place, .bool x.two, .int .i64 x.other, .int .i64 x.num, .bool x.less, .bool x.equal, .bool x.more]
/-- A part of a sum, in the program's model. -/
structure MPart where
  kind : Int
  num : Int
  place : Int
def mpartC (x : MPart) : List Value := [.int .i64 x.kind, .int .i64 x.num, .int .i64 x.place]
def mp0 : MPart := ⟨0, 0, 0⟩
def mn0 : MNode := ⟨0, 0, 0, 0, false, 0, 0, false, false, false⟩
/-- A rule of the program's model. -/
structure MRule where
  label : Bs
  conc : Int
  sum : List MPart
  guard : List MNode
  root : Int
abbrev MX := MRule × Value × Value
def mruleV (x : MX) : Value := .agg #[.string ⟨x.1.label.toArray⟩, .int .i64 x.1.conc, x.2.1, x.2.2, .int .i64 x.1.root]
def mruleC (x : MX) : List Value := [.string ⟨x.1.label.toArray⟩, .int .i64 x.1.conc, x.2.1, x.2.2, .int .i64 x.1.root]
structure MRulC (w : World) (x : MX) : Prop where
  sum : ∃ a c, x.2.1 = .slice a x.1.sum.length c ∧ CelT w 321 a (x.1.sum.flatMap mpartC)
  guard : ∃ a c, x.2.2 = .slice a x.1.guard.length c ∧ CelT w 324 a (x.1.guard.flatMap mnodeC)
  few1 : x.1.sum.length ≤ 10000
  few2 : x.1.guard.length ≤ 10000
theorem MRulC.below {w w' : World} {x : MX} (h : MRulC w x) (hb : Below w.heap.size w w') : MRulC w' x := by
  obtain ⟨a, c, h1, h2⟩ := h.sum
  obtain ⟨a', c', h3, h4⟩ := h.guard
  exact ⟨⟨a, c, h1, h2.below hb⟩, ⟨a', c', h3, h4.below hb⟩, h.few1, h.few2⟩
/-- An input of the program's model. -/
structure MInp where
  name : Bs
  isFlag : Bool
  low : Int
  high : Int
def minpV (x : MInp) : Value := .agg #[.string ⟨x.name.toArray⟩, .bool x.isFlag, .int .i64 x.low, .int .i64 x.high]
def minpC (x : MInp) : List Value := [.string ⟨x.name.toArray⟩, .bool x.isFlag, .int .i64 x.low, .int .i64 x.high]
def mi0 : MInp := ⟨[], false, 0, 0⟩
end Go.Proofs.YtnbpdffdnphbeaaGreatDoor

/- What FindInput and findConclusion of the program's model give: the place of a name. -/
namespace Go.Proofs.YtnbpdffdnphbeaaGreatDoor
open Go.RowKit


set_option maxHeartbeats 1000000 in
theorem FindInput_s (w : World) (b o : Nat) (ia : Option Addr) (ic : Nat) (L : List MInp) (nm : Bs) (hm : w.cell? ⟨b, o, none⟩ = some (.slice ia L.length ic)) (hc : CelV w ia (L.flatMap minpC)) (hf : L.length ≤ 10000) :
    Calls Tryz.prog 177 #[.pointer (some ⟨b, o, none⟩), .string ⟨nm.toArray⟩] w fun e w' => e = .returned (.int .i64 (findN (L.map MInp.name) nm)) ∧ Below w.heap.size w w' := by
  have HC := hideP2 hc
  clear hc
  go_enter Tryz.func177, Tryz.ntmps177
  go_wp2_with fail
  go_loopw [12] (fun iv wr => ∃ (i : Nat), i ≤ L.length ∧ iv = .int .i64 i ∧ Hid (Below w.heap.size w wr) ∧ Hid (findI nm ((L.map MInp.name).drop i) i = findN (L.map MInp.name) nm)) (fun iv _ => L.length - (intOf iv).toNat)
  case atStart => exact ⟨0, Nat.zero_le _, rfl, hideP2 (Below.refl _ _), hideP2 rfl⟩
  case round =>
    obtain ⟨i, hi, rfl, HB, HE⟩ := hrel
    have hsz := HB.out.size
    by_cases hlt : i < L.length
    · have hcr := HC.out.below HB.out
      obtain ⟨g, rfl, q0⟩ := hcr.at ((flat_get minpC 4 (fun _ => rfl) mi0 L i 0 hlt (by decide)).trans rfl)
      have q1 := (hcr.at ((flat_get minpC 4 (fun _ => rfl) mi0 L i 1 hlt (by decide)).trans rfl)).elim fun g' h => (show g = g' by simpa using h.1) ▸ h.2
      have q2 := (hcr.at ((flat_get minpC 4 (fun _ => rfl) mi0 L i 2 hlt (by decide)).trans rfl)).elim fun g' h => (show g = g' by simpa using h.1) ▸ h.2
      have q3 := (hcr.at ((flat_get minpC 4 (fun _ => rfl) mi0 L i 3 hlt (by decide)).trans rfl)).elim fun g' h => (show g = g' by simpa using h.1) ▸ h.2
      rw [Nat.add_zero] at q0
      have hE := HE.out
      rw [findI_drop nm (L.map MInp.name) i (by simpa using hlt)] at hE
      have hgd : (L.map MInp.name).getD i [] = MInp.name (L.getD i mi0) := by simp [List.getD, hlt]
      rw [hgd] at hE
      have HE2 := hideP2 hE
      have lg := cell_lt q0
      have mg : wr.heap.size ≠ g := by omega
      clear HE hE hcr hgd
      generalize L.getD i mi0 = x at *
      obtain ⟨x0, x1, x2, x3⟩ := x
      simp only at q0 q1 q2 q3 HE2
      by_cases k1 : x0 = nm
      · have HE3 : Hid (findN (L.map MInp.name) nm = i) := by have := HE2.out; rw [if_pos k1] at this; exact this.symm
        have b1 : (x0 == nm) = true := by simpa using k1
        clear HE2 k1
        go_wp2_with fail
        go_ret
        exact ⟨ret_int HE3.out.symm, HB.out.alloc hsz _⟩
      · have HE3 : Hid (findI nm ((L.map MInp.name).drop (i + 1)) (i + 1) = findN (L.map MInp.name) nm) := by have := HE2.out; rw [if_neg k1] at this; exact this
        have b1 : (x0 == nm) = false := by simpa using k1
        clear HE2 k1
        go_wp2_with fail
        go_roundw
        case rel => exact ⟨i + 1, by omega, by go_num, hideP2 (HB.out.alloc hsz _), HE3⟩
        case measure => simp [intOf]; omega
    · have HE3 : Hid (findN (L.map MInp.name) nm = -1) := by have := HE.out; rw [List.drop_eq_nil_of_le (by simp; omega)] at this; exact this.symm
      clear HE
      go_wp2_with fail
      go_ret
      exact ⟨ret_int HE3.out.symm, HB.out⟩

def lvlC (x : Bs × Nat) : List Value := [.string ⟨x.1.toArray⟩, .int .i64 (x.2 : Nat)]

set_option maxHeartbeats 1000000 in
theorem findConc_s (w : World) (b o : Nat) (ia : Option Addr) (ic : Nat) (L : List (Bs × Nat)) (nm : Bs) (hm : w.cell? ⟨b, o + 1, none⟩ = some (.slice ia L.length ic)) (hc : CelV w ia (L.flatMap lvlC)) (hf : L.length ≤ 10000) :
    Calls Tryz.prog 184 #[.pointer (some ⟨b, o, none⟩), .string ⟨nm.toArray⟩] w fun e w' => e = .returned (.int .i64 (findN (L.map Prod.fst) nm)) ∧ Below w.heap.size w w' := by
  have HC := hideP2 hc
  clear hc
  go_enter Tryz.func184, Tryz.ntmps184
  go_wp2_with fail
  go_loopw [12] (fun iv wr => ∃ (i : Nat), i ≤ L.length ∧ iv = .int .i64 i ∧ Hid (Below w.heap.size w wr) ∧ Hid (findI nm ((L.map Prod.fst).drop i) i = findN (L.map Prod.fst) nm)) (fun iv _ => L.length - (intOf iv).toNat)
  case atStart => exact ⟨0, Nat.zero_le _, rfl, hideP2 (Below.refl _ _), hideP2 rfl⟩
  case round =>
    obtain ⟨i, hi, rfl, HB, HE⟩ := hrel
    have hsz := HB.out.size
    by_cases hlt : i < L.length
    · have hcr := HC.out.below HB.out
      obtain ⟨g, rfl, q0⟩ := hcr.at ((flat_get lvlC 2 (fun _ => rfl) ([], 0) L i 0 hlt (by decide)).trans rfl)
      have q1 := (hcr.at ((flat_get lvlC 2 (fun _ => rfl) ([], 0) L i 1 hlt (by decide)).trans rfl)).elim fun g' h => (show g = g' by simpa using h.1) ▸ h.2
      rw [Nat.add_zero] at q0
      have hE := HE.out
      rw [findI_drop nm (L.map Prod.fst) i (by simpa using hlt)] at hE
      have hgd : (L.map Prod.fst).getD i [] = Prod.fst (L.getD i ([], 0)) := by simp [List.getD, hlt]
      rw [hgd] at hE
      have HE2 := hideP2 hE
      have lg := cell_lt q0
      have mg : wr.heap.size ≠ g := by omega
      clear HE hE hcr hgd
      generalize L.getD i ([], 0) = x at *
      obtain ⟨x0, x1⟩ := x
      simp only at q0 q1 HE2
      by_cases k1 : x0 = nm
      · have HE3 : Hid (findN (L.map Prod.fst) nm = i) := by have := HE2.out; rw [if_pos k1] at this; exact this.symm
        have b1 : (x0 == nm) = true := by simpa using k1
        clear HE2 k1
        go_wp2_with fail
        go_ret
        exact ⟨ret_int HE3.out.symm, HB.out.alloc hsz _⟩
      · have HE3 : Hid (findI nm ((L.map Prod.fst).drop (i + 1)) (i + 1) = findN (L.map Prod.fst) nm) := by have := HE2.out; rw [if_neg k1] at this; exact this
        have b1 : (x0 == nm) = false := by simpa using k1
        clear HE2 k1
        go_wp2_with fail
        go_roundw
        case rel => exact ⟨i + 1, by omega, by go_num, hideP2 (HB.out.alloc hsz _), HE3⟩
        case measure => simp [intOf]; omega
    · have HE3 : Hid (findN (L.map Prod.fst) nm = -1) := by have := HE.out; rw [List.drop_eq_nil_of_le (by simp; omega)] at this; exact this.symm
      clear HE
      go_wp2_with fail
      go_ret
      exact ⟨ret_int HE3.out.symm, HB.out⟩
end Go.Proofs.YtnbpdffdnphbeaaGreatDoor

/- Plain: the program's model of a rulebook's lines. -/
namespace Go.Proofs.YtnbpdffdnphbeaaGreatDoor

def inpOf (x : PLine) : MInp := if x.kind = 1 then ⟨x.name, false, x.low, x.high⟩ else ⟨x.name, true, 0, 0⟩
def inpsG : List PLine → List MInp → List MInp
  | [], acc => acc
  | x :: r, acc => inpsG r (if x.kind = 1 ∨ x.kind = 2 then acc ++ [inpOf x] else acc)
/-- The inputs, in the order of their lines. -/
def inpsB (ls : List PLine) : List MInp := inpsG ls []
def inpNs (ls : List PLine) : List Bs := (inpsB ls).map MInp.name
theorem inpsG_drop (ls : List PLine) (i : Nat) (acc : List MInp) (h : i < ls.length) : inpsG (ls.drop i) acc = inpsG (ls.drop (i + 1)) (if (lA ls i).kind = 1 ∨ (lA ls i).kind = 2 then acc ++ [inpOf (lA ls i)] else acc) := by
  rw [List.drop_eq_getElem_cons h, inpsG]; simp [lA, List.getD, h]

def mpK (ins : List Bs) (x : PPart) : Int := if x.name = [] then 1 else if findN ins x.name < 0 then 3 else 2
def mpP (ins cs : List Bs) (x : PPart) : Int := if x.name = [] then 0 else if findN ins x.name < 0 then findN cs x.name else findN ins x.name
def mpN (x : PPart) : Int := if x.name = [] then x.num else if x.starred then x.num else 1
/-- A part of a sum in the model. -/
def mpartOf (ins cs : List Bs) (x : PPart) : MPart := ⟨mpK ins x, if x.minus then -mpN x else mpN x, mpP ins cs x⟩
def mnP (ins cs : List Bs) (x : PNode) : Int := if x.kind = 5 then findN cs x.name else if x.kind = 6 ∨ x.kind = 7 then findN ins x.name else 0
def mnO (ins : List Bs) (x : PNode) : Int := if x.other = [] then 0 else findN ins x.other
def mLess (m : Bs) : Bool := decide (m = [60] ∨ m = [60, 61] ∨ m = [33, 61])
def mEqual (m : Bs) : Bool := decide (m = [60, 61] ∨ m = [61] ∨ m = [62, 61])
def mMore (m : Bs) : Bool := decide (m = [62] ∨ m = [62, 61] ∨ m = [33, 61])
/-- A node of a guard in the model. -/
def mnodeOf (ins cs : List Bs) (x : PNode) : MNode := ⟨x.kind, x.left, x.right, mnP ins cs x, decide (x.other ≠ []), mnO ins x, x.num, mLess x.mark, mEqual x.mark, mMore x.mark⟩
/-- A rule in the model. -/
def mruleOf (ins cs : List Bs) (x : PLine) : MRule := ⟨x.name, findN cs x.conc, x.sum.map (mpartOf ins cs), x.nd.map (mnodeOf ins cs), x.root⟩
def rulesG (ins cs : List Bs) : List PLine → List MRule → List MRule
  | [], acc => acc
  | x :: r, acc => rulesG ins cs r (if x.kind = 3 then acc ++ [mruleOf ins cs x] else acc)
def rulesB (ins cs : List Bs) (ls : List PLine) : List MRule := rulesG ins cs ls []
theorem rulesG_drop (ins cs : List Bs) (ls : List PLine) (i : Nat) (acc : List MRule) (h : i < ls.length) : rulesG ins cs (ls.drop i) acc = rulesG ins cs (ls.drop (i + 1)) (if (lA ls i).kind = 3 then acc ++ [mruleOf ins cs (lA ls i)] else acc) := by
  rw [List.drop_eq_getElem_cons h, rulesG]; simp [lA, List.getD, h]
theorem rulesG_eq (ins cs : List Bs) (ls : List PLine) : ∀ acc, rulesG ins cs ls acc = acc ++ (ls.filter fun x => decide (x.kind = 3)).map (mruleOf ins cs) := by
  induction ls with
  | nil => intro acc; simp [rulesG]
  | cons x r ih => intro acc; rw [rulesG, ih]; by_cases h : x.kind = 3 <;> simp [h]
theorem inpsG_eq (ls : List PLine) : ∀ acc, inpsG ls acc = acc ++ (ls.filter fun x => decide (x.kind = 1 ∨ x.kind = 2)).map inpOf := by
  induction ls with
  | nil => intro acc; simp [inpsG]
  | cons x r ih => intro acc; rw [inpsG, ih]; by_cases h : x.kind = 1 ∨ x.kind = 2 <;> simp [h]
theorem inpOf_name (x : PLine) : (inpOf x).name = x.name := by unfold inpOf; split <;> rfl
theorem inpNs_eq (ls : List PLine) : inpNs ls = (ls.filter fun x => decide (x.kind = 1 ∨ x.kind = 2)).map PLine.name := by
  unfold inpNs inpsB; rw [inpsG_eq, List.nil_append, List.map_map]; congr 1; funext x; exact inpOf_name x

end Go.Proofs.YtnbpdffdnphbeaaGreatDoor

/- What Above of the program's links gives: which rule stands above which. -/
namespace Go.Proofs.YtnbpdffdnphbeaaGreatDoor
open Go.RowKit

set_option maxRecDepth 100000 in
set_option maxHeartbeats 2000000 in
theorem LAbove_s (w : World) (a : Option Addr) (c : Nat) (ls : List LX) (h : LinV w a ls) :
    Calls Tryz.prog 117 #[.slice a ls.length c] w fun e w' => e = .returned (.agg (gC (chainsB (ordG (labsB (fs ls)) (fs ls) gZ)))) ∧ Below w.heap.size w w' := by
  have HO := hideP2 (fun o => Order_s (w.alloc o) a c ls (h.below ((Below.refl _ _).alloc (Nat.le_refl _) o) (Nat.le_refl _)))
  have HGL : Hid ((ordG (labsB (fs ls)) (fs ls) gZ).length = 64) := by unfold Hid; rw [ordG_len]; exact gZ_len
  clear h
  generalize ordG (labsB (fs ls)) (fs ls) gZ = Go at *
  have HCL : Hid ((chainsB Go).length = 64) := by unfold Hid chainsB; rw [wA_len]; exact HGL.out
  have HCh := hideP2 (fun w' g (hg : GrM w' g Go) => chains_s w' g Go hg)
  generalize chainsB Go = Gc at *
  go_enter Tryz.func117, Tryz.ntmps117
  go_wp2_with fail
  refine (HO.out _).mono ?_
  rintro e w1 ⟨rfl, hb1⟩
  have hz1 : w1.heap[w.heap.size]? = some (.cells (gC gZ) 94 (0, 0)) := by rw [hb1.block _ (lt_end _ _)]; exact hb_end _ _
  have hs1 := Nat.lt_of_lt_of_le (lt_end w _) hb1.size
  have HB1 : Hid (Below w.heap.size w w1) := ((Below.refl _ _).alloc (Nat.le_refl _) _).trans (hb1.mono (Nat.le_of_lt (lt_end _ _)))
  have HZ1 := hideP2 hz1
  clear hb1 hz1 HO
  go_wp2_with (refine wpList_store_row ?hgd 94 (.tmp 3) (.tmp 5) ?ho w1.heap.size (gC Go) ?hx ?hy 94 (gC gZ) (hb_end w1 _) (gInfoC HGL.out) ?hold (gC_one Go) ?_
               case ho => rfl
               case hgd => rfl
               case hx => rfl
               case hy => rfl
               case hold => rw [gC_size, gC_size, gZ_len, HGL.out])
  refine (HCh.out _ w1.heap.size ⟨setRow_heap _ _ (gC gZ) _ _ _ (hb_end w1 _), HGL.out⟩).mono ?_
  rintro e w2 ⟨rfl, hb2⟩
  have HBm : Hid (Below w.heap.size w ((w1.alloc (.cells (gC gZ) 94 (0, 0))).setRow w1.heap.size (gC Go))) := below_row (HB1.out.alloc (Nat.le_of_lt hs1) _) (Nat.le_of_lt hs1) _
  have hsz : ((w1.alloc (.cells (gC gZ) 94 (0, 0))).setRow w1.heap.size (gC Go)).heap.size = w1.heap.size + 1 := by unfold World.setRow; simp
  have HB2 : Hid (Below w.heap.size w w2) := HBm.out.trans (hb2.mono (by rw [hsz]; omega))
  have HZ2 : Hid (w2.heap[w.heap.size]? = some (.cells (gC gZ) 94 (0, 0))) := by
    unfold Hid; rw [hb2.block _ (by rw [hsz]; omega), setRow_other _ _ _ _ (by omega)]; exact hb_new HZ1.out
  clear hb2 HBm hsz HCh
  go_wp2_with (refine wpList_store_row ?hgd 94 (.tmp 2) (.tmp 6) ?ho w.heap.size (gC Gc) ?hx ?hy 94 (gC gZ) HZ2.out (gInfoC HCL.out) ?hold (gC_one Gc) ?_
               case ho => rfl
               case hgd => rfl
               case hx => rfl
               case hy => rfl
               case hold => rw [gC_size, gC_size, gZ_len, HCL.out])
  refine bodyPost_ret (v := .agg (gC Gc)) (results_cell_row Tryz.results117 _ _ w.heap.size 94 (gC Gc) (0, 0) _ rfl (setRow_heap _ _ (gC gZ) _ _ _ HZ2.out) Tryz.underlying94 rfl (gInfoC HCL.out)) rfl ⟨rfl, below_row HB2.out (Nat.le_refl _) _⟩
end Go.Proofs.YtnbpdffdnphbeaaGreatDoor

/- What own gives; the cells of a model, row by row. -/
namespace Go.Proofs.YtnbpdffdnphbeaaGreatDoor
open Go.RowKit

/-- A text of its own: bytes of it, and a text of these. -/
theorem conv_there (w : World) (s : Bs) : ∃ wc cap, (convert 9 224 (.string ⟨s.toArray⟩)).run Tryz.prog w = .ok (.slice (some ⟨w.heap.size, 0, none⟩) s.length cap) wc ∧ (convert 224 9 (.slice (some ⟨w.heap.size, 0, none⟩) s.length cap)).run Tryz.prog wc = .ok (.string ⟨s.toArray⟩) wc ∧ Below w.heap.size w wc := by
  have h1 := run_bytes_of_string (P := Tryz.prog) w 9 224 5 ⟨s.toArray⟩ Tryz.underlying9 Tryz.underlying224 Tryz.underlying5
  have hsz : (⟨s.toArray⟩ : ByteArray).size = s.length := by simp [ByteArray.size]
  rw [hsz] at h1
  generalize grownCap w s.length 0 5 = cap at h1
  refine ⟨_, cap, h1, ?_, ?_⟩
  · refine run_convert_bytes_back (P := Tryz.prog) _ 224 9 5 ⟨w.heap.size, 0, none⟩ cap s Tryz.underlying224 Tryz.underlying5 Tryz.underlying9 (fun j hj => ?_)
    have h2 := cell_row (hb_end w.drew (.cells (bytesRow ⟨s.toArray⟩ cap) 5 ((bytesRow ⟨s.toArray⟩ cap).size, (bytesRow ⟨s.toArray⟩ cap).size + 1))) j
    have h3 : (bytesRow ⟨s.toArray⟩ cap)[j]? = some (.int .u8 (s[j].toNat : Int)) := by
      unfold bytesRow
      rw [Array.getElem?_append_left (by simpa using hj)]
      simp [hj]
    rw [h3] at h2
    have e : (⟨w.heap.size, 0, none⟩ : Addr).add j = ⟨w.heap.size, j, none⟩ := by simp [Addr.add]; omega
    rw [e]
    exact h2
  · exact (below_drewN (Below.refl w.heap.size w) 1).alloc (Nat.le_refl _) _
set_option maxHeartbeats 1000000 in
theorem own_s (w : World) (s : Bs) : Calls Tryz.prog 119 #[.string ⟨s.toArray⟩] w fun e w' => e = .returned (.string ⟨s.toArray⟩) ∧ Below w.heap.size w w' := by
  obtain ⟨wc, cap, kc1, kc2, hbc⟩ := conv_there w s
  have HB := hideP2 hbc
  clear hbc
  go_enter Tryz.func119, Tryz.ntmps119
  go_wp2_with fail
  go_ret
  exact ⟨rfl, HB.out⟩

theorem lvlB_len (ls : List PLine) : (lvlB ls).length ≤ (headsB ls).length := by
  have key : ∀ (S : List Nat) (hd : List Bs) (i : Nat) (acc : List (Bs × Nat)), (lvlG S hd i acc).length ≤ acc.length + hd.length := by
    intro S hd
    induction hd with
    | nil => intro i acc; simp [lvlG]
    | cons n r ih => intro i acc; rw [lvlG]; have := ih (i + 1) (if i < 8 then acc ++ [(n, S.getD i 0)] else acc); split at this <;> simp at this ⊢ <;> split <;> omega
  have := key (levelsB (namG (headsB ls) ls gZ)) (headsB ls) 0 []
  unfold lvlB
  simpa using this
theorem headsB_len (ls : List PLine) : (headsB ls).length ≤ ls.length := by
  have key : ∀ (ls : List PLine) (acc : List Bs), (headsG ls acc).length ≤ acc.length + ls.length := by
    intro ls
    induction ls with
    | nil => intro acc; simp [headsG]
    | cons x r ih => intro acc; rw [headsG]; have := ih (if x.kind = 3 ∧ findN acc x.conc < 0 then acc ++ [x.conc] else acc); split at this <;> simp at this ⊢ <;> split <;> omega
  have := key ls []
  unfold headsB
  simpa using this
/-- The cells of a model. -/
def mdC (iv cv rv : Value) (G : List Bool) : Array Value := #[iv, cv, rv] ++ gC G
def mdO (iv cv rv : Value) (G : List Bool) : Obj := .cells (mdC iv cv rv G) 96 (0, 0)
theorem mdC_size (iv cv rv : Value) (G : List Bool) : (mdC iv cv rv G).size = 3 + G.length := by unfold mdC; rw [Array.size_append, gC_size]; rfl
theorem mdC_get3 (iv cv rv : Value) (G : List Bool) (k : Nat) (hk : k < G.length) : (mdC iv cv rv G)[3 + k]? = some (.bool (G.getD k false)) := by
  unfold mdC gC
  rw [Array.getElem?_append_right (by simp)]
  simp [List.getD, hk]
theorem mdC_get (iv cv rv : Value) (G : List Bool) : (mdC iv cv rv G)[0]? = some iv ∧ (mdC iv cv rv G)[1]? = some cv ∧ (mdC iv cv rv G)[2]? = some rv := by
  unfold mdC
  refine ⟨?_, ?_, ?_⟩ <;> rw [Array.getElem?_append_left (by simp)] <;> rfl
theorem md_cell {w : World} {b : Nat} {iv cv rv : Value} {G : List Bool} (h : w.heap[b]? = some (mdO iv cv rv G)) : w.cell? ⟨b, 0, none⟩ = some iv ∧ w.cell? ⟨b, 1, none⟩ = some cv ∧ w.cell? ⟨b, 2, none⟩ = some rv ∧ (∀ k, k < G.length → w.cell? ⟨b, 3 + k, none⟩ = some (.bool (G.getD k false))) ∧ ∀ j, w.frozen? ⟨b, j, none⟩ = false := by
  unfold mdO at h
  obtain ⟨h0, h1, h2⟩ := mdC_get iv cv rv G
  exact ⟨(cell_row h 0).trans h0, (cell_row h 1).trans h1, (cell_row h 2).trans h2, fun k hk => (cell_row h _).trans (mdC_get3 iv cv rv G k hk), fun j => by simp [World.frozen?, h]⟩
theorem md_set0 {w : World} {b : Nat} {iv cv rv v : Value} {G : List Bool} (h : w.heap[b]? = some (mdO iv cv rv G)) : (w.setCell ⟨b, 0, none⟩ v).heap[b]? = some (mdO v cv rv G) := by
  unfold mdO at h ⊢
  rw [heap_setCell_same w b 0 _ _ _ h]; congr 2; unfold mdC; rw [Array.setIfInBounds_append, if_pos (by simp)]; rfl
theorem md_set1 {w : World} {b : Nat} {iv cv rv v : Value} {G : List Bool} (h : w.heap[b]? = some (mdO iv cv rv G)) : (w.setCell ⟨b, 1, none⟩ v).heap[b]? = some (mdO iv v rv G) := by
  unfold mdO at h ⊢
  rw [heap_setCell_same w b 1 _ _ _ h]; congr 2; unfold mdC; rw [Array.setIfInBounds_append, if_pos (by simp)]; rfl
theorem md_set2 {w : World} {b : Nat} {iv cv rv v : Value} {G : List Bool} (h : w.heap[b]? = some (mdO iv cv rv G)) : (w.setCell ⟨b, 2, none⟩ v).heap[b]? = some (mdO iv cv v G) := by
  unfold mdO at h ⊢
  rw [heap_setCell_same w b 2 _ _ _ h]; congr 2; unfold mdC; rw [Array.setIfInBounds_append, if_pos (by simp)]; rfl
theorem range64 (G : List Bool) (h : G.length = 64) : G = (List.range 64).map (fun i => G.getD i false) := by
  apply List.ext_getElem?
  intro i
  by_cases hi : i < 64
  · simp [hi, List.getD, h]
  · rw [List.getElem?_eq_none (by omega), List.getElem?_eq_none (by simp; omega)]
set_option maxRecDepth 100000 in
theorem mod_built (G : List Bool) (h : G.length = 64) : Tryz.prog.built 96 [(3, .agg (gC G))] = some (mdC (.slice none 0 0) (.slice none 0 0) (.slice none 0 0) G) := by
  have key : ∀ b : Nat → Bool, Tryz.prog.built 96 [(3, .agg (gC ((List.range 64).map b)))] = some (mdC (.slice none 0 0) (.slice none 0 0) (.slice none 0 0) ((List.range 64).map b)) := fun b => by kernel_rfl
  rw [range64 G h]; exact key _
theorem gC_some (G : List Bool) : ∀ v ∈ gC G, v.oneCell' = true := by
  intro v hv
  have := Array.all_eq_true_iff_forall_mem.1 (gC_one G) v hv
  exact this
theorem mdC_one {iv cv rv : Value} (h0 : iv.oneCell' = true) (h1 : cv.oneCell' = true) (h2 : rv.oneCell' = true) (G : List Bool) : (mdC iv cv rv G).all (·.oneCell') = true := by
  rw [Array.all_eq_true_iff_forall_mem]
  intro v hv
  unfold mdC at hv
  rcases Array.mem_append.1 hv with h | h
  · simp at h; rcases h with rfl | rfl | rfl <;> assumption
  · exact gC_some G v h
theorem modInfo {G : List Bool} (h : G.length = 64) (iv cv rv : Value) : (Tryz.prog.info? 96).map (·.size) = some (mdC iv cv rv G).size := by rw [mdC_size, h]; kernel_rfl
theorem mod_zero : Tryz.zeroCells96 = mdC (.slice none 0 0) (.slice none 0 0) (.slice none 0 0) gZ := by kernel_rfl
theorem lvC_take (L : List (Bs × Nat)) (i : Nat) (h : i < L.length) : lvC (L.take (i + 1)) = lvC (L.take i) ++ [.string ⟨(L.getD i ([], 0)).1.toArray⟩, .int .i64 ((L.getD i ([], 0)).2 : Nat)] := by
  have : L.take (i + 1) = L.take i ++ [L.getD i ([], 0)] := by rw [List.take_add_one]; simp [List.getD, h]
  rw [this, lvC_snoc]
theorem own_nil (w : World) (B : Nat) (t : TypeId) (k : Nat) : w.ownsRow B t k (.slice none 0 0) 0 [] := ⟨by simp, .inl ⟨rfl, rfl⟩⟩
end Go.Proofs.YtnbpdffdnphbeaaGreatDoor
