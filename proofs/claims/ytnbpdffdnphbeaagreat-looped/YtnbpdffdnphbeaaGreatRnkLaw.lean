/- The law Ranks answers true at every text, given what Load gives. -/
import Derived.Test.YtnbpdffdnphbeaaGreatRfCrowd
import Derived.Test.YtnbpdffdnphbeaaGreatStCheck
import Derived.Test.YtnbpdffdnphbeaaGreatPure5
import Derived.Test.YtnbpdffdnphbeaaGreatPCheck2
import Derived.Test.YtnbpdffdnphbeaaGreatCkLinks
namespace Go.Proofs.YtnbpdffdnphbeaaGreat
open Go.RowKit

/-- What Load of the program gives of a text, leniently. -/
def LoadIs (l : Bs) (w w' : World) (e : Ending) : Prop := ∃ pv, e = .returned (.tuple #[pv, .int .i64 (chkP l).1]) ∧ Below w.heap.size w w' ∧ ((chkP l).1 ≠ 0 → pv = .pointer none) ∧ ((chkP l).1 = 0 → ∃ b, pv = .pointer (some ⟨b, 0, none⟩) ∧ BaseV w' b (lvlB (readB l).1))

theorem errP_calm {ls : List PLine} (h : (checkL ls).1 = 0) : cntK 3 ls ≤ 8 ∧ ringB (namG (headsB ls) ls gZ) = false := by
  revert h
  unfold checkL
  cases hm : manyG ls ls.length 0 with
  | some i => intro h; exact absurd (show (3 : Int) = 0 from h) (by decide)
  | none =>
    have h8 := few_rules (fun i (hi : i < ls.length) => manyG_none ls.length 0 hm i (Nat.zero_le _) (by omega))
    simp only
    unfold errsP
    cases he : errG ls ls.length 0 with
    | some i =>
      intro h
      exfalso
      have h1 : errP ls i = 0 := h
      have : ∀ n i j, errG ls n i = some j → errP ls j ≠ 0 := by
        intro n
        induction n with
        | zero => intro i j h; simp [errG] at h
        | succ n ih => intro i j h; rw [errG] at h; split at h
                       · exact ih _ _ h
                       · rename_i hne; obtain rfl := Option.some.inj h; exact hne
      exact this _ _ _ he h1
    | none =>
      simp only
      unfold ringsP
      intro h
      refine ⟨h8, ?_⟩
      cases hr : ringB (namG (headsB ls) ls gZ) with
      | false => rfl
      | true => rw [hr, if_pos rfl] at h; exact absurd (show (7 : Int) = 0 from h) (by decide)

end Go.Proofs.YtnbpdffdnphbeaaGreat

/- The program's model: its parts, and their cells. -/
namespace Go.Proofs.YtnbpdffdnphbeaaGreat
open Go.RowKit

/-- A node of the program's model. -/
structure MNode where
  kind : Int
  left : Int
  right : Int
  place : Int
  two : Bool
  other : Int
  num : Int
  less : Bool
  equal : Bool
  more : Bool
def mnodeC (x : MNode) : List Value := [.int .i64 x.kind, .int .i64 x.left, .int .i64 x.right, .int .i64 x.place, .bool x.two, .int .i64 x.other, .int .i64 x.num, .bool x.less, .bool x.equal, .bool x.more]
def mnodeV (x : MNode) : Value := .agg #[.int .i64 x.kind, .int .i64 x.left, .int .i64 x.right, .int .i64 x.place, .bool x.two, .int .i64 x.other, .int .i64 x.num, .bool x.less, .bool x.equal, .bool x.more]
/-- A part of a sum, in the program's model. -/
structure MPart where
  kind : Int
  num : Int
  place : Int
def mpartC (x : MPart) : List Value := [.int .i64 x.kind, .int .i64 x.num, .int .i64 x.place]
def mp0 : MPart := ⟨0, 0, 0⟩
def mn0 : MNode := ⟨0, 0, 0, 0, false, 0, 0, false, false, false⟩
/-- A rule of the program's model. -/
structure MRule where
  label : Bs
  conc : Int
  sum : List MPart
  guard : List MNode
  root : Int
abbrev MX := MRule × Value × Value
def mruleV (x : MX) : Value := .agg #[.string ⟨x.1.label.toArray⟩, .int .i64 x.1.conc, x.2.1, x.2.2, .int .i64 x.1.root]
def mruleC (x : MX) : List Value := [.string ⟨x.1.label.toArray⟩, .int .i64 x.1.conc, x.2.1, x.2.2, .int .i64 x.1.root]
structure MRulC (w : World) (x : MX) : Prop where
  sum : ∃ a c, x.2.1 = .slice a x.1.sum.length c ∧ CelT w 158 a (x.1.sum.flatMap mpartC)
  guard : ∃ a c, x.2.2 = .slice a x.1.guard.length c ∧ CelT w 161 a (x.1.guard.flatMap mnodeC)
  few1 : x.1.sum.length ≤ 10000
  few2 : x.1.guard.length ≤ 10000
theorem MRulC.below {w w' : World} {x : MX} (h : MRulC w x) (hb : Below w.heap.size w w') : MRulC w' x := by
  obtain ⟨a, c, h1, h2⟩ := h.sum
  obtain ⟨a', c', h3, h4⟩ := h.guard
  exact ⟨⟨a, c, h1, h2.below hb⟩, ⟨a', c', h3, h4.below hb⟩, h.few1, h.few2⟩
/-- An input of the program's model. -/
structure MInp where
  name : Bs
  isFlag : Bool
  low : Int
  high : Int
def minpV (x : MInp) : Value := .agg #[.string ⟨x.name.toArray⟩, .bool x.isFlag, .int .i64 x.low, .int .i64 x.high]
def minpC (x : MInp) : List Value := [.string ⟨x.name.toArray⟩, .bool x.isFlag, .int .i64 x.low, .int .i64 x.high]
def mi0 : MInp := ⟨[], false, 0, 0⟩
end Go.Proofs.YtnbpdffdnphbeaaGreat

/- Plain: the program's model of a rulebook's lines. -/
namespace Go.Proofs.YtnbpdffdnphbeaaGreat

def inpOf (x : PLine) : MInp := if x.kind = 1 then ⟨x.name, false, x.low, x.high⟩ else ⟨x.name, true, 0, 0⟩
def inpsG : List PLine → List MInp → List MInp
  | [], acc => acc
  | x :: r, acc => inpsG r (if x.kind = 1 ∨ x.kind = 2 then acc ++ [inpOf x] else acc)
/-- The inputs, in the order of their lines. -/
def inpsB (ls : List PLine) : List MInp := inpsG ls []
def inpNs (ls : List PLine) : List Bs := (inpsB ls).map MInp.name
theorem inpsG_drop (ls : List PLine) (i : Nat) (acc : List MInp) (h : i < ls.length) : inpsG (ls.drop i) acc = inpsG (ls.drop (i + 1)) (if (lA ls i).kind = 1 ∨ (lA ls i).kind = 2 then acc ++ [inpOf (lA ls i)] else acc) := by
  rw [List.drop_eq_getElem_cons h, inpsG]; simp [lA, List.getD, h]

def mpK (ins : List Bs) (x : PPart) : Int := if x.name = [] then 1 else if findN ins x.name < 0 then 3 else 2
def mpP (ins cs : List Bs) (x : PPart) : Int := if x.name = [] then 0 else if findN ins x.name < 0 then findN cs x.name else findN ins x.name
def mpN (x : PPart) : Int := if x.name = [] then x.num else if x.starred then x.num else 1
/-- A part of a sum in the model. -/
def mpartOf (ins cs : List Bs) (x : PPart) : MPart := ⟨mpK ins x, if x.minus then -mpN x else mpN x, mpP ins cs x⟩
def mnP (ins cs : List Bs) (x : PNode) : Int := if x.kind = 5 then findN cs x.name else if x.kind = 6 ∨ x.kind = 7 then findN ins x.name else 0
def mnO (ins : List Bs) (x : PNode) : Int := if x.other = [] then 0 else findN ins x.other
def mLess (m : Bs) : Bool := decide (m = [60] ∨ m = [60, 61] ∨ m = [33, 61])
def mEqual (m : Bs) : Bool := decide (m = [60, 61] ∨ m = [61] ∨ m = [62, 61])
def mMore (m : Bs) : Bool := decide (m = [62] ∨ m = [62, 61] ∨ m = [33, 61])
/-- A node of a guard in the model. -/
def mnodeOf (ins cs : List Bs) (x : PNode) : MNode := ⟨x.kind, x.left, x.right, mnP ins cs x, decide (x.other ≠ []), mnO ins x, x.num, mLess x.mark, mEqual x.mark, mMore x.mark⟩
/-- A rule in the model. -/
def mruleOf (ins cs : List Bs) (x : PLine) : MRule := ⟨x.name, findN cs x.conc, x.sum.map (mpartOf ins cs), x.nd.map (mnodeOf ins cs), x.root⟩
def rulesG (ins cs : List Bs) : List PLine → List MRule → List MRule
  | [], acc => acc
  | x :: r, acc => rulesG ins cs r (if x.kind = 3 then acc ++ [mruleOf ins cs x] else acc)
def rulesB (ins cs : List Bs) (ls : List PLine) : List MRule := rulesG ins cs ls []
theorem rulesG_drop (ins cs : List Bs) (ls : List PLine) (i : Nat) (acc : List MRule) (h : i < ls.length) : rulesG ins cs (ls.drop i) acc = rulesG ins cs (ls.drop (i + 1)) (if (lA ls i).kind = 3 then acc ++ [mruleOf ins cs (lA ls i)] else acc) := by
  rw [List.drop_eq_getElem_cons h, rulesG]; simp [lA, List.getD, h]
theorem rulesG_eq (ins cs : List Bs) (ls : List PLine) : ∀ acc, rulesG ins cs ls acc = acc ++ (ls.filter fun x => decide (x.kind = 3)).map (mruleOf ins cs) := by
  induction ls with
  | nil => intro acc; simp [rulesG]
  | cons x r ih => intro acc; rw [rulesG, ih]; by_cases h : x.kind = 3 <;> simp [h]
theorem inpsG_eq (ls : List PLine) : ∀ acc, inpsG ls acc = acc ++ (ls.filter fun x => decide (x.kind = 1 ∨ x.kind = 2)).map inpOf := by
  induction ls with
  | nil => intro acc; simp [inpsG]
  | cons x r ih => intro acc; rw [inpsG, ih]; by_cases h : x.kind = 1 ∨ x.kind = 2 <;> simp [h]
theorem inpOf_name (x : PLine) : (inpOf x).name = x.name := by unfold inpOf; split <;> rfl
theorem inpNs_eq (ls : List PLine) : inpNs ls = (ls.filter fun x => decide (x.kind = 1 ∨ x.kind = 2)).map PLine.name := by
  unfold inpNs inpsB; rw [inpsG_eq, List.nil_append, List.map_map]; congr 1; funext x; exact inpOf_name x

end Go.Proofs.YtnbpdffdnphbeaaGreat

/- What FindInput and findConclusion of the program's model give: the place of a name. -/
namespace Go.Proofs.YtnbpdffdnphbeaaGreat
open Go.RowKit


set_option maxHeartbeats 1000000 in
theorem FindInput_s (w : World) (b o : Nat) (ia : Option Addr) (ic : Nat) (L : List MInp) (nm : Bs) (hm : w.cell? ⟨b, o, none⟩ = some (.slice ia L.length ic)) (hc : CelV w ia (L.flatMap minpC)) (hf : L.length ≤ 10000) :
    Calls Tryz.prog 100 #[.pointer (some ⟨b, o, none⟩), .string ⟨nm.toArray⟩] w fun e w' => e = .returned (.int .i64 (findN (L.map MInp.name) nm)) ∧ Below w.heap.size w w' := by
  have HC := hideP2 hc
  clear hc
  go_enter Tryz.func100, Tryz.ntmps100
  go_wp2_with fail
  go_loopw [12] (fun iv wr => ∃ (i : Nat), i ≤ L.length ∧ iv = .int .i64 i ∧ Hid (Below w.heap.size w wr) ∧ Hid (findI nm ((L.map MInp.name).drop i) i = findN (L.map MInp.name) nm)) (fun iv _ => L.length - (intOf iv).toNat)
  case atStart => exact ⟨0, Nat.zero_le _, rfl, hideP2 (Below.refl _ _), hideP2 rfl⟩
  case round =>
    obtain ⟨i, hi, rfl, HB, HE⟩ := hrel
    have hsz := HB.out.size
    by_cases hlt : i < L.length
    · have hcr := HC.out.below HB.out
      obtain ⟨g, rfl, q0⟩ := hcr.at ((flat_get minpC 4 (fun _ => rfl) mi0 L i 0 hlt (by decide)).trans rfl)
      have q1 := (hcr.at ((flat_get minpC 4 (fun _ => rfl) mi0 L i 1 hlt (by decide)).trans rfl)).elim fun g' h => (show g = g' by simpa using h.1) ▸ h.2
      have q2 := (hcr.at ((flat_get minpC 4 (fun _ => rfl) mi0 L i 2 hlt (by decide)).trans rfl)).elim fun g' h => (show g = g' by simpa using h.1) ▸ h.2
      have q3 := (hcr.at ((flat_get minpC 4 (fun _ => rfl) mi0 L i 3 hlt (by decide)).trans rfl)).elim fun g' h => (show g = g' by simpa using h.1) ▸ h.2
      rw [Nat.add_zero] at q0
      have hE := HE.out
      rw [findI_drop nm (L.map MInp.name) i (by simpa using hlt)] at hE
      have hgd : (L.map MInp.name).getD i [] = MInp.name (L.getD i mi0) := by simp [List.getD, hlt]
      rw [hgd] at hE
      have HE2 := hideP2 hE
      have lg := cell_lt q0
      have mg : wr.heap.size ≠ g := by omega
      clear HE hE hcr hgd
      generalize L.getD i mi0 = x at *
      obtain ⟨x0, x1, x2, x3⟩ := x
      simp only at q0 q1 q2 q3 HE2
      by_cases k1 : x0 = nm
      · have HE3 : Hid (findN (L.map MInp.name) nm = i) := by have := HE2.out; rw [if_pos k1] at this; exact this.symm
        have b1 : (x0 == nm) = true := by simpa using k1
        clear HE2 k1
        go_wp2_with fail
        go_ret
        exact ⟨ret_int HE3.out.symm, HB.out.alloc hsz _⟩
      · have HE3 : Hid (findI nm ((L.map MInp.name).drop (i + 1)) (i + 1) = findN (L.map MInp.name) nm) := by have := HE2.out; rw [if_neg k1] at this; exact this
        have b1 : (x0 == nm) = false := by simpa using k1
        clear HE2 k1
        go_wp2_with fail
        go_roundw
        case rel => exact ⟨i + 1, by omega, by go_num, hideP2 (HB.out.alloc hsz _), HE3⟩
        case measure => simp [intOf]; omega
    · have HE3 : Hid (findN (L.map MInp.name) nm = -1) := by have := HE.out; rw [List.drop_eq_nil_of_le (by simp; omega)] at this; exact this.symm
      clear HE
      go_wp2_with fail
      go_ret
      exact ⟨ret_int HE3.out.symm, HB.out⟩

def lvlC (x : Bs × Nat) : List Value := [.string ⟨x.1.toArray⟩, .int .i64 (x.2 : Nat)]

set_option maxHeartbeats 1000000 in
theorem findConc_s (w : World) (b o : Nat) (ia : Option Addr) (ic : Nat) (L : List (Bs × Nat)) (nm : Bs) (hm : w.cell? ⟨b, o + 1, none⟩ = some (.slice ia L.length ic)) (hc : CelV w ia (L.flatMap lvlC)) (hf : L.length ≤ 10000) :
    Calls Tryz.prog 86 #[.pointer (some ⟨b, o, none⟩), .string ⟨nm.toArray⟩] w fun e w' => e = .returned (.int .i64 (findN (L.map Prod.fst) nm)) ∧ Below w.heap.size w w' := by
  have HC := hideP2 hc
  clear hc
  go_enter Tryz.func86, Tryz.ntmps86
  go_wp2_with fail
  go_loopw [12] (fun iv wr => ∃ (i : Nat), i ≤ L.length ∧ iv = .int .i64 i ∧ Hid (Below w.heap.size w wr) ∧ Hid (findI nm ((L.map Prod.fst).drop i) i = findN (L.map Prod.fst) nm)) (fun iv _ => L.length - (intOf iv).toNat)
  case atStart => exact ⟨0, Nat.zero_le _, rfl, hideP2 (Below.refl _ _), hideP2 rfl⟩
  case round =>
    obtain ⟨i, hi, rfl, HB, HE⟩ := hrel
    have hsz := HB.out.size
    by_cases hlt : i < L.length
    · have hcr := HC.out.below HB.out
      obtain ⟨g, rfl, q0⟩ := hcr.at ((flat_get lvlC 2 (fun _ => rfl) ([], 0) L i 0 hlt (by decide)).trans rfl)
      have q1 := (hcr.at ((flat_get lvlC 2 (fun _ => rfl) ([], 0) L i 1 hlt (by decide)).trans rfl)).elim fun g' h => (show g = g' by simpa using h.1) ▸ h.2
      rw [Nat.add_zero] at q0
      have hE := HE.out
      rw [findI_drop nm (L.map Prod.fst) i (by simpa using hlt)] at hE
      have hgd : (L.map Prod.fst).getD i [] = Prod.fst (L.getD i ([], 0)) := by simp [List.getD, hlt]
      rw [hgd] at hE
      have HE2 := hideP2 hE
      have lg := cell_lt q0
      have mg : wr.heap.size ≠ g := by omega
      clear HE hE hcr hgd
      generalize L.getD i ([], 0) = x at *
      obtain ⟨x0, x1⟩ := x
      simp only at q0 q1 HE2
      by_cases k1 : x0 = nm
      · have HE3 : Hid (findN (L.map Prod.fst) nm = i) := by have := HE2.out; rw [if_pos k1] at this; exact this.symm
        have b1 : (x0 == nm) = true := by simpa using k1
        clear HE2 k1
        go_wp2_with fail
        go_ret
        exact ⟨ret_int HE3.out.symm, HB.out.alloc hsz _⟩
      · have HE3 : Hid (findI nm ((L.map Prod.fst).drop (i + 1)) (i + 1) = findN (L.map Prod.fst) nm) := by have := HE2.out; rw [if_neg k1] at this; exact this
        have b1 : (x0 == nm) = false := by simpa using k1
        clear HE2 k1
        go_wp2_with fail
        go_roundw
        case rel => exact ⟨i + 1, by omega, by go_num, hideP2 (HB.out.alloc hsz _), HE3⟩
        case measure => simp [intOf]; omega
    · have HE3 : Hid (findN (L.map Prod.fst) nm = -1) := by have := HE.out; rw [List.drop_eq_nil_of_le (by simp; omega)] at this; exact this.symm
      clear HE
      go_wp2_with fail
      go_ret
      exact ⟨ret_int HE3.out.symm, HB.out⟩
end Go.Proofs.YtnbpdffdnphbeaaGreat
