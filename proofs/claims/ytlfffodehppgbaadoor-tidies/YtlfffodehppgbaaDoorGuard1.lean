/- The reader's way through a guard as plain functions, and what is kept along it. -/
import Derived.Test.YtlfffodehppgbaaDoorGadd
namespace Go.Proofs.YtlfffodehppgbaaDoor
open Go.RowKit

/-- Where the reader stands in a guard: its state, the nodes, how many tests, the greatest depth. -/
structure GS where
  s : St
  nd : List PNode
  tests : Int
  dep : Int

def GS.to (q : GS) (s : St) : GS := ⟨s, q.nd, q.tests, q.dep⟩
def GS.add (q : GS) (x : PNode) : GS := ⟨q.s, q.nd ++ [x], q.tests, q.dep⟩
def GS.tested (q : GS) (d : Int) : GS := ⟨q.s, q.nd, q.tests + 1, if q.dep < d then d else q.dep⟩

def loopB (P : List PT) (item : GS → Int × GS) (tok : Bs) (kind : Int) : Nat → Int → GS → Int × GS
  | 0, left, q => (left, q)
  | k + 1, left, q =>
    match (pSkip P tok q.s).1 with
    | false => (left, q.to (pSkip P tok q.s).2)
    | true => loopB P item tok kind k ((item (q.to (pSkip P tok q.s).2)).2.nd.length : Nat) ((item (q.to (pSkip P tok q.s).2)).2.add ⟨kind, left, (item (q.to (pSkip P tok q.s).2)).1, [], [], [], 0⟩)

def termsW (P : List PT) (fact : GS → Int → Int × GS) (q : GS) (d : Int) : Int × GS := loopB P (fun q => fact q d) kAnd 2 P.length (fact q d).1 (fact q d).2
def altW (P : List PT) (fact : GS → Int → Int × GS) (q : GS) (d : Int) : Int × GS := loopB P (fun q => termsW P fact q d) kOr 1 P.length (termsW P fact q d).1 (termsW P fact q d).2

def pFact (P : List PT) : Nat → GS → Int → Int × GS
  | 0, q, _ => (0, q)
  | n + 1, q, d =>
    match (pSkip P kNot q.s).1 with
    | true => (((pFact P n (q.to (pSkip P kNot q.s).2) (d + 1)).2.nd.length : Nat), (pFact P n (q.to (pSkip P kNot q.s).2) (d + 1)).2.add ⟨3, (pFact P n (q.to (pSkip P kNot q.s).2) (d + 1)).1, 0, [], [], [], 0⟩)
    | false =>
      match (pSkip P kOpen (pSkip P kNot q.s).2).1 with
      | true => ((altW P (pFact P n) (q.to (pSkip P kOpen (pSkip P kNot q.s).2).2) (d + 1)).1,
          (altW P (pFact P n) (q.to (pSkip P kOpen (pSkip P kNot q.s).2).2) (d + 1)).2.to (pWant P kShut (altW P (pFact P n) (q.to (pSkip P kOpen (pSkip P kNot q.s).2).2) (d + 1)).2.s))
      | false => ((q.nd.length : Nat), (((q.tested d).to (pTest P (pSkip P kOpen (pSkip P kNot q.s).2).2).2).add (pTest P (pSkip P kOpen (pSkip P kNot q.s).2).2).1))

def pTerms (P : List PT) (n : Nat) : GS → Int → Int × GS := termsW P (pFact P n)
def pAlt (P : List PT) (n : Nat) : GS → Int → Int × GS := altW P (pFact P n)

/-- The reader and its guard lie in memory. -/
structure InG (w : World) (R g cap : Nat) (P : List PT) (G : Nat) (root : Int) (q : GS) : Prop where
  ctx : CtxS w R g cap P q.s
  gd : Gd w G q.nd root q.tests q.dep
  rG : R < G
  gG : g < G

theorem Gd.keeps {w w' : World} {G R : Nat} {nd : List PNode} {root tests dep : Int} (h : Gd w G nd root tests dep) (hk : Keeps w.heap.size R w w') (hR : R < G) : Gd w' G nd root tests dep := by
  have hlt := h.lt
  obtain ⟨nv, h1, h2⟩ := h
  exact ⟨nv, by rw [hk.block G hlt (by omega)]; exact h1, owns_keeps h2 hk (by omega)⟩

theorem InG.read {w w' : World} {R g cap : Nat} {P : List PT} {G : Nat} {root : Int} {q : GS} {s' : St} (h : InG w R g cap P G root q) (hc : CtxS w' R g cap P s') (hk : Keeps w.heap.size R w w') : InG w' R g cap P G root (q.to s') :=
  ⟨hc, h.gd.keeps hk h.rG, h.rG, h.gG⟩

theorem Ctx.belowG {w w' : World} {R g cap G : Nat} {P : List PT} {s : St} (h : CtxS w R g cap P s) (hb : Below G w w') (hR : R < G) (hg : g < G) : CtxS w' R g cap P s := by
  refine ⟨?_, ?_, h.gR, Nat.lt_of_lt_of_le h.glt hb.size, h.at', h.cap1, h.cap2, h.many, h.endk⟩
  · rw [hb.block R hR]; exact h.blk
  · intro i hi
    have hb' : ∀ o, w'.cell? ⟨g, o, none⟩ = w.cell? ⟨g, o, none⟩ := fun o => World.cell?_of_block (w := w) (hb.block g hg)
    rw [hb', hb', hb', hb']; exact h.tok i hi

theorem InG.added {w w' : World} {R g cap : Nat} {P : List PT} {G : Nat} {root : Int} {q : GS} {x : PNode} (h : InG w R g cap P G root q) (hg : Gd w' G (q.nd ++ [x]) root q.tests q.dep) (hb : Below G w w') : InG w' R g cap P G root (q.add x) :=
  ⟨h.ctx.belowG hb h.rG h.gG, hg, h.rG, h.gG⟩

/-- How much room nodes may still take. -/
def pot (P : List PT) (q : GS) : Nat := q.nd.length + 2 * (P.length - q.s.1)

structure OkG (P : List PT) (q : GS) (d : Int) : Prop where
  t0 : 0 ≤ q.tests
  t1 : q.tests ≤ (q.nd.length : Int)
  room : pot P q ≤ 9000
  d0 : 0 ≤ d
  d1 : d ≤ (q.s.1 : Int)

structure Goes (P : List PT) (q q' : GS) : Prop where
  mono : q.s.1 ≤ q'.s.1
  pot' : pot P q' ≤ pot P q + 1
  t0 : 0 ≤ q'.tests
  t1 : q'.tests ≤ (q'.nd.length : Int)

def FactSaid (R g cap : Nat) (P : List PT) (G : Nat) (root : Int) (n : Nat) : Prop := ∀ (w : World) (q : GS) (d : Int), InG w R g cap P G root q → OkG P q d → P.length - q.s.1 ≤ n →
  Calls Tryd.prog 110 #[.pointer (some ⟨R, 0, none⟩), .pointer (some ⟨G, 0, none⟩), .int .i64 d] w fun e w' => e = .returned (.int .i64 (pFact P n q d).1) ∧ InG w' R g cap P G root (pFact P n q d).2 ∧ Keeps G R w w' ∧ Goes P q (pFact P n q d).2
def TermsSaid (R g cap : Nat) (P : List PT) (G : Nat) (root : Int) (n : Nat) : Prop := ∀ (w : World) (q : GS) (d : Int), InG w R g cap P G root q → OkG P q d → P.length - q.s.1 ≤ n →
  Calls Tryd.prog 107 #[.pointer (some ⟨R, 0, none⟩), .pointer (some ⟨G, 0, none⟩), .int .i64 d] w fun e w' => e = .returned (.int .i64 (pTerms P n q d).1) ∧ InG w' R g cap P G root (pTerms P n q d).2 ∧ Keeps G R w w' ∧ Goes P q (pTerms P n q d).2
def AltSaid (R g cap : Nat) (P : List PT) (G : Nat) (root : Int) (n : Nat) : Prop := ∀ (w : World) (q : GS) (d : Int), InG w R g cap P G root q → OkG P q d → P.length - q.s.1 ≤ n →
  Calls Tryd.prog 101 #[.pointer (some ⟨R, 0, none⟩), .pointer (some ⟨G, 0, none⟩), .int .i64 d] w fun e w' => e = .returned (.int .i64 (pAlt P n q d).1) ∧ InG w' R g cap P G root (pAlt P n q d).2 ∧ Keeps G R w w' ∧ Goes P q (pAlt P n q d).2

theorem Keeps.of_size {w w' : World} {G R : Nat} (hk : Keeps w.heap.size R w w') (hG : G ≤ w.heap.size) : Keeps G R w w' := hk.mono hG
theorem Keeps.of_belowG {w w' : World} {G R : Nat} (hb : Below G w w') : Keeps G R w w' := Keeps.of_below hb

theorem pot_skip {P : List PT} {q : GS} {t : Bs} (h : (pSkip P t q.s).1 = true) (ha : q.s.1 < P.length) : pot P (q.to (pSkip P t q.s).2) + 2 = pot P q := by
  unfold pot GS.to; simp only; rw [pSkip_true h]; omega

theorem pot_to {P : List PT} {q : GS} {s : St} (h : q.s.1 ≤ s.1) : pot P (q.to s) ≤ pot P q := by
  unfold pot GS.to; simp only; omega

/-- The loop of terms (of alternatives): item by item. -/
def measG (L R : Nat) (w : World) : Nat := L - rdAt w R

theorem InG.meas {w : World} {R g cap : Nat} {P : List PT} {G : Nat} {root : Int} {q : GS} (h : InG w R g cap P G root q) : measG P.length R w = P.length - q.s.1 := by
  unfold measG; rw [Ctx.rdAt h.ctx]

end Go.Proofs.YtlfffodehppgbaaDoor
