/- What add of a guard does: a node is laid behind those that are there. -/
import Derived.Test.YtnbpdffdnphbeaaGreatDoorComp
import Derived.Deep.AppendLies
import Derived.Deep.RegionLaw
namespace Go.Proofs.YtnbpdffdnphbeaaGreatDoor
open Go.RowKit
attribute [local go_sem ↓] Go.wp_at_zero Go.wp_at_succ

def nodeC (x : PNode) : List Value := [.int .i64 x.kind, .int .i64 x.left, .int .i64 x.right, .string ⟨x.name.toArray⟩, .string ⟨x.mark.toArray⟩, .string ⟨x.other.toArray⟩, .int .i64 x.num]
def flatN (ns : List PNode) : List Value := ns.flatMap nodeC
theorem flatN_snoc (ns : List PNode) (x : PNode) : flatN (ns ++ [x]) = flatN ns ++ nodeC x := by simp [flatN]

def gdObj (nv : Value) (root tests dep : Int) : Obj := .cells #[nv, .int .i64 root, .int .i64 tests, .int .i64 dep] 232 (0, 0)

/-- A guard lies in block G, its nodes in a row behind it. -/
def Gd (w : World) (G : Nat) (nd : List PNode) (root tests dep : Int) : Prop :=
  ∃ nv, w.heap[G]? = some (gdObj nv root tests dep) ∧ w.ownsRow (G + 1) 304 7 nv nd.length (flatN nd)

theorem infoNode : (Tryz.prog.info? 304).map (fun i => (i.zero, i.size, i.bytes)) = some (some (.agg #[.int .i64 0, .int .i64 0, .int .i64 0, .string ⟨#[]⟩, .string ⟨#[]⟩, .string ⟨#[]⟩, .int .i64 0]), 7, 80) := by kernel_rfl

theorem Gd.lt {w : World} {G : Nat} {nd : List PNode} {root tests dep : Int} (h : Gd w G nd root tests dep) : G < w.heap.size := by
  obtain ⟨nv, h1, _⟩ := h
  rcases Nat.lt_or_ge G w.heap.size with h2 | h2
  · exact h2
  · rw [Array.getElem?_eq_none h2] at h1; cases h1

theorem gd_set0 {w : World} {G : Nat} {nv v : Value} {root tests dep : Int} (h : w.heap[G]? = some (gdObj nv root tests dep)) : (w.setCell ⟨G, 0, none⟩ v).heap[G]? = some (gdObj v root tests dep) := by
  unfold gdObj at h ⊢
  rw [heap_setCell_same w G 0 _ _ _ h]; simp

theorem owns_set {w : World} {B : Nat} {e : TypeId} {size : Nat} {v : Value} {n : Nat} {xs : List Value} (h : w.ownsRow B e size v n xs) {b o : Nat} {u : Value} (hb : b < B) : (w.setCell ⟨b, o, none⟩ u).ownsRow B e size v n xs :=
  ownsRow_setCell_below h (a := ⟨b, o, none⟩) hb u

theorem frz_far {w w1 : World} {G : Nat} {x y : Obj} {row : Option Nat} (hg : ((w.alloc x).alloc y).drew.grownBy w1 row) (h : w.frozen? ⟨G, 0, none⟩ = false) (hG : G < w.heap.size) (hr : some G ≠ row) : w1.frozen? ⟨G, 0, none⟩ = false := by
  have hb : w1.heap[G]? = w.heap[G]? := by
    rw [hg.block G (by show G < ((w.alloc x).alloc y).heap.size; simp; omega) hr]
    show ((w.alloc x).alloc y).heap[G]? = _
    rw [Below.heap_alloc _ _ _ (by simp; omega), Below.heap_alloc _ _ _ hG]
  rw [World.frozen?_of_block (w := w) hb]; exact h
theorem cel_far {w w1 : World} {G : Nat} {x y : Obj} {v : Value} {row : Option Nat} (hg : ((w.alloc x).alloc y).drew.grownBy w1 row) (h : w.cell? ⟨G, 0, none⟩ = some v) (hG : G < w.heap.size) (hr : some G ≠ row) : w1.cell? ⟨G, 0, none⟩ = some v := by
  have hb : w1.heap[G]? = w.heap[G]? := by
    rw [hg.block G (by show G < ((w.alloc x).alloc y).heap.size; simp; omega) hr]
    show ((w.alloc x).alloc y).heap[G]? = _
    rw [Below.heap_alloc _ _ _ (by simp; omega), Below.heap_alloc _ _ _ hG]
  rw [World.cell?_of_block (w := w) hb]; exact h

set_option maxHeartbeats 1000000 in
theorem add_s (w : World) (G : Nat) (nd : List PNode) (root tests dep : Int) (x : PNode) (h : Gd w G nd root tests dep) (hn : nd.length ≤ 10000) :
    Calls Tryz.prog 257 #[.pointer (some ⟨G, 0, none⟩), nodeV x] w fun e w' => e = .returned (.int .i64 (nd.length : Nat)) ∧ Gd w' G (nd ++ [x]) root tests dep ∧ Below G w w' := by
  obtain ⟨i0, hi0, hz0, hz1, hz2⟩ := info_parts infoNode
  have hG := h.lt
  obtain ⟨nv, hg, hown⟩ := h
  have c0 : w.cell? ⟨G, 0, none⟩ = some nv := by unfold gdObj at hg; rw [cell_of_row w G 0 _ _ _ hg]; rfl
  have fz : w.frozen? ⟨G, 0, none⟩ = false := by unfold gdObj at hg; simp [World.frozen?, hg]
  have n0 : w.heap.size ≠ G := by omega
  have n1 : w.heap.size + 1 ≠ G := by omega
  have HG := hideP2 hg
  have HOB := hideP2 (own_block_lt hown)
  have hnc : nodeC x = [.int .i64 x.kind, .int .i64 x.left, .int .i64 x.right, .string ⟨x.name.toArray⟩, .string ⟨x.mark.toArray⟩, .string ⟨x.other.toArray⟩, .int .i64 x.num] := rfl
  obtain ⟨xk, xl, xr, xn, xm, xo, xu⟩ := x
  simp only at hnc
  simp only [nodeV]
  have HX := hideP2 hnc
  have a1 : some G ≠ nv.ownBlock := fun e => by have h1 := (HOB.out G e.symm).1; omega
  have a2 : some w.heap.size ≠ nv.ownBlock := fun e => by have h1 := (HOB.out w.heap.size e.symm).2; omega
  clear hg hnc
  go_enter Tryz.func257, Tryz.ntmps257
  go_wp2_with fail
  go_region_law ((refine step_append_lies _ (by rfl) _ _ _ (by rfl) (G + 1) 304 i0 _ 7 80 Tryz.underlying230 hi0 hz0 hz1 hz2 rfl (by decide) nv nd.length (flatN nd) (by rfl) (((hown.alloc _).alloc _).drew) ⟨w.heap.size + 1, 0, none⟩ 1 1 (nodeC ⟨xk, xl, xr, xn, xm, xo, xu⟩) (by rfl) (by rfl) (by rw [HX.out]; exact news_cellsH _ _ _ _ rfl (by simp)) (by rw [HX.out]; simp [Value.oneCell']) (by decide) (by unfold maxLen; omega) (by omega) (by simp; omega) (w.heap.size + 1 + 1) (by simp) ?_; intro gg cap w1 hown1 hgrow hat hlt; have fz1 : w1.frozen? ⟨G, 0, none⟩ = false := frz_far hgrow fz hG a1; have c1' : w1.cell? ⟨G, 0, none⟩ = some nv := cel_far hgrow c0 hG a1))
  all_goals
    have hbel : Below G w w1 := (((Below.refl G w).alloc (by omega) _).alloc (by simp; omega) _).drew.grown hgrow (by show G ≤ ((w.alloc _).alloc _).heap.size; simp; omega) (fun k hk => by have h1 := (HOB.out k hk).1; omega)
    have hg1 : w1.heap[G]? = some (gdObj nv root tests dep) := by
      rw [hgrow.block G (by show G < ((w.alloc _).alloc _).heap.size; simp; omega) a1]
      show ((w.alloc _).alloc _).heap[G]? = _
      rw [Below.heap_alloc _ _ _ (by simp; omega), Below.heap_alloc _ _ _ hG]; exact HG.out
    have HG1 := hideP2 hg1
    have HBel := hideP2 hbel
    have HO1 := hideP2 hown1
    clear hg1 hbel hown1 hgrow hown
    go_wp2_with fail
    go_ret
    refine ⟨ret_int (by simp), ⟨_, gd_set0 HG1.out, ?_⟩, HBel.out.setCell (p := ⟨G, 0, none⟩) (Nat.le_refl _) _⟩
    rw [flatN_snoc, List.length_append]
    exact owns_set HO1.out (Nat.lt_succ_self G)
end Go.Proofs.YtnbpdffdnphbeaaGreatDoor

/- The reader's way through a guard as plain functions, and what is kept along it. -/
namespace Go.Proofs.YtnbpdffdnphbeaaGreatDoor
open Go.RowKit

/-- Where the reader stands in a guard: its state, the nodes, how many tests, the greatest depth. -/
structure GS where
  s : St
  nd : List PNode
  tests : Int
  dep : Int

def GS.to (q : GS) (s : St) : GS := ⟨s, q.nd, q.tests, q.dep⟩
def GS.add (q : GS) (x : PNode) : GS := ⟨q.s, q.nd ++ [x], q.tests, q.dep⟩
def GS.tested (q : GS) (d : Int) : GS := ⟨q.s, q.nd, q.tests + 1, if q.dep < d then d else q.dep⟩

def loopB (P : List PT) (item : GS → Int × GS) (tok : Bs) (kind : Int) : Nat → Int → GS → Int × GS
  | 0, left, q => (left, q)
  | k + 1, left, q =>
    match (pSkip P tok q.s).1 with
    | false => (left, q.to (pSkip P tok q.s).2)
    | true => loopB P item tok kind k ((item (q.to (pSkip P tok q.s).2)).2.nd.length : Nat) ((item (q.to (pSkip P tok q.s).2)).2.add ⟨kind, left, (item (q.to (pSkip P tok q.s).2)).1, [], [], [], 0⟩)

def termsW (P : List PT) (fact : GS → Int → Int × GS) (q : GS) (d : Int) : Int × GS := loopB P (fun q => fact q d) kAnd 2 P.length (fact q d).1 (fact q d).2
def altW (P : List PT) (fact : GS → Int → Int × GS) (q : GS) (d : Int) : Int × GS := loopB P (fun q => termsW P fact q d) kOr 1 P.length (termsW P fact q d).1 (termsW P fact q d).2

def pFact (P : List PT) : Nat → GS → Int → Int × GS
  | 0, q, _ => (0, q)
  | n + 1, q, d =>
    match (pSkip P kNot q.s).1 with
    | true => (((pFact P n (q.to (pSkip P kNot q.s).2) (d + 1)).2.nd.length : Nat), (pFact P n (q.to (pSkip P kNot q.s).2) (d + 1)).2.add ⟨3, (pFact P n (q.to (pSkip P kNot q.s).2) (d + 1)).1, 0, [], [], [], 0⟩)
    | false =>
      match (pSkip P kOpen (pSkip P kNot q.s).2).1 with
      | true => ((altW P (pFact P n) (q.to (pSkip P kOpen (pSkip P kNot q.s).2).2) (d + 1)).1,
          (altW P (pFact P n) (q.to (pSkip P kOpen (pSkip P kNot q.s).2).2) (d + 1)).2.to (pWant P kShut (altW P (pFact P n) (q.to (pSkip P kOpen (pSkip P kNot q.s).2).2) (d + 1)).2.s))
      | false => ((q.nd.length : Nat), (((q.tested d).to (pTest P (pSkip P kOpen (pSkip P kNot q.s).2).2).2).add (pTest P (pSkip P kOpen (pSkip P kNot q.s).2).2).1))

def pTerms (P : List PT) (n : Nat) : GS → Int → Int × GS := termsW P (pFact P n)
def pAlt (P : List PT) (n : Nat) : GS → Int → Int × GS := altW P (pFact P n)

/-- The reader and its guard lie in memory. -/
structure InG (w : World) (R g cap : Nat) (P : List PT) (G : Nat) (root : Int) (q : GS) : Prop where
  ctx : CtxS w R g cap P q.s
  gd : Gd w G q.nd root q.tests q.dep
  rG : R < G
  gG : g < G

theorem Gd.keeps {w w' : World} {G R : Nat} {nd : List PNode} {root tests dep : Int} (h : Gd w G nd root tests dep) (hk : Keeps w.heap.size R w w') (hR : R < G) : Gd w' G nd root tests dep := by
  have hlt := h.lt
  obtain ⟨nv, h1, h2⟩ := h
  exact ⟨nv, by rw [hk.block G hlt (by omega)]; exact h1, owns_keeps h2 hk (by omega)⟩

theorem InG.read {w w' : World} {R g cap : Nat} {P : List PT} {G : Nat} {root : Int} {q : GS} {s' : St} (h : InG w R g cap P G root q) (hc : CtxS w' R g cap P s') (hk : Keeps w.heap.size R w w') : InG w' R g cap P G root (q.to s') :=
  ⟨hc, h.gd.keeps hk h.rG, h.rG, h.gG⟩

theorem Ctx.belowG {w w' : World} {R g cap G : Nat} {P : List PT} {s : St} (h : CtxS w R g cap P s) (hb : Below G w w') (hR : R < G) (hg : g < G) : CtxS w' R g cap P s := by
  refine ⟨?_, ?_, h.gR, Nat.lt_of_lt_of_le h.glt hb.size, h.at', h.cap1, h.cap2, h.many, h.endk⟩
  · rw [hb.block R hR]; exact h.blk
  · intro i hi
    have hb' : ∀ o, w'.cell? ⟨g, o, none⟩ = w.cell? ⟨g, o, none⟩ := fun o => World.cell?_of_block (w := w) (hb.block g hg)
    rw [hb', hb', hb', hb']; exact h.tok i hi

theorem InG.added {w w' : World} {R g cap : Nat} {P : List PT} {G : Nat} {root : Int} {q : GS} {x : PNode} (h : InG w R g cap P G root q) (hg : Gd w' G (q.nd ++ [x]) root q.tests q.dep) (hb : Below G w w') : InG w' R g cap P G root (q.add x) :=
  ⟨h.ctx.belowG hb h.rG h.gG, hg, h.rG, h.gG⟩

/-- How much room nodes may still take. -/
def pot (P : List PT) (q : GS) : Nat := q.nd.length + 2 * (P.length - q.s.1)

structure OkG (P : List PT) (q : GS) (d : Int) : Prop where
  t0 : 0 ≤ q.tests
  t1 : q.tests ≤ (q.nd.length : Int)
  room : pot P q ≤ 9000
  d0 : 0 ≤ d
  d1 : d ≤ (q.s.1 : Int)

structure Goes (P : List PT) (q q' : GS) : Prop where
  mono : q.s.1 ≤ q'.s.1
  pot' : pot P q' ≤ pot P q + 1
  t0 : 0 ≤ q'.tests
  t1 : q'.tests ≤ (q'.nd.length : Int)

def FactSaid (R g cap : Nat) (P : List PT) (G : Nat) (root : Int) (n : Nat) : Prop := ∀ (w : World) (q : GS) (d : Int), InG w R g cap P G root q → OkG P q d → P.length - q.s.1 ≤ n →
  Calls Tryz.prog 259 #[.pointer (some ⟨R, 0, none⟩), .pointer (some ⟨G, 0, none⟩), .int .i64 d] w fun e w' => e = .returned (.int .i64 (pFact P n q d).1) ∧ InG w' R g cap P G root (pFact P n q d).2 ∧ Keeps G R w w' ∧ Goes P q (pFact P n q d).2
def TermsSaid (R g cap : Nat) (P : List PT) (G : Nat) (root : Int) (n : Nat) : Prop := ∀ (w : World) (q : GS) (d : Int), InG w R g cap P G root q → OkG P q d → P.length - q.s.1 ≤ n →
  Calls Tryz.prog 256 #[.pointer (some ⟨R, 0, none⟩), .pointer (some ⟨G, 0, none⟩), .int .i64 d] w fun e w' => e = .returned (.int .i64 (pTerms P n q d).1) ∧ InG w' R g cap P G root (pTerms P n q d).2 ∧ Keeps G R w w' ∧ Goes P q (pTerms P n q d).2
def AltSaid (R g cap : Nat) (P : List PT) (G : Nat) (root : Int) (n : Nat) : Prop := ∀ (w : World) (q : GS) (d : Int), InG w R g cap P G root q → OkG P q d → P.length - q.s.1 ≤ n →
  Calls Tryz.prog 248 #[.pointer (some ⟨R, 0, none⟩), .pointer (some ⟨G, 0, none⟩), .int .i64 d] w fun e w' => e = .returned (.int .i64 (pAlt P n q d).1) ∧ InG w' R g cap P G root (pAlt P n q d).2 ∧ Keeps G R w w' ∧ Goes P q (pAlt P n q d).2

theorem Keeps.of_size {w w' : World} {G R : Nat} (hk : Keeps w.heap.size R w w') (hG : G ≤ w.heap.size) : Keeps G R w w' := hk.mono hG
theorem Keeps.of_belowG {w w' : World} {G R : Nat} (hb : Below G w w') : Keeps G R w w' := Keeps.of_below hb

theorem pot_skip {P : List PT} {q : GS} {t : Bs} (h : (pSkip P t q.s).1 = true) (ha : q.s.1 < P.length) : pot P (q.to (pSkip P t q.s).2) + 2 = pot P q := by
  unfold pot GS.to; simp only; rw [pSkip_true h]; omega

theorem pot_to {P : List PT} {q : GS} {s : St} (h : q.s.1 ≤ s.1) : pot P (q.to s) ≤ pot P q := by
  unfold pot GS.to; simp only; omega

/-- The loop of terms (of alternatives): item by item. -/
def measG (L R : Nat) (w : World) : Nat := L - rdAt w R

theorem InG.meas {w : World} {R g cap : Nat} {P : List PT} {G : Nat} {root : Int} {q : GS} (h : InG w R g cap P G root q) : measG P.length R w = P.length - q.s.1 := by
  unfold measG; rw [Ctx.rdAt h.ctx]

end Go.Proofs.YtnbpdffdnphbeaaGreatDoor
