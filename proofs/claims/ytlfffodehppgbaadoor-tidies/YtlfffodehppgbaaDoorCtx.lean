/- The reader's place in memory: its block, the row of tokens, and what is kept from step to step. -/
import Derived.Test.YtlfffodehppgbaaDoorReadAll
import Derived.Deep.RegionHeld3
import Derived.Deep.DrawnRows
namespace Go.Proofs.YtlfffodehppgbaaDoor
open Go.RowKit

/-- A token of the program: its kind, its text, its value, its place. -/
structure PT where
  k : Int
  s : Bs
  v : Int
  p : Nat

def pz : PT := ⟨0, [], 0, 0⟩
def cur (P : List PT) (i : Nat) : PT := P.getD i pz

/-- Of the blocks below B all but R are as they were. -/
structure Keeps (B R : Nat) (w w' : World) : Prop where
  os : w'.os = w.os
  tape : w'.tape = w.tape
  output : w'.output = w.output
  size : w.heap.size ≤ w'.heap.size
  block : ∀ k, k < B → k ≠ R → w'.heap[k]? = w.heap[k]?

theorem Keeps.refl (B R : Nat) (w : World) : Keeps B R w w := ⟨rfl, rfl, rfl, Nat.le_refl _, fun _ _ _ => rfl⟩
theorem Keeps.trans {B R : Nat} {a b c : World} (h : Keeps B R a b) (k : Keeps B R b c) : Keeps B R a c :=
  ⟨k.os.trans h.os, k.tape.trans h.tape, k.output.trans h.output, Nat.le_trans h.size k.size, fun i hi hr => (k.block i hi hr).trans (h.block i hi hr)⟩
theorem Keeps.mono {B B' R : Nat} {w w' : World} (h : Keeps B R w w') (hB : B' ≤ B) : Keeps B' R w w' := ⟨h.os, h.tape, h.output, h.size, fun k hk hr => h.block k (Nat.lt_of_lt_of_le hk hB) hr⟩
theorem Keeps.of_below {B R : Nat} {w w' : World} (h : Below B w w') : Keeps B R w w' := ⟨h.os, h.tape, h.output, h.size, fun k hk _ => h.block k hk⟩
theorem Keeps.drew {B R : Nat} {a w : World} (h : Keeps B R a w) : Keeps B R a w.drew := ⟨h.os, h.tape, h.output, h.size, h.block⟩
theorem Keeps.alloc {B R : Nat} {a w : World} (h : Keeps B R a w) (hB : B ≤ w.heap.size) (o : Obj) : Keeps B R a (w.alloc o) :=
  h.trans ⟨rfl, rfl, rfl, by simp, fun k hk _ => Below.heap_alloc _ _ _ (by omega)⟩
theorem Keeps.setCell {B R : Nat} {a w : World} (h : Keeps B R a w) {p : Addr} (hp : B ≤ p.block ∨ p.block = R) (u : Value) : Keeps B R a (w.setCell p u) :=
  h.trans ⟨rfl, rfl, rfl, by simp [World.setCell], fun k hk hr => Below.heap_setCell _ _ _ _ (by omega)⟩
theorem Keeps.cell {B R : Nat} {w w' : World} (h : Keeps B R w w') {p : Addr} (hp : p.block < B) (hr : p.block ≠ R) : w'.cell? p = w.cell? p := World.cell?_of_block (w := w) (h.block p.block hp hr)
theorem Keeps.frozen {B R : Nat} {w w' : World} (h : Keeps B R w w') {p : Addr} (hp : p.block < B) (hr : p.block ≠ R) : w'.frozen? p = w.frozen? p := World.frozen?_of_block (w := w) (h.block p.block hp hr)

/-- The program's tokens lie in block g. -/
def TokM (w : World) (g : Nat) (P : List PT) : Prop := ∀ i, i < P.length →
  w.cell? ⟨g, i * 4, none⟩ = some (.int .i64 (cur P i).k) ∧ w.cell? ⟨g, i * 4 + 1, none⟩ = some (.string ⟨(cur P i).s.toArray⟩) ∧ w.cell? ⟨g, i * 4 + 2, none⟩ = some (.int .i64 (cur P i).v) ∧ w.cell? ⟨g, i * 4 + 3, none⟩ = some (.int .i64 (cur P i).p)

def rdObj (g cap : Nat) (P : List PT) (a : Nat) (f : Bool) : Obj := .cells #[.slice (some ⟨g, 0, none⟩) P.length cap, .int .i64 a, .bool f] 54 (0, 0)

/-- The reader stands at token a; f: it has failed. -/
structure Ctx (w : World) (R g cap : Nat) (P : List PT) (a : Nat) (f : Bool) : Prop where
  blk : w.heap[R]? = some (rdObj g cap P a f)
  tok : TokM w g P
  gR : g ≠ R
  glt : g < w.heap.size
  at' : a < P.length
  cap1 : P.length ≤ cap
  cap2 : cap ≤ maxLen
  many : P.length ≤ 4001
  endk : ∀ i, i < P.length → (cur P i).k ≠ 0 → i + 1 < P.length

theorem Ctx.rlt {w : World} {R g cap : Nat} {P : List PT} {a : Nat} {f : Bool} (h : Ctx w R g cap P a f) : R < w.heap.size := by
  rcases Nat.lt_or_ge R w.heap.size with h1 | h1
  · exact h1
  · have := h.blk; rw [Array.getElem?_eq_none h1] at this; cases this

theorem TokM.keeps {w w' : World} {g B R : Nat} {P : List PT} (h : TokM w g P) (hk : Keeps B R w w') (hg : g < B) (hr : g ≠ R) : TokM w' g P := by
  intro i hi
  obtain ⟨a, b, c, d⟩ := h i hi
  exact ⟨by rw [hk.cell (p := ⟨g, _, none⟩) hg hr]; exact a, by rw [hk.cell (p := ⟨g, _, none⟩) hg hr]; exact b, by rw [hk.cell (p := ⟨g, _, none⟩) hg hr]; exact c, by rw [hk.cell (p := ⟨g, _, none⟩) hg hr]; exact d⟩

theorem Ctx.keeps {w w' : World} {R g cap : Nat} {P : List PT} {a a' : Nat} {f f' : Bool} (h : Ctx w R g cap P a f) (hb : w'.heap[R]? = some (rdObj g cap P a' f')) (hk : Keeps w.heap.size R w w') (ha : a' < P.length) : Ctx w' R g cap P a' f' :=
  ⟨hb, h.tok.keeps hk h.glt h.gR, h.gR, Nat.lt_of_lt_of_le h.glt hk.size, ha, h.cap1, h.cap2, h.many, h.endk⟩

theorem Ctx.cells {w : World} {R g cap : Nat} {P : List PT} {a : Nat} {f : Bool} (h : Ctx w R g cap P a f) :
    w.cell? ⟨R, 0, none⟩ = some (.slice (some ⟨g, 0, none⟩) P.length cap) ∧ w.cell? ⟨R, 1, none⟩ = some (.int .i64 a) ∧ w.cell? ⟨R, 2, none⟩ = some (.bool f) := by
  have hb := h.blk
  unfold rdObj at hb
  refine ⟨?_, ?_, ?_⟩ <;> simp [World.cell?, hb]

theorem Ctx.notFrozen {w : World} {R g cap : Nat} {P : List PT} {a : Nat} {f : Bool} (h : Ctx w R g cap P a f) (o : Nat) : w.frozen? ⟨R, o, none⟩ = false := by
  have hb := h.blk
  unfold rdObj at hb
  simp [World.frozen?, hb]

theorem rd_adv {w : World} {R g cap a : Nat} {P : List PT} {f : Bool} (h : w.heap[R]? = some (rdObj g cap P a f)) : (w.setCell ⟨R, 1, none⟩ (.int .i64 ((a : Int) + 1))).heap[R]? = some (rdObj g cap P (a + 1) f) := by
  unfold rdObj at h ⊢
  rw [heap_setCell_same w R 1 _ _ _ h]; simp
theorem rd_fail {w : World} {R g cap a : Nat} {P : List PT} {f : Bool} (h : w.heap[R]? = some (rdObj g cap P a f)) : (w.setCell ⟨R, 2, none⟩ (.bool true)).heap[R]? = some (rdObj g cap P a true) := by
  unfold rdObj at h ⊢
  rw [heap_setCell_same w R 2 _ _ _ h]; simp
theorem kept_alloc {w : World} {R : Nat} {o x : Obj} (hR : R < w.heap.size) (h : w.heap[R]? = some x) : (w.alloc o).heap[R]? = some x := by
  rw [Below.heap_alloc _ _ _ hR]; exact h
theorem size_setCell (w : World) (a : Addr) (v : Value) : (w.setCell a v).heap.size = w.heap.size := by simp [World.setCell]
theorem rd_adv_alloc {w : World} {R g cap a : Nat} {P : List PT} {f : Bool} (h : w.heap[R]? = some (rdObj g cap P a f)) (hR : R < w.heap.size) (x : Obj) : ((w.setCell ⟨R, 1, none⟩ (.int .i64 ((a : Int) + 1))).alloc x).drew.heap[R]? = some (rdObj g cap P (a + 1) f) :=
  kept_alloc (w := w.setCell ⟨R, 1, none⟩ (.int .i64 ((a : Int) + 1))) (by rw [size_setCell]; exact hR) (rd_adv h)
theorem keeps_set_alloc (w : World) (R o : Nat) (v : Value) (x : Obj) : Keeps w.heap.size R w ((w.setCell ⟨R, o, none⟩ v).alloc x).drew :=
  (((Keeps.refl _ _ _).setCell (p := ⟨R, o, none⟩) (.inr rfl) v).alloc (by rw [size_setCell]; exact Nat.le_refl _) x).drew
theorem kept_drew {w : World} {R : Nat} {x : Obj} (h : w.heap[R]? = some x) : w.drew.heap[R]? = some x := h

/-- A place, one further if so. -/
def adv (b : Bool) (a : Nat) : Nat := match b with | true => a + 1 | false => a

def skipB (P : List PT) (t : Bs) (a : Nat) (f : Bool) : Bool := !f && decide ((cur P a).k = 4) && decide ((cur P a).s = t)

set_option maxHeartbeats 1000000 in
theorem next_rd (w : World) (R g cap : Nat) (P : List PT) (a : Nat) (f : Bool) (h : Ctx w R g cap P a f) (kd : Int) :
    Calls Tryd.prog 22 #[.pointer (some ⟨R, 0, none⟩), .int .i64 kd] w fun e w' => e = .returned (.bool ((cur P a).k == kd)) ∧ Ctx w' R g cap P a f ∧ Keeps w.heap.size R w w' := by
  obtain ⟨c0, c1, _⟩ := h.cells
  obtain ⟨t0, _, _, _⟩ := h.tok a h.at'
  have i1 : (0 : Int) ≤ (a : Int) := by omega
  have i2 : (a : Int) < (P.length : Int) := by have := h.at'; omega
  have HC := hideP2 h
  clear h
  go_enter Tryd.func22, Tryd.ntmps22
  go_wp2_with fail
  go_region_held3 (fun w' => w'.cell? ⟨R, 0, none⟩ = some (.slice (some ⟨g, 0, none⟩) P.length cap) ∧ w'.cell? ⟨R, 1, none⟩ = some (.int .i64 a) ∧ w'.cell? ⟨g, a * 4, none⟩ = some (.int .i64 (cur P a).k)) (go_keep) (fail)
  go_wp2_with fail
  go_ret
  exact ⟨rfl, HC.out.keeps HC.out.blk (Keeps.refl _ _ _).drew HC.out.at', (Keeps.refl _ _ _).drew⟩

end Go.Proofs.YtlfffodehppgbaaDoor
