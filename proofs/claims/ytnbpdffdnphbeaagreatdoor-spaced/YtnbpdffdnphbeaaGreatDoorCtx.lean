/- The reader's place in memory: its block, the row of tokens, and what is kept from step to step. -/
import Derived.Test.YtnbpdffdnphbeaaGreatDoorAmongs
import Derived.Deep.RegionHeld3
import Derived.Deep.DrawnRows
namespace Go.Proofs.YtnbpdffdnphbeaaGreatDoor
open Go.RowKit

/-- A token of the program: its kind, its text, its value, its place. -/
structure PT where
  k : Int
  s : Bs
  v : Int
  p : Nat

def pz : PT := ⟨0, [], 0, 0⟩
def cur (P : List PT) (i : Nat) : PT := P.getD i pz

/-- Of the blocks below B all but R are as they were. -/
structure Keeps (B R : Nat) (w w' : World) : Prop where
  os : w'.os = w.os
  tape : w'.tape = w.tape
  output : w'.output = w.output
  size : w.heap.size ≤ w'.heap.size
  block : ∀ k, k < B → k ≠ R → w'.heap[k]? = w.heap[k]?

theorem Keeps.refl (B R : Nat) (w : World) : Keeps B R w w := ⟨rfl, rfl, rfl, Nat.le_refl _, fun _ _ _ => rfl⟩
theorem Keeps.trans {B R : Nat} {a b c : World} (h : Keeps B R a b) (k : Keeps B R b c) : Keeps B R a c :=
  ⟨k.os.trans h.os, k.tape.trans h.tape, k.output.trans h.output, Nat.le_trans h.size k.size, fun i hi hr => (k.block i hi hr).trans (h.block i hi hr)⟩
theorem Keeps.mono {B B' R : Nat} {w w' : World} (h : Keeps B R w w') (hB : B' ≤ B) : Keeps B' R w w' := ⟨h.os, h.tape, h.output, h.size, fun k hk hr => h.block k (Nat.lt_of_lt_of_le hk hB) hr⟩
theorem Keeps.of_below {B R : Nat} {w w' : World} (h : Below B w w') : Keeps B R w w' := ⟨h.os, h.tape, h.output, h.size, fun k hk _ => h.block k hk⟩
theorem Keeps.drew {B R : Nat} {a w : World} (h : Keeps B R a w) : Keeps B R a w.drew := ⟨h.os, h.tape, h.output, h.size, h.block⟩
theorem Keeps.alloc {B R : Nat} {a w : World} (h : Keeps B R a w) (hB : B ≤ w.heap.size) (o : Obj) : Keeps B R a (w.alloc o) :=
  h.trans ⟨rfl, rfl, rfl, by simp, fun k hk _ => Below.heap_alloc _ _ _ (by omega)⟩
theorem Keeps.setCell {B R : Nat} {a w : World} (h : Keeps B R a w) {p : Addr} (hp : B ≤ p.block ∨ p.block = R) (u : Value) : Keeps B R a (w.setCell p u) :=
  h.trans ⟨rfl, rfl, rfl, by simp [World.setCell], fun k hk hr => Below.heap_setCell _ _ _ _ (by omega)⟩
theorem Keeps.cell {B R : Nat} {w w' : World} (h : Keeps B R w w') {p : Addr} (hp : p.block < B) (hr : p.block ≠ R) : w'.cell? p = w.cell? p := World.cell?_of_block (w := w) (h.block p.block hp hr)
theorem Keeps.frozen {B R : Nat} {w w' : World} (h : Keeps B R w w') {p : Addr} (hp : p.block < B) (hr : p.block ≠ R) : w'.frozen? p = w.frozen? p := World.frozen?_of_block (w := w) (h.block p.block hp hr)

/-- The program's tokens lie in block g. -/
def TokM (w : World) (g : Nat) (P : List PT) : Prop := ∀ i, i < P.length →
  w.cell? ⟨g, i * 4, none⟩ = some (.int .i64 (cur P i).k) ∧ w.cell? ⟨g, i * 4 + 1, none⟩ = some (.string ⟨(cur P i).s.toArray⟩) ∧ w.cell? ⟨g, i * 4 + 2, none⟩ = some (.int .i64 (cur P i).v) ∧ w.cell? ⟨g, i * 4 + 3, none⟩ = some (.int .i64 (cur P i).p)

def rdObj (g cap : Nat) (P : List PT) (a : Nat) (f : Bool) : Obj := .cells #[.slice (some ⟨g, 0, none⟩) P.length cap, .int .i64 a, .bool f] 228 (0, 0)

/-- The reader stands at token a; f: it has failed. -/
structure Ctx (w : World) (R g cap : Nat) (P : List PT) (a : Nat) (f : Bool) : Prop where
  blk : w.heap[R]? = some (rdObj g cap P a f)
  tok : TokM w g P
  gR : g ≠ R
  glt : g < w.heap.size
  at' : a < P.length
  cap1 : P.length ≤ cap
  cap2 : cap ≤ maxLen
  many : P.length ≤ 4001
  endk : ∀ i, i < P.length → (cur P i).k ≠ 0 → i + 1 < P.length

theorem Ctx.rlt {w : World} {R g cap : Nat} {P : List PT} {a : Nat} {f : Bool} (h : Ctx w R g cap P a f) : R < w.heap.size := by
  rcases Nat.lt_or_ge R w.heap.size with h1 | h1
  · exact h1
  · have := h.blk; rw [Array.getElem?_eq_none h1] at this; cases this

theorem TokM.keeps {w w' : World} {g B R : Nat} {P : List PT} (h : TokM w g P) (hk : Keeps B R w w') (hg : g < B) (hr : g ≠ R) : TokM w' g P := by
  intro i hi
  obtain ⟨a, b, c, d⟩ := h i hi
  exact ⟨by rw [hk.cell (p := ⟨g, _, none⟩) hg hr]; exact a, by rw [hk.cell (p := ⟨g, _, none⟩) hg hr]; exact b, by rw [hk.cell (p := ⟨g, _, none⟩) hg hr]; exact c, by rw [hk.cell (p := ⟨g, _, none⟩) hg hr]; exact d⟩

theorem Ctx.keeps {w w' : World} {R g cap : Nat} {P : List PT} {a a' : Nat} {f f' : Bool} (h : Ctx w R g cap P a f) (hb : w'.heap[R]? = some (rdObj g cap P a' f')) (hk : Keeps w.heap.size R w w') (ha : a' < P.length) : Ctx w' R g cap P a' f' :=
  ⟨hb, h.tok.keeps hk h.glt h.gR, h.gR, Nat.lt_of_lt_of_le h.glt hk.size, ha, h.cap1, h.cap2, h.many, h.endk⟩

theorem Ctx.cells {w : World} {R g cap : Nat} {P : List PT} {a : Nat} {f : Bool} (h : Ctx w R g cap P a f) :
    w.cell? ⟨R, 0, none⟩ = some (.slice (some ⟨g, 0, none⟩) P.length cap) ∧ w.cell? ⟨R, 1, none⟩ = some (.int .i64 a) ∧ w.cell? ⟨R, 2, none⟩ = some (.bool f) := by
  have hb := h.blk
  unfold rdObj at hb
  refine ⟨?_, ?_, ?_⟩ <;> simp [World.cell?, hb]

theorem Ctx.notFrozen {w : World} {R g cap : Nat} {P : List PT} {a : Nat} {f : Bool} (h : Ctx w R g cap P a f) (o : Nat) : w.frozen? ⟨R, o, none⟩ = false := by
  have hb := h.blk
  unfold rdObj at hb
  simp [World.frozen?, hb]

theorem rd_adv {w : World} {R g cap a : Nat} {P : List PT} {f : Bool} (h : w.heap[R]? = some (rdObj g cap P a f)) : (w.setCell ⟨R, 1, none⟩ (.int .i64 ((a : Int) + 1))).heap[R]? = some (rdObj g cap P (a + 1) f) := by
  unfold rdObj at h ⊢
  rw [heap_setCell_same w R 1 _ _ _ h]; simp
theorem rd_fail {w : World} {R g cap a : Nat} {P : List PT} {f : Bool} (h : w.heap[R]? = some (rdObj g cap P a f)) : (w.setCell ⟨R, 2, none⟩ (.bool true)).heap[R]? = some (rdObj g cap P a true) := by
  unfold rdObj at h ⊢
  rw [heap_setCell_same w R 2 _ _ _ h]; simp
theorem kept_alloc {w : World} {R : Nat} {o x : Obj} (hR : R < w.heap.size) (h : w.heap[R]? = some x) : (w.alloc o).heap[R]? = some x := by
  rw [Below.heap_alloc _ _ _ hR]; exact h
theorem size_setCell (w : World) (a : Addr) (v : Value) : (w.setCell a v).heap.size = w.heap.size := by simp [World.setCell]
theorem rd_adv_alloc {w : World} {R g cap a : Nat} {P : List PT} {f : Bool} (h : w.heap[R]? = some (rdObj g cap P a f)) (hR : R < w.heap.size) (x : Obj) : ((w.setCell ⟨R, 1, none⟩ (.int .i64 ((a : Int) + 1))).alloc x).drew.heap[R]? = some (rdObj g cap P (a + 1) f) :=
  kept_alloc (w := w.setCell ⟨R, 1, none⟩ (.int .i64 ((a : Int) + 1))) (by rw [size_setCell]; exact hR) (rd_adv h)
theorem keeps_set_alloc (w : World) (R o : Nat) (v : Value) (x : Obj) : Keeps w.heap.size R w ((w.setCell ⟨R, o, none⟩ v).alloc x).drew :=
  (((Keeps.refl _ _ _).setCell (p := ⟨R, o, none⟩) (.inr rfl) v).alloc (by rw [size_setCell]; exact Nat.le_refl _) x).drew
/-- A place, one further if so. -/
def adv (b : Bool) (a : Nat) : Nat := match b with | true => a + 1 | false => a

def skipB (P : List PT) (t : Bs) (a : Nat) (f : Bool) : Bool := !f && decide ((cur P a).k = 4) && decide ((cur P a).s = t)

set_option maxHeartbeats 1000000 in
theorem next_rd (w : World) (R g cap : Nat) (P : List PT) (a : Nat) (f : Bool) (h : Ctx w R g cap P a f) (kd : Int) :
    Calls Tryz.prog 101 #[.pointer (some ⟨R, 0, none⟩), .int .i64 kd] w fun e w' => e = .returned (.bool ((cur P a).k == kd)) ∧ Ctx w' R g cap P a f ∧ Keeps w.heap.size R w w' := by
  obtain ⟨c0, c1, _⟩ := h.cells
  obtain ⟨t0, _, _, _⟩ := h.tok a h.at'
  have i1 : (0 : Int) ≤ (a : Int) := by omega
  have i2 : (a : Int) < (P.length : Int) := by have := h.at'; omega
  have HC := hideP2 h
  clear h
  go_enter Tryz.func101, Tryz.ntmps101
  go_wp2_with fail
  go_region_held3 (fun w' => w'.cell? ⟨R, 0, none⟩ = some (.slice (some ⟨g, 0, none⟩) P.length cap) ∧ w'.cell? ⟨R, 1, none⟩ = some (.int .i64 a) ∧ w'.cell? ⟨g, a * 4, none⟩ = some (.int .i64 (cur P a).k)) (go_keep) (fail)
  go_wp2_with fail
  go_ret
  exact ⟨rfl, HC.out.keeps HC.out.blk (Keeps.refl _ _ _).drew HC.out.at', (Keeps.refl _ _ _).drew⟩

end Go.Proofs.YtnbpdffdnphbeaaGreatDoor

/- What skip, want, take, name and number of the reader do. -/
namespace Go.Proofs.YtnbpdffdnphbeaaGreatDoor
open Go.RowKit
attribute [local go_sem ↓] Go.wp_at_zero Go.wp_at_succ

theorem kept_alloc_drew {w : World} {R : Nat} {o x : Obj} (hR : R < w.heap.size) (h : w.heap[R]? = some x) : (w.alloc o).drew.heap[R]? = some x := by
  show (w.alloc o).heap[R]? = _; rw [Below.heap_alloc _ _ _ hR]; exact h

set_option maxHeartbeats 1000000 in
theorem skip_rd (w : World) (R g cap : Nat) (P : List PT) (a : Nat) (f : Bool) (h : Ctx w R g cap P a f) (t : Bs) :
    Calls Tryz.prog 148 #[.pointer (some ⟨R, 0, none⟩), .string ⟨t.toArray⟩] w fun e w' => e = .returned (.bool (skipB P t a f)) ∧ Ctx w' R g cap P (adv (skipB P t a f) a) f ∧ Keeps w.heap.size R w w' := by
  obtain ⟨c0, c1, c2⟩ := h.cells
  obtain ⟨t0, t1, t2, t3⟩ := h.tok a h.at'
  have i1 : (0 : Int) ≤ (a : Int) := by omega
  have i2 : (a : Int) < (P.length : Int) := by have := h.at'; omega
  have hm := h.many
  have hR := h.rlt
  have hg := h.glt
  have hfz := h.notFrozen
  have hek := h.endk a h.at'
  have n1 := World.new_ne w ⟨R, 0, none⟩ c0
  have n2 := World.new_ne w ⟨g, a * 4, none⟩ t0
  have HC := hideP2 h
  have HS : Hid (skipB P t a f = (!f && decide ((cur P a).k = 4) && decide ((cur P a).s = t))) := rfl
  generalize cur P a = x at *
  obtain ⟨xk, xs, xv, xp⟩ := x
  simp only at t0 t1 t2 t3 HS hek
  generalize skipB P t a f = b at *
  clear h
  cases f with
  | true =>
    have HB : Hid (b = false) := by unfold Hid; rw [HS.out]; rfl
    clear HS hek
    go_enter Tryz.func148, Tryz.ntmps148
    go_wp2_with fail
    go_region_held3 (fun w' => w'.cell? ⟨R, 0, none⟩ = some (.slice (some ⟨g, 0, none⟩) P.length cap) ∧ w'.cell? ⟨R, 1, none⟩ = some (.int .i64 a) ∧ w'.cell? ⟨g, a * 4, none⟩ = some (.int .i64 xk) ∧ w'.cell? ⟨g, a * 4 + 1, none⟩ = some (.string ⟨xs.toArray⟩) ∧ w'.cell? ⟨g, a * 4 + 2, none⟩ = some (.int .i64 xv) ∧ w'.cell? ⟨g, a * 4 + 3, none⟩ = some (.int .i64 xp)) (go_keep) (fail)
    go_wp2_with fail
    go_ret
    refine ⟨ret_bool HB.out.symm, ?_, ?_⟩
    · rw [HB.out]
      exact HC.out.keeps (kept_alloc_drew hR HC.out.blk) ((Keeps.refl _ _ _).alloc (Nat.le_refl _) _).drew HC.out.at'
    · exact ((Keeps.refl _ _ _).alloc (Nat.le_refl _) _).drew
  | false =>
    by_cases hk : xk = 4
    · have k1 : (xk != 4) = false := by simp [hk]
      by_cases hx : xs = t
      · have HB : Hid (b = true) := by unfold Hid; rw [HS.out, hk, hx]; simp
        have e1 : (!xs == t) = false := by simp [hx]
        have hek2 := hek (by rw [hk]; decide)
        clear HS hek hk hx
        go_enter Tryz.func148, Tryz.ntmps148
        go_wp2_with fail
        go_region_held3 (fun w' => w'.cell? ⟨R, 0, none⟩ = some (.slice (some ⟨g, 0, none⟩) P.length cap) ∧ w'.cell? ⟨R, 1, none⟩ = some (.int .i64 a) ∧ w'.cell? ⟨g, a * 4, none⟩ = some (.int .i64 xk) ∧ w'.cell? ⟨g, a * 4 + 1, none⟩ = some (.string ⟨xs.toArray⟩) ∧ w'.cell? ⟨g, a * 4 + 2, none⟩ = some (.int .i64 xv) ∧ w'.cell? ⟨g, a * 4 + 3, none⟩ = some (.int .i64 xp)) (go_keep) (fail)
        go_wp2_with fail
        go_ret
        refine ⟨ret_bool HB.out.symm, ?_, ?_⟩
        · rw [HB.out]
          exact HC.out.keeps (rd_adv_alloc HC.out.blk hR _) (keeps_set_alloc _ _ _ _ _) hek2
        · exact keeps_set_alloc _ _ _ _ _
      · have HB : Hid (b = false) := by unfold Hid; rw [HS.out]; simp [hx]
        have e1 : (!xs == t) = true := by simp [hx]
        clear HS hek hk hx
        go_enter Tryz.func148, Tryz.ntmps148
        go_wp2_with fail
        go_region_held3 (fun w' => w'.cell? ⟨R, 0, none⟩ = some (.slice (some ⟨g, 0, none⟩) P.length cap) ∧ w'.cell? ⟨R, 1, none⟩ = some (.int .i64 a) ∧ w'.cell? ⟨g, a * 4, none⟩ = some (.int .i64 xk) ∧ w'.cell? ⟨g, a * 4 + 1, none⟩ = some (.string ⟨xs.toArray⟩) ∧ w'.cell? ⟨g, a * 4 + 2, none⟩ = some (.int .i64 xv) ∧ w'.cell? ⟨g, a * 4 + 3, none⟩ = some (.int .i64 xp)) (go_keep) (fail)
        go_wp2_with fail
        go_ret
        refine ⟨ret_bool HB.out.symm, ?_, ?_⟩
        · rw [HB.out]
          exact HC.out.keeps (kept_alloc_drew hR HC.out.blk) ((Keeps.refl _ _ _).alloc (Nat.le_refl _) _).drew HC.out.at'
        · exact ((Keeps.refl _ _ _).alloc (Nat.le_refl _) _).drew
    · have HB : Hid (b = false) := by unfold Hid; rw [HS.out]; simp [hk]
      have k1 : (xk != 4) = true := by simp [hk]
      clear HS hek hk
      go_enter Tryz.func148, Tryz.ntmps148
      go_wp2_with fail
      go_region_held3 (fun w' => w'.cell? ⟨R, 0, none⟩ = some (.slice (some ⟨g, 0, none⟩) P.length cap) ∧ w'.cell? ⟨R, 1, none⟩ = some (.int .i64 a) ∧ w'.cell? ⟨g, a * 4, none⟩ = some (.int .i64 xk) ∧ w'.cell? ⟨g, a * 4 + 1, none⟩ = some (.string ⟨xs.toArray⟩) ∧ w'.cell? ⟨g, a * 4 + 2, none⟩ = some (.int .i64 xv) ∧ w'.cell? ⟨g, a * 4 + 3, none⟩ = some (.int .i64 xp)) (go_keep) (fail)
      go_wp2_with fail
      go_ret
      refine ⟨ret_bool HB.out.symm, ?_, ?_⟩
      · rw [HB.out]
        exact HC.out.keeps (kept_alloc_drew hR HC.out.blk) ((Keeps.refl _ _ _).alloc (Nat.le_refl _) _).drew HC.out.at'
      · exact ((Keeps.refl _ _ _).alloc (Nat.le_refl _) _).drew
end Go.Proofs.YtnbpdffdnphbeaaGreatDoor

/- What want, take, name and number of the reader do. -/
namespace Go.Proofs.YtnbpdffdnphbeaaGreatDoor
open Go.RowKit
attribute [local go_sem ↓] Go.wp_at_zero Go.wp_at_succ

theorem skipB_f {P : List PT} {t : Bs} {a : Nat} {f : Bool} (h : skipB P t a f = true) : f = false := by
  unfold skipB at h; cases f
  · rfl
  · simp at h

theorem Ctx.fails {w w' : World} {R g cap : Nat} {P : List PT} {a : Nat} {f : Bool} (h : Ctx w R g cap P a f) (hw : w' = w.setCell ⟨R, 2, none⟩ (.bool true)) : Ctx w' R g cap P a true := by
  subst hw
  exact h.keeps (rd_fail h.blk) ((Keeps.refl _ _ _).setCell (p := ⟨R, 2, none⟩) (.inr rfl) _) h.at'

set_option maxHeartbeats 1000000 in
theorem want_rd (w : World) (R g cap : Nat) (P : List PT) (a : Nat) (f : Bool) (h : Ctx w R g cap P a f) (t : Bs) :
    Calls Tryz.prog 152 #[.pointer (some ⟨R, 0, none⟩), .string ⟨t.toArray⟩] w fun e w' => e = .returned (.tuple #[]) ∧ Ctx w' R g cap P (adv (skipB P t a f) a) (!skipB P t a f) ∧ Keeps w.heap.size R w w' := by
  have HS := hideP2 (skip_rd w R g cap P a f h t)
  have hsf := @skipB_f P t a f
  generalize skipB P t a f = b at *
  clear h
  cases b with
  | true =>
    have HF := hideP2 (hsf rfl)
    clear hsf
    go_enter Tryz.func152, Tryz.ntmps152
    go_wp2_with fail
    refine HS.out.mono ?_; rintro e w1 ⟨rfl, hc, hk⟩
    have HC := hideP2 hc
    have HK := hideP2 hk
    clear hc hk
    go_wp2_with fail
    go_end0
    have hc := HC.out
    rw [HF.out] at hc
    exact ⟨rfl, hc, HK.out⟩
  | false =>
    clear hsf
    go_enter Tryz.func152, Tryz.ntmps152
    go_wp2_with fail
    refine HS.out.mono ?_; rintro e w1 ⟨rfl, hc, hk⟩
    have c2 := hc.cells.2.2
    have hfz := hc.notFrozen 2
    have HC := hideP2 hc
    have HK := hideP2 hk
    clear hc hk
    go_wp2_with fail
    go_end0
    exact ⟨rfl, HC.out.fails rfl, HK.out.setCell (p := ⟨R, 2, none⟩) (.inr rfl) _⟩

def takeB (P : List PT) (kd : Int) (a : Nat) (f : Bool) : Bool := !f && decide ((cur P a).k = kd)
def tk (b : Bool) (x : PT) : PT := match b with | true => x | false => pz

def ptV (x : PT) : Value := .agg #[.int .i64 x.k, .string ⟨x.s.toArray⟩, .int .i64 x.v, .int .i64 x.p]

theorem keeps_set_alloc2 (w : World) (R o : Nat) (v : Value) (x y : Obj) : Keeps w.heap.size R w (((w.setCell ⟨R, o, none⟩ v).alloc x).alloc y).drew :=
  ((((Keeps.refl _ _ _).setCell (p := ⟨R, o, none⟩) (.inr rfl) v).alloc (by rw [size_setCell]; exact Nat.le_refl _) x).alloc (by simp) y).drew
theorem rd_fail_alloc2 {w : World} {R g cap a : Nat} {P : List PT} {f : Bool} (h : w.heap[R]? = some (rdObj g cap P a f)) (hR : R < w.heap.size) (x y : Obj) : (((w.setCell ⟨R, 2, none⟩ (.bool true)).alloc x).alloc y).drew.heap[R]? = some (rdObj g cap P a true) :=
  kept_alloc (w := (w.setCell ⟨R, 2, none⟩ (.bool true)).alloc x) (by simp; omega) (kept_alloc (w := w.setCell ⟨R, 2, none⟩ (.bool true)) (by rw [size_setCell]; exact hR) (rd_fail h))
theorem rd_adv_alloc2 {w : World} {R g cap a : Nat} {P : List PT} {f : Bool} (h : w.heap[R]? = some (rdObj g cap P a f)) (hR : R < w.heap.size) (x y : Obj) : (((w.setCell ⟨R, 1, none⟩ (.int .i64 ((a : Int) + 1))).alloc x).alloc y).drew.heap[R]? = some (rdObj g cap P (a + 1) f) :=
  kept_alloc (w := (w.setCell ⟨R, 1, none⟩ (.int .i64 ((a : Int) + 1))).alloc x) (by simp; omega) (kept_alloc (w := w.setCell ⟨R, 1, none⟩ (.int .i64 ((a : Int) + 1))) (by rw [size_setCell]; exact hR) (rd_adv h))

set_option maxHeartbeats 1000000 in
theorem take_rd (w : World) (R g cap : Nat) (P : List PT) (a : Nat) (f : Bool) (h : Ctx w R g cap P a f) (kd : Int) (hkd : kd ≠ 0) :
    Calls Tryz.prog 246 #[.pointer (some ⟨R, 0, none⟩), .int .i64 kd] w fun e w' => e = .returned (ptV (tk (takeB P kd a f) (cur P a))) ∧ Ctx w' R g cap P (adv (takeB P kd a f) a) (!takeB P kd a f) ∧ Keeps w.heap.size R w w' := by
  obtain ⟨c0, c1, c2⟩ := h.cells
  obtain ⟨t0, t1, t2, t3⟩ := h.tok a h.at'
  have i1 : (0 : Int) ≤ (a : Int) := by omega
  have i2 : (a : Int) < (P.length : Int) := by have := h.at'; omega
  have hm := h.many
  have hR := h.rlt
  have hg := h.glt
  have hfz := h.notFrozen
  have hek := h.endk a h.at'
  have n1 := World.new_ne w ⟨R, 0, none⟩ c0
  have n2 := World.new_ne w ⟨g, a * 4, none⟩ t0
  have HC := hideP2 h
  have HS : Hid (takeB P kd a f = (!f && decide ((cur P a).k = kd))) := rfl
  generalize cur P a = x at *
  obtain ⟨xk, xs, xv, xp⟩ := x
  simp only at t0 t1 t2 t3 HS hek
  generalize takeB P kd a f = b at *
  clear h
  cases f with
  | true =>
    have HB : Hid (b = false) := by unfold Hid; rw [HS.out]; rfl
    clear HS hek hkd
    go_enter Tryz.func246, Tryz.ntmps246
    go_wp2_with fail
    go_region_held3 (fun w' => w'.cell? ⟨R, 0, none⟩ = some (.slice (some ⟨g, 0, none⟩) P.length cap) ∧ w'.cell? ⟨R, 1, none⟩ = some (.int .i64 a) ∧ w'.cell? ⟨g, a * 4, none⟩ = some (.int .i64 xk) ∧ w'.cell? ⟨g, a * 4 + 1, none⟩ = some (.string ⟨xs.toArray⟩) ∧ w'.cell? ⟨g, a * 4 + 2, none⟩ = some (.int .i64 xv) ∧ w'.cell? ⟨g, a * 4 + 3, none⟩ = some (.int .i64 xp)) (go_keep) (fail)
    go_wp2_with fail
    refine bodyPost_ret (v := ptV pz) (by simp [results, Tryz.results246, go_sem, ptV, pz]) rfl ⟨by rw [HB.out]; rfl, ?_, keeps_set_alloc2 _ _ _ _ _ _⟩
    rw [HB.out]
    exact HC.out.keeps (rd_fail_alloc2 HC.out.blk hR _ _) (keeps_set_alloc2 _ _ _ _ _ _) (HC.out.at')
  | false =>
    by_cases hx : xk = kd
    · have HB : Hid (b = true) := by unfold Hid; rw [HS.out, hx]; simp
      have hek2 := hek (by rw [hx]; exact hkd)
      have e1 : (xk != kd) = false := by simp [hx]
      clear HS hek hkd hx
      go_enter Tryz.func246, Tryz.ntmps246
      go_wp2_with fail
      go_region_held3 (fun w' => w'.cell? ⟨R, 0, none⟩ = some (.slice (some ⟨g, 0, none⟩) P.length cap) ∧ w'.cell? ⟨R, 1, none⟩ = some (.int .i64 a) ∧ w'.cell? ⟨g, a * 4, none⟩ = some (.int .i64 xk) ∧ w'.cell? ⟨g, a * 4 + 1, none⟩ = some (.string ⟨xs.toArray⟩) ∧ w'.cell? ⟨g, a * 4 + 2, none⟩ = some (.int .i64 xv) ∧ w'.cell? ⟨g, a * 4 + 3, none⟩ = some (.int .i64 xp)) (go_keep) (fail)
      go_wp2_with fail
      refine bodyPost_ret (v := ptV ⟨xk, xs, xv, xp⟩) (by simp [results, Tryz.results246, go_sem, ptV]) rfl ⟨by rw [HB.out]; rfl, ?_, keeps_set_alloc2 _ _ _ _ _ _⟩
      rw [HB.out]
      exact HC.out.keeps (rd_adv_alloc2 HC.out.blk hR _ _) (keeps_set_alloc2 _ _ _ _ _ _) hek2
    · have HB : Hid (b = false) := by unfold Hid; rw [HS.out]; simp [hx]
      have e1 : (xk != kd) = true := by simp [hx]
      clear HS hek hkd hx
      go_enter Tryz.func246, Tryz.ntmps246
      go_wp2_with fail
      go_region_held3 (fun w' => w'.cell? ⟨R, 0, none⟩ = some (.slice (some ⟨g, 0, none⟩) P.length cap) ∧ w'.cell? ⟨R, 1, none⟩ = some (.int .i64 a) ∧ w'.cell? ⟨g, a * 4, none⟩ = some (.int .i64 xk) ∧ w'.cell? ⟨g, a * 4 + 1, none⟩ = some (.string ⟨xs.toArray⟩) ∧ w'.cell? ⟨g, a * 4 + 2, none⟩ = some (.int .i64 xv) ∧ w'.cell? ⟨g, a * 4 + 3, none⟩ = some (.int .i64 xp)) (go_keep) (fail)
      go_wp2_with fail
      refine bodyPost_ret (v := ptV pz) (by simp [results, Tryz.results246, go_sem, ptV, pz]) rfl ⟨by rw [HB.out]; rfl, ?_, keeps_set_alloc2 _ _ _ _ _ _⟩
      rw [HB.out]
      exact HC.out.keeps (rd_fail_alloc2 HC.out.blk hR _ _) (keeps_set_alloc2 _ _ _ _ _ _) (HC.out.at')

set_option maxHeartbeats 1000000 in
theorem name_rd (w : World) (R g cap : Nat) (P : List PT) (a : Nat) (f : Bool) (h : Ctx w R g cap P a f) :
    Calls Tryz.prog 211 #[.pointer (some ⟨R, 0, none⟩)] w fun e w' => e = .returned (.string ⟨(tk (takeB P 2 a f) (cur P a)).s.toArray⟩) ∧ Ctx w' R g cap P (adv (takeB P 2 a f) a) (!takeB P 2 a f) ∧ Keeps w.heap.size R w w' := by
  have HS := hideP2 (take_rd w R g cap P a f h 2 (by decide))
  generalize tk (takeB P 2 a f) (cur P a) = x at *
  obtain ⟨xk, xs, xv, xp⟩ := x
  simp only [ptV] at HS
  generalize takeB P 2 a f = b at *
  clear h
  have hfd : ∀ w : World, (Instr.field 237 (.agg #[.int .i64 xk, .string ⟨xs.toArray⟩, .int .i64 xv, .int .i64 xp]) 1).run Tryz.prog w = .ok (.string ⟨xs.toArray⟩) w := fun _ => by kernel_rfl
  go_enter Tryz.func211, Tryz.ntmps211
  go_wp2_with fail
  refine HS.out.mono ?_; rintro e w1 ⟨rfl, hc, hk⟩
  have HC := hideP2 hc
  have HK := hideP2 hk
  clear hc hk
  go_wp2_with fail
  go_ret
  exact ⟨rfl, HC.out, HK.out⟩

set_option maxHeartbeats 1000000 in
theorem number_rd (w : World) (R g cap : Nat) (P : List PT) (a : Nat) (f : Bool) (h : Ctx w R g cap P a f) :
    Calls Tryz.prog 212 #[.pointer (some ⟨R, 0, none⟩)] w fun e w' => e = .returned (.int .i64 (tk (takeB P 3 a f) (cur P a)).v) ∧ Ctx w' R g cap P (adv (takeB P 3 a f) a) (!takeB P 3 a f) ∧ Keeps w.heap.size R w w' := by
  have HS := hideP2 (take_rd w R g cap P a f h 3 (by decide))
  generalize tk (takeB P 3 a f) (cur P a) = x at *
  obtain ⟨xk, xs, xv, xp⟩ := x
  simp only [ptV] at HS
  generalize takeB P 3 a f = b at *
  clear h
  have hfd : ∀ w : World, (Instr.field 237 (.agg #[.int .i64 xk, .string ⟨xs.toArray⟩, .int .i64 xv, .int .i64 xp]) 2).run Tryz.prog w = .ok (.int .i64 xv) w := fun _ => by kernel_rfl
  go_enter Tryz.func212, Tryz.ntmps212
  go_wp2_with fail
  refine HS.out.mono ?_; rintro e w1 ⟨rfl, hc, hk⟩
  have HC := hideP2 hc
  have HK := hideP2 hk
  clear hc hk
  go_wp2_with fail
  go_ret
  exact ⟨rfl, HC.out, HK.out⟩
end Go.Proofs.YtnbpdffdnphbeaaGreatDoor
