/- What skip, want, take, name and number of the reader do. -/
import Derived.Test.YtnbpdffdnphbeaaGreatReadAll
namespace Go.Proofs.YtnbpdffdnphbeaaGreat
open Go.RowKit
attribute [local go_sem ↓] Go.wp_at_zero Go.wp_at_succ

theorem kept_alloc_drew {w : World} {R : Nat} {o x : Obj} (hR : R < w.heap.size) (h : w.heap[R]? = some x) : (w.alloc o).drew.heap[R]? = some x := by
  show (w.alloc o).heap[R]? = _; rw [Below.heap_alloc _ _ _ hR]; exact h

set_option maxHeartbeats 1000000 in
theorem skip_rd (w : World) (R g cap : Nat) (P : List PT) (a : Nat) (f : Bool) (h : Ctx w R g cap P a f) (t : Bs) :
    Calls Tryz.prog 41 #[.pointer (some ⟨R, 0, none⟩), .string ⟨t.toArray⟩] w fun e w' => e = .returned (.bool (skipB P t a f)) ∧ Ctx w' R g cap P (adv (skipB P t a f) a) f ∧ Keeps w.heap.size R w w' := by
  obtain ⟨c0, c1, c2⟩ := h.cells
  obtain ⟨t0, t1, t2, t3⟩ := h.tok a h.at'
  have i1 : (0 : Int) ≤ (a : Int) := by omega
  have i2 : (a : Int) < (P.length : Int) := by have := h.at'; omega
  have hm := h.many
  have hR := h.rlt
  have hg := h.glt
  have hfz := h.notFrozen
  have hek := h.endk a h.at'
  have n1 := World.new_ne w ⟨R, 0, none⟩ c0
  have n2 := World.new_ne w ⟨g, a * 4, none⟩ t0
  have HC := hideP2 h
  have HS : Hid (skipB P t a f = (!f && decide ((cur P a).k = 4) && decide ((cur P a).s = t))) := rfl
  generalize cur P a = x at *
  obtain ⟨xk, xs, xv, xp⟩ := x
  simp only at t0 t1 t2 t3 HS hek
  generalize skipB P t a f = b at *
  clear h
  cases f with
  | true =>
    have HB : Hid (b = false) := by unfold Hid; rw [HS.out]; rfl
    clear HS hek
    go_enter Tryz.func41, Tryz.ntmps41
    go_wp2_with fail
    go_region_held3 (fun w' => w'.cell? ⟨R, 0, none⟩ = some (.slice (some ⟨g, 0, none⟩) P.length cap) ∧ w'.cell? ⟨R, 1, none⟩ = some (.int .i64 a) ∧ w'.cell? ⟨g, a * 4, none⟩ = some (.int .i64 xk) ∧ w'.cell? ⟨g, a * 4 + 1, none⟩ = some (.string ⟨xs.toArray⟩) ∧ w'.cell? ⟨g, a * 4 + 2, none⟩ = some (.int .i64 xv) ∧ w'.cell? ⟨g, a * 4 + 3, none⟩ = some (.int .i64 xp)) (go_keep) (fail)
    go_wp2_with fail
    go_ret
    refine ⟨ret_bool HB.out.symm, ?_, ?_⟩
    · rw [HB.out]
      exact HC.out.keeps (kept_alloc_drew hR HC.out.blk) ((Keeps.refl _ _ _).alloc (Nat.le_refl _) _).drew HC.out.at'
    · exact ((Keeps.refl _ _ _).alloc (Nat.le_refl _) _).drew
  | false =>
    by_cases hk : xk = 4
    · have k1 : (xk != 4) = false := by simp [hk]
      by_cases hx : xs = t
      · have HB : Hid (b = true) := by unfold Hid; rw [HS.out, hk, hx]; simp
        have e1 : (!xs == t) = false := by simp [hx]
        have hek2 := hek (by rw [hk]; decide)
        clear HS hek hk hx
        go_enter Tryz.func41, Tryz.ntmps41
        go_wp2_with fail
        go_region_held3 (fun w' => w'.cell? ⟨R, 0, none⟩ = some (.slice (some ⟨g, 0, none⟩) P.length cap) ∧ w'.cell? ⟨R, 1, none⟩ = some (.int .i64 a) ∧ w'.cell? ⟨g, a * 4, none⟩ = some (.int .i64 xk) ∧ w'.cell? ⟨g, a * 4 + 1, none⟩ = some (.string ⟨xs.toArray⟩) ∧ w'.cell? ⟨g, a * 4 + 2, none⟩ = some (.int .i64 xv) ∧ w'.cell? ⟨g, a * 4 + 3, none⟩ = some (.int .i64 xp)) (go_keep) (fail)
        go_wp2_with fail
        go_ret
        refine ⟨ret_bool HB.out.symm, ?_, ?_⟩
        · rw [HB.out]
          exact HC.out.keeps (rd_adv_alloc HC.out.blk hR _) (keeps_set_alloc _ _ _ _ _) hek2
        · exact keeps_set_alloc _ _ _ _ _
      · have HB : Hid (b = false) := by unfold Hid; rw [HS.out]; simp [hx]
        have e1 : (!xs == t) = true := by simp [hx]
        clear HS hek hk hx
        go_enter Tryz.func41, Tryz.ntmps41
        go_wp2_with fail
        go_region_held3 (fun w' => w'.cell? ⟨R, 0, none⟩ = some (.slice (some ⟨g, 0, none⟩) P.length cap) ∧ w'.cell? ⟨R, 1, none⟩ = some (.int .i64 a) ∧ w'.cell? ⟨g, a * 4, none⟩ = some (.int .i64 xk) ∧ w'.cell? ⟨g, a * 4 + 1, none⟩ = some (.string ⟨xs.toArray⟩) ∧ w'.cell? ⟨g, a * 4 + 2, none⟩ = some (.int .i64 xv) ∧ w'.cell? ⟨g, a * 4 + 3, none⟩ = some (.int .i64 xp)) (go_keep) (fail)
        go_wp2_with fail
        go_ret
        refine ⟨ret_bool HB.out.symm, ?_, ?_⟩
        · rw [HB.out]
          exact HC.out.keeps (kept_alloc_drew hR HC.out.blk) ((Keeps.refl _ _ _).alloc (Nat.le_refl _) _).drew HC.out.at'
        · exact ((Keeps.refl _ _ _).alloc (Nat.le_refl _) _).drew
    · have HB : Hid (b = false) := by unfold Hid; rw [HS.out]; simp [hk]
      have k1 : (xk != 4) = true := by simp [hk]
      clear HS hek hk
      go_enter Tryz.func41, Tryz.ntmps41
      go_wp2_with fail
      go_region_held3 (fun w' => w'.cell? ⟨R, 0, none⟩ = some (.slice (some ⟨g, 0, none⟩) P.length cap) ∧ w'.cell? ⟨R, 1, none⟩ = some (.int .i64 a) ∧ w'.cell? ⟨g, a * 4, none⟩ = some (.int .i64 xk) ∧ w'.cell? ⟨g, a * 4 + 1, none⟩ = some (.string ⟨xs.toArray⟩) ∧ w'.cell? ⟨g, a * 4 + 2, none⟩ = some (.int .i64 xv) ∧ w'.cell? ⟨g, a * 4 + 3, none⟩ = some (.int .i64 xp)) (go_keep) (fail)
      go_wp2_with fail
      go_ret
      refine ⟨ret_bool HB.out.symm, ?_, ?_⟩
      · rw [HB.out]
        exact HC.out.keeps (kept_alloc_drew hR HC.out.blk) ((Keeps.refl _ _ _).alloc (Nat.le_refl _) _).drew HC.out.at'
      · exact ((Keeps.refl _ _ _).alloc (Nat.le_refl _) _).drew
end Go.Proofs.YtnbpdffdnphbeaaGreat

/- What want, take, name and number of the reader do. -/
namespace Go.Proofs.YtnbpdffdnphbeaaGreat
open Go.RowKit
attribute [local go_sem ↓] Go.wp_at_zero Go.wp_at_succ

theorem skipB_f {P : List PT} {t : Bs} {a : Nat} {f : Bool} (h : skipB P t a f = true) : f = false := by
  unfold skipB at h; cases f
  · rfl
  · simp at h

theorem Ctx.fails {w w' : World} {R g cap : Nat} {P : List PT} {a : Nat} {f : Bool} (h : Ctx w R g cap P a f) (hw : w' = w.setCell ⟨R, 2, none⟩ (.bool true)) : Ctx w' R g cap P a true := by
  subst hw
  exact h.keeps (rd_fail h.blk) ((Keeps.refl _ _ _).setCell (p := ⟨R, 2, none⟩) (.inr rfl) _) h.at'

set_option maxHeartbeats 1000000 in
theorem want_rd (w : World) (R g cap : Nat) (P : List PT) (a : Nat) (f : Bool) (h : Ctx w R g cap P a f) (t : Bs) :
    Calls Tryz.prog 45 #[.pointer (some ⟨R, 0, none⟩), .string ⟨t.toArray⟩] w fun e w' => e = .returned (.tuple #[]) ∧ Ctx w' R g cap P (adv (skipB P t a f) a) (!skipB P t a f) ∧ Keeps w.heap.size R w w' := by
  have HS := hideP2 (skip_rd w R g cap P a f h t)
  have hsf := @skipB_f P t a f
  generalize skipB P t a f = b at *
  clear h
  cases b with
  | true =>
    have HF := hideP2 (hsf rfl)
    clear hsf
    go_enter Tryz.func45, Tryz.ntmps45
    go_wp2_with fail
    refine HS.out.mono ?_; rintro e w1 ⟨rfl, hc, hk⟩
    have HC := hideP2 hc
    have HK := hideP2 hk
    clear hc hk
    go_wp2_with fail
    go_end0
    have hc := HC.out
    rw [HF.out] at hc
    exact ⟨rfl, hc, HK.out⟩
  | false =>
    clear hsf
    go_enter Tryz.func45, Tryz.ntmps45
    go_wp2_with fail
    refine HS.out.mono ?_; rintro e w1 ⟨rfl, hc, hk⟩
    have c2 := hc.cells.2.2
    have hfz := hc.notFrozen 2
    have HC := hideP2 hc
    have HK := hideP2 hk
    clear hc hk
    go_wp2_with fail
    go_end0
    exact ⟨rfl, HC.out.fails rfl, HK.out.setCell (p := ⟨R, 2, none⟩) (.inr rfl) _⟩

def takeB (P : List PT) (kd : Int) (a : Nat) (f : Bool) : Bool := !f && decide ((cur P a).k = kd)
def tk (b : Bool) (x : PT) : PT := match b with | true => x | false => pz

theorem takeB_f {P : List PT} {kd : Int} {a : Nat} {f : Bool} (h : takeB P kd a f = true) : f = false := by
  unfold takeB at h; cases f
  · rfl
  · simp at h

def ptV (x : PT) : Value := .agg #[.int .i64 x.k, .string ⟨x.s.toArray⟩, .int .i64 x.v, .int .i64 x.p]

theorem keeps_set_alloc2 (w : World) (R o : Nat) (v : Value) (x y : Obj) : Keeps w.heap.size R w (((w.setCell ⟨R, o, none⟩ v).alloc x).alloc y).drew :=
  ((((Keeps.refl _ _ _).setCell (p := ⟨R, o, none⟩) (.inr rfl) v).alloc (by rw [size_setCell]; exact Nat.le_refl _) x).alloc (by simp) y).drew
theorem rd_fail_alloc2 {w : World} {R g cap a : Nat} {P : List PT} {f : Bool} (h : w.heap[R]? = some (rdObj g cap P a f)) (hR : R < w.heap.size) (x y : Obj) : (((w.setCell ⟨R, 2, none⟩ (.bool true)).alloc x).alloc y).drew.heap[R]? = some (rdObj g cap P a true) :=
  kept_alloc (w := (w.setCell ⟨R, 2, none⟩ (.bool true)).alloc x) (by simp; omega) (kept_alloc (w := w.setCell ⟨R, 2, none⟩ (.bool true)) (by rw [size_setCell]; exact hR) (rd_fail h))
theorem rd_adv_alloc2 {w : World} {R g cap a : Nat} {P : List PT} {f : Bool} (h : w.heap[R]? = some (rdObj g cap P a f)) (hR : R < w.heap.size) (x y : Obj) : (((w.setCell ⟨R, 1, none⟩ (.int .i64 ((a : Int) + 1))).alloc x).alloc y).drew.heap[R]? = some (rdObj g cap P (a + 1) f) :=
  kept_alloc (w := (w.setCell ⟨R, 1, none⟩ (.int .i64 ((a : Int) + 1))).alloc x) (by simp; omega) (kept_alloc (w := w.setCell ⟨R, 1, none⟩ (.int .i64 ((a : Int) + 1))) (by rw [size_setCell]; exact hR) (rd_adv h))

set_option maxHeartbeats 1000000 in
theorem take_rd (w : World) (R g cap : Nat) (P : List PT) (a : Nat) (f : Bool) (h : Ctx w R g cap P a f) (kd : Int) (hkd : kd ≠ 0) :
    Calls Tryz.prog 96 #[.pointer (some ⟨R, 0, none⟩), .int .i64 kd] w fun e w' => e = .returned (ptV (tk (takeB P kd a f) (cur P a))) ∧ Ctx w' R g cap P (adv (takeB P kd a f) a) (!takeB P kd a f) ∧ Keeps w.heap.size R w w' := by
  obtain ⟨c0, c1, c2⟩ := h.cells
  obtain ⟨t0, t1, t2, t3⟩ := h.tok a h.at'
  have i1 : (0 : Int) ≤ (a : Int) := by omega
  have i2 : (a : Int) < (P.length : Int) := by have := h.at'; omega
  have hm := h.many
  have hR := h.rlt
  have hg := h.glt
  have hfz := h.notFrozen
  have hek := h.endk a h.at'
  have n1 := World.new_ne w ⟨R, 0, none⟩ c0
  have n2 := World.new_ne w ⟨g, a * 4, none⟩ t0
  have HC := hideP2 h
  have HS : Hid (takeB P kd a f = (!f && decide ((cur P a).k = kd))) := rfl
  generalize cur P a = x at *
  obtain ⟨xk, xs, xv, xp⟩ := x
  simp only at t0 t1 t2 t3 HS hek
  generalize takeB P kd a f = b at *
  clear h
  cases f with
  | true =>
    have HB : Hid (b = false) := by unfold Hid; rw [HS.out]; rfl
    clear HS hek hkd
    go_enter Tryz.func96, Tryz.ntmps96
    go_wp2_with fail
    go_region_held3 (fun w' => w'.cell? ⟨R, 0, none⟩ = some (.slice (some ⟨g, 0, none⟩) P.length cap) ∧ w'.cell? ⟨R, 1, none⟩ = some (.int .i64 a) ∧ w'.cell? ⟨g, a * 4, none⟩ = some (.int .i64 xk) ∧ w'.cell? ⟨g, a * 4 + 1, none⟩ = some (.string ⟨xs.toArray⟩) ∧ w'.cell? ⟨g, a * 4 + 2, none⟩ = some (.int .i64 xv) ∧ w'.cell? ⟨g, a * 4 + 3, none⟩ = some (.int .i64 xp)) (go_keep) (fail)
    go_wp2_with fail
    refine bodyPost_ret (v := ptV pz) (by simp [results, Tryz.results96, go_sem, ptV, pz]) rfl ⟨by rw [HB.out]; rfl, ?_, keeps_set_alloc2 _ _ _ _ _ _⟩
    rw [HB.out]
    exact HC.out.keeps (rd_fail_alloc2 HC.out.blk hR _ _) (keeps_set_alloc2 _ _ _ _ _ _) (HC.out.at')
  | false =>
    by_cases hx : xk = kd
    · have HB : Hid (b = true) := by unfold Hid; rw [HS.out, hx]; simp
      have hek2 := hek (by rw [hx]; exact hkd)
      have e1 : (xk != kd) = false := by simp [hx]
      clear HS hek hkd hx
      go_enter Tryz.func96, Tryz.ntmps96
      go_wp2_with fail
      go_region_held3 (fun w' => w'.cell? ⟨R, 0, none⟩ = some (.slice (some ⟨g, 0, none⟩) P.length cap) ∧ w'.cell? ⟨R, 1, none⟩ = some (.int .i64 a) ∧ w'.cell? ⟨g, a * 4, none⟩ = some (.int .i64 xk) ∧ w'.cell? ⟨g, a * 4 + 1, none⟩ = some (.string ⟨xs.toArray⟩) ∧ w'.cell? ⟨g, a * 4 + 2, none⟩ = some (.int .i64 xv) ∧ w'.cell? ⟨g, a * 4 + 3, none⟩ = some (.int .i64 xp)) (go_keep) (fail)
      go_wp2_with fail
      refine bodyPost_ret (v := ptV ⟨xk, xs, xv, xp⟩) (by simp [results, Tryz.results96, go_sem, ptV]) rfl ⟨by rw [HB.out]; rfl, ?_, keeps_set_alloc2 _ _ _ _ _ _⟩
      rw [HB.out]
      exact HC.out.keeps (rd_adv_alloc2 HC.out.blk hR _ _) (keeps_set_alloc2 _ _ _ _ _ _) hek2
    · have HB : Hid (b = false) := by unfold Hid; rw [HS.out]; simp [hx]
      have e1 : (xk != kd) = true := by simp [hx]
      clear HS hek hkd hx
      go_enter Tryz.func96, Tryz.ntmps96
      go_wp2_with fail
      go_region_held3 (fun w' => w'.cell? ⟨R, 0, none⟩ = some (.slice (some ⟨g, 0, none⟩) P.length cap) ∧ w'.cell? ⟨R, 1, none⟩ = some (.int .i64 a) ∧ w'.cell? ⟨g, a * 4, none⟩ = some (.int .i64 xk) ∧ w'.cell? ⟨g, a * 4 + 1, none⟩ = some (.string ⟨xs.toArray⟩) ∧ w'.cell? ⟨g, a * 4 + 2, none⟩ = some (.int .i64 xv) ∧ w'.cell? ⟨g, a * 4 + 3, none⟩ = some (.int .i64 xp)) (go_keep) (fail)
      go_wp2_with fail
      refine bodyPost_ret (v := ptV pz) (by simp [results, Tryz.results96, go_sem, ptV, pz]) rfl ⟨by rw [HB.out]; rfl, ?_, keeps_set_alloc2 _ _ _ _ _ _⟩
      rw [HB.out]
      exact HC.out.keeps (rd_fail_alloc2 HC.out.blk hR _ _) (keeps_set_alloc2 _ _ _ _ _ _) (HC.out.at')

set_option maxHeartbeats 1000000 in
theorem name_rd (w : World) (R g cap : Nat) (P : List PT) (a : Nat) (f : Bool) (h : Ctx w R g cap P a f) :
    Calls Tryz.prog 75 #[.pointer (some ⟨R, 0, none⟩)] w fun e w' => e = .returned (.string ⟨(tk (takeB P 2 a f) (cur P a)).s.toArray⟩) ∧ Ctx w' R g cap P (adv (takeB P 2 a f) a) (!takeB P 2 a f) ∧ Keeps w.heap.size R w w' := by
  have HS := hideP2 (take_rd w R g cap P a f h 2 (by decide))
  generalize tk (takeB P 2 a f) (cur P a) = x at *
  obtain ⟨xk, xs, xv, xp⟩ := x
  simp only [ptV] at HS
  generalize takeB P 2 a f = b at *
  clear h
  have hfd : ∀ w : World, (Instr.field 86 (.agg #[.int .i64 xk, .string ⟨xs.toArray⟩, .int .i64 xv, .int .i64 xp]) 1).run Tryz.prog w = .ok (.string ⟨xs.toArray⟩) w := fun _ => by kernel_rfl
  go_enter Tryz.func75, Tryz.ntmps75
  go_wp2_with fail
  refine HS.out.mono ?_; rintro e w1 ⟨rfl, hc, hk⟩
  have HC := hideP2 hc
  have HK := hideP2 hk
  clear hc hk
  go_wp2_with fail
  go_ret
  exact ⟨rfl, HC.out, HK.out⟩

set_option maxHeartbeats 1000000 in
theorem number_rd (w : World) (R g cap : Nat) (P : List PT) (a : Nat) (f : Bool) (h : Ctx w R g cap P a f) :
    Calls Tryz.prog 76 #[.pointer (some ⟨R, 0, none⟩)] w fun e w' => e = .returned (.int .i64 (tk (takeB P 3 a f) (cur P a)).v) ∧ Ctx w' R g cap P (adv (takeB P 3 a f) a) (!takeB P 3 a f) ∧ Keeps w.heap.size R w w' := by
  have HS := hideP2 (take_rd w R g cap P a f h 3 (by decide))
  generalize tk (takeB P 3 a f) (cur P a) = x at *
  obtain ⟨xk, xs, xv, xp⟩ := x
  simp only [ptV] at HS
  generalize takeB P 3 a f = b at *
  clear h
  have hfd : ∀ w : World, (Instr.field 86 (.agg #[.int .i64 xk, .string ⟨xs.toArray⟩, .int .i64 xv, .int .i64 xp]) 2).run Tryz.prog w = .ok (.int .i64 xv) w := fun _ => by kernel_rfl
  go_enter Tryz.func76, Tryz.ntmps76
  go_wp2_with fail
  refine HS.out.mono ?_; rintro e w1 ⟨rfl, hc, hk⟩
  have HC := hideP2 hc
  have HK := hideP2 hk
  clear hc hk
  go_wp2_with fail
  go_ret
  exact ⟨rfl, HC.out, HK.out⟩
end Go.Proofs.YtnbpdffdnphbeaaGreat
