/- What guard of the reader gives: a guard, its nodes in a row of its own. -/
import Derived.Test.YtnbpdffdnphbeaaDoorFact
namespace Go.Proofs.YtnbpdffdnphbeaaDoor
open Go.RowKit

def pGuard (P : List PT) (s : St) : Int × GS := pAlt P P.length ⟨s, [], 0, 0⟩ 0

def guardV (nv : Value) (y : Int × GS) : Value := .agg #[nv, .int .i64 y.1, .int .i64 y.2.tests, .int .i64 y.2.dep]

theorem owns_base2 {w : World} {b b' : Nat} {e : TypeId} {size : Nat} {v : Value} {n : Nat} {xs : List Value} (h : w.ownsRow b e size v n xs) (hb : b' ≤ b) : w.ownsRow b' e size v n xs := by
  refine ⟨h.1, ?_⟩
  rcases h.2 with h1 | ⟨g, cap, cur, h1, h2, r⟩
  · exact .inl h1
  · exact .inr ⟨g, cap, cur, h1, Nat.le_trans hb h2, r⟩

set_option maxHeartbeats 1000000 in
theorem guard_s (w : World) (R g cap : Nat) (P : List PT) (s : St) (h : CtxS w R g cap P s) :
    Calls Tryd.prog 91 #[.pointer (some ⟨R, 0, none⟩)] w fun e w' => ∃ nv, e = .returned (guardV nv (pGuard P s)) ∧ w'.ownsRow w.heap.size 109 7 nv (pGuard P s).2.nd.length (flatN (pGuard P s).2.nd) ∧ CtxS w' R g cap P (pGuard P s).2.s ∧ Keeps w.heap.size R w w' := by
  have hR := h.rlt
  have hg := h.glt
  have hmany := h.many
  have hat := h.at'
  have HC := hideP2 h
  have HAlt := hideP2 (alt_all R g cap P (w.heap.size + 1) 0 P.length)
  have n0 : w.heap.size ≠ R := by omega
  have n1 : w.heap.size + 1 ≠ R := by omega
  have HF : Hid (pGuard P s = pAlt P P.length ⟨s, [], 0, 0⟩ 0) := rfl
  generalize pGuard P s = F at *
  clear h
  go_enter Tryd.func91, Tryd.ntmps91
  go_wp2_with fail
  have hgd : Gd ((w.alloc (.cells #[.slice none 0 0, .int .i64 0, .int .i64 0, .int .i64 0] 67)).alloc (.cells #[.slice none 0 0, .int .i64 0, .int .i64 0, .int .i64 0] 67)) (w.heap.size + 1) [] 0 0 0 :=
    ⟨.slice none 0 0, by
      have h1 := hb_end (w.alloc (.cells #[.slice none 0 0, .int .i64 0, .int .i64 0, .int .i64 0] 67)) (.cells #[.slice none 0 0, .int .i64 0, .int .i64 0, .int .i64 0] 67)
      rw [show (w.alloc (.cells #[.slice none 0 0, .int .i64 0, .int .i64 0, .int .i64 0] 67)).heap.size = w.heap.size + 1 by simp] at h1
      exact h1, World.ownsRow_nil _ _ _ _⟩
  refine (HAlt.out _ ⟨s, [], 0, 0⟩ 0 ⟨Ctx.alloc (Ctx.alloc HC.out _) _, hgd, by omega, by omega⟩ ⟨Int.le_refl 0, Int.le_refl 0, by show 0 + 2 * (P.length - s.1) ≤ 9000; omega, by decide, by omega⟩ (by omega)).mono ?_
  rintro e w1 ⟨rfl, hi1, hk1, _⟩
  rw [← HF.out]
  rw [← HF.out] at hi1
  have HT1 : Hid (Keeps w.heap.size R w w1) := Keeps.trans (Keeps.new (Keeps.new (Keeps.refl _ _ _))) (hk1.mono (by omega))
  have q0 := fun o => hk1.cell (p := ⟨w.heap.size, o, none⟩) (by simp) n0
  have r0 := fun o => hk1.frozen (p := ⟨w.heap.size, o, none⟩) (by simp) n0
  obtain ⟨hc1, ⟨nv, hgb, hown⟩, _, _⟩ := hi1
  unfold gdObj at hgb
  have cz := fun j => cell_of_row _ _ j _ _ _ hgb
  have fz : ∀ o, w1.frozen? ⟨w.heap.size + 1, o, none⟩ = false := fun o => by simp [World.frozen?, hgb]
  have HC1 := hideP2 hc1
  have HO1 := hideP2 hown
  have m0 : w.heap.size ≠ g := by omega
  have m1 : w.heap.size + 1 ≠ g := by omega
  have hform : nv = .slice none 0 0 ∨ ∃ gg n c, nv = .slice (some ⟨gg, 0, none⟩) n c := by
    rcases hown.2 with ⟨h1, _⟩ | ⟨gg, c, _, h1, _⟩
    · exact .inl h1
    · exact .inr ⟨gg, _, c, h1⟩
  clear hgd hk1 hgb hown hc1 HAlt
  rcases hform with rfl | ⟨gg, gn, gc, rfl⟩
  · go_wp2_with fail
    refine bodyPost_ret (v := guardV (.slice none 0 0) F) (by simp (maxDischargeDepth := 8) [results, Tryd.results91, go_sem, guardV, q0]) rfl ⟨_, rfl, ?_, ?_, ?_⟩
    · exact owns_base2 (owns_set (owns_set (owns_set (owns_set (owns_set HO1.out (by omega)) (by omega)) (by omega)) (by omega)) (by omega)) (by omega)
    · exact (by repeat (with_reducible first | exact HC1.out | refine Ctx.set ?_ (by first | exact n0 | exact n1) (by first | exact m0 | exact m1)))
    · exact (by repeat (with_reducible first | exact HT1.out | refine Keeps.set ?_ (by first | exact Nat.le_refl _ | exact Nat.le_add_right _ _)))
  · go_wp2_with fail
    refine bodyPost_ret (v := guardV (.slice (some ⟨gg, 0, none⟩) gn gc) F) (by simp (maxDischargeDepth := 8) [results, Tryd.results91, go_sem, guardV, q0]) rfl ⟨_, rfl, ?_, ?_, ?_⟩
    · exact owns_base2 (owns_set (owns_set (owns_set (owns_set (owns_set HO1.out (by omega)) (by omega)) (by omega)) (by omega)) (by omega)) (by omega)
    · exact (by repeat (with_reducible first | exact HC1.out | refine Ctx.set ?_ (by first | exact n0 | exact n1) (by first | exact m0 | exact m1)))
    · exact (by repeat (with_reducible first | exact HT1.out | refine Keeps.set ?_ (by first | exact Nat.le_refl _ | exact Nat.le_add_right _ _)))
end Go.Proofs.YtnbpdffdnphbeaaDoor
