/- What Check of the program gives of a text. -/
import Derived.Test.YtnbpdffdnphbeaaGreatDoorCkErr2
import Derived.Test.YtnbpdffdnphbeaaGreatDoorWsum
namespace Go.Proofs.YtnbpdffdnphbeaaGreatDoor
open Go.RowKit

/-- The program's answer of a text. -/
def chkP (l : Bs) : Int × Int := if 4000 < l.length then (1, 0) else match (readB l).2.2 with | true => (2, ((cur (toP l) (readB l).2.1).p : Int)) | false => checkL (readB l).1

theorem lin_of {w : World} {B : Nat} {lv : Value} {ls : List LX} (h : LinesM w B lv ls) (hg : ∀ x ∈ ls, GoodP x.1) (hf : ls.length ≤ 10000) : ∃ a c, lv = .slice a ls.length c ∧ ls.length ≤ c ∧ LinV w a ls := by
  have hrows : ∀ x ∈ ls, LineC w x := fun x hx => by
    refine ⟨LineB.of_rows (h.2 x hx), hg x hx, ?_⟩
    rcases (h.2 x hx).2.2 with ⟨_, h2⟩ | ⟨_, cap, _, _, _, _, h4, h5, _, _⟩
    · rw [h2]; exact Nat.zero_le _
    · exact Nat.le_trans h4 h5
  rcases h.1.2 with ⟨h1, h2⟩ | ⟨gl, cap, cur, h1, _, h3, h4, _, _, h7⟩
  · exact ⟨none, 0, by rw [h1, h2], by omega, ⟨fun h0 => by omega, hrows, hf⟩⟩
  · exact ⟨_, cap, h1, h4, ⟨fun _ => ⟨gl, cur, rfl, h3, h7⟩, hrows, hf⟩⟩

set_option maxHeartbeats 1000000 in
theorem StCheck_err (l : Bs) (w : World) (k : Int) (hk : k = 1 ∨ k = 2) (p : Int) (hR : Calls Tryz.prog 60 #[.string ⟨l.toArray⟩] w fun e w' => e = .returned (readV (.slice none 0 0) k p) ∧ Below w.heap.size w w') :
    Calls Tryz.prog 25 #[.string ⟨l.toArray⟩] w fun e w' => e = .returned (.tuple #[.int .i64 k, .int .i64 p]) ∧ Below w.heap.size w w' := by
  have HR := hideP2 hR
  have e1 : (k != 0) = true := by rcases hk with rfl | rfl <;> rfl
  clear hR hk
  go_enter Tryz.func25, Tryz.ntmps25
  go_wp2_with fail
  refine HR.out.mono ?_
  rintro e w1 ⟨rfl, hb⟩
  have HB := hideP2 hb
  have hs := hb.size
  clear hb HR
  unfold readV
  go_wp2_with fail
  go_quiet (fail)
  go_wp2_with fail
  go_ret2
  exact ⟨rfl, below_drewN (HB.out.alloc hs _) _⟩

set_option maxHeartbeats 1000000 in
theorem StCheck_any (l : Bs) (w : World) (hmax : l.length ≤ maxLen) (hg : l.length ≤ 4000 → (readB l).2.2 = false → ∀ x ∈ (readB l).1, GoodP x) (hm : l.length ≤ 4000 → (readB l).1.length ≤ 10000) :
    Calls Tryz.prog 25 #[.string ⟨l.toArray⟩] w fun e w' => e = .returned (.tuple #[.int .i64 (chkP l).1, .int .i64 (chkP l).2]) ∧ Below w.heap.size w w' := by
  by_cases hl : 4000 < l.length
  · have e : chkP l = (1, 0) := by unfold chkP; rw [if_pos hl]
    rw [e]
    exact StCheck_err l w 1 (.inl rfl) 0 (BookRead_long l w hmax hl)
  · have hR := BookRead_any l w (by omega)
    have hg := hg (by omega)
    have hm := hm (by omega)
    cases hf : (readB l).2.2
    · have e : chkP l = checkL (readB l).1 := by unfold chkP; rw [if_neg hl, hf]
      rw [e]
      have hg := hg hf
      have HR := hideP2 hR
      have HRI : Hid (∀ w' e, ReadIs w w' l e → ∃ lv ls, e = .returned (readV lv 0 0) ∧ ls.map Prod.fst = (readB l).1 ∧ LinesM w' w.heap.size lv ls) := by
        intro w' e h; unfold ReadIs at h; rw [hf] at h; exact h
      generalize (readB l).1 = F at *
      have HG := hideP2 hg
      have HMn := hideP2 hm
      clear hR hg hm hf e
      generalize hck : checkL F = ck at *
      have HCk := hideP2 hck
      clear hck
      obtain ⟨ck1, ck2⟩ := ck
      go_enter Tryz.func25, Tryz.ntmps25
      go_wp2_with fail
      refine HR.out.mono ?_
      rintro e w1 ⟨hri, hb⟩
      obtain ⟨lv, ls, rfl, hmap, hlin⟩ := HRI.out _ _ hri
      have HB := hideP2 hb
      have hs := hb.size
      have hLn : ls.length ≤ 10000 := by have h9 := congrArg List.length hmap; rw [List.length_map] at h9; rw [h9]; exact HMn.out
      obtain ⟨la, lc, rfl, hlc, hlv⟩ := lin_of hlin (fun x hx => HG.out _ (by rw [← hmap]; exact List.mem_map.2 ⟨x, hx, rfl⟩)) hLn
      have HCl : Hid (∀ o, Calls Tryz.prog 62 #[.slice la ls.length lc] (w1.alloc o) fun e w' => e = .returned (faultV (ck1, ck2)) ∧ Below (w1.alloc o).heap.size (w1.alloc o) w') := fun o => by
        have := Lines_s (w1.alloc o) la lc ls hlc (hlv.below ((Below.refl _ _).alloc (Nat.le_refl _) o) (Nat.le_refl _))
        rw [show fs ls = F from hmap, HCk.out] at this
        exact this
      clear hb hri hlin hlv hmap HR HRI HG HMn HCk
      unfold readV
      go_wp2_with fail
      refine (HCl.out _).mono ?_
      rintro e w2 ⟨rfl, hb2⟩
      have HB2 : Hid (Below w.heap.size w w2) := (HB.out.alloc hs _).trans (hb2.mono (by simp; omega))
      have hs2 := HB2.out.size
      clear hb2 HCl
      unfold faultV
      go_wp2_with fail
      go_quiet (fail)
      go_wp2_with fail
      go_ret2
      exact ⟨rfl, below_drewN (HB2.out.alloc hs2 _) _⟩
    · have e : chkP l = (2, ((cur (toP l) (readB l).2.1).p : Int)) := by unfold chkP; rw [if_neg hl, hf]
      rw [e]
      refine StCheck_err l w 2 (.inr rfl) _ (hR.mono ?_)
      rintro e w' ⟨h1, h2⟩
      unfold ReadIs at h1
      rw [hf] at h1
      exact ⟨h1, h2⟩
end Go.Proofs.YtnbpdffdnphbeaaGreatDoor
