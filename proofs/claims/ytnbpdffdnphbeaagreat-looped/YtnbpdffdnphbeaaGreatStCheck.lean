/- What Check of the program gives of a text. -/
import Derived.Test.YtnbpdffdnphbeaaGreatCkAll
import Derived.Test.YtnbpdffdnphbeaaGreatWsum
import Derived.Test.YtnbpdffdnphbeaaGreatRkGraph
namespace Go.Proofs.YtnbpdffdnphbeaaGreat
open Go.RowKit

/-- The program's answer of a text. -/
def chkP (l : Bs) : Int × Int := if 4000 < l.length then (1, 0) else match (readB l).2.2 with | true => (2, ((cur (toP l) (readB l).2.1).p : Int)) | false => checkL (readB l).1

theorem lin_of {w : World} {B : Nat} {lv : Value} {ls : List LX} (h : LinesM w B lv ls) (hg : ∀ x ∈ ls, GoodP x.1) (hf : ls.length ≤ 10000) : ∃ a c, lv = .slice a ls.length c ∧ ls.length ≤ c ∧ LinV w a ls := by
  have hrows : ∀ x ∈ ls, LineC w x := fun x hx => by
    refine ⟨LineB.of_rows (h.2 x hx), hg x hx, ?_⟩
    rcases (h.2 x hx).2.2 with ⟨_, h2⟩ | ⟨_, cap, _, _, _, _, h4, h5, _, _⟩
    · rw [h2]; exact Nat.zero_le _
    · exact Nat.le_trans h4 h5
  rcases h.1.2 with ⟨h1, h2⟩ | ⟨gl, cap, cur, h1, _, h3, h4, _, _, h7⟩
  · exact ⟨none, 0, by rw [h1, h2], by omega, ⟨fun h0 => by omega, hrows, hf⟩⟩
  · exact ⟨_, cap, h1, h4, ⟨fun _ => ⟨gl, cur, rfl, h3, h7⟩, hrows, hf⟩⟩

set_option maxHeartbeats 1000000 in
theorem StCheck_err (l : Bs) (w : World) (k : Int) (hk : k = 1 ∨ k = 2) (p : Int) (hR : Calls Tryz.prog 17 #[.string ⟨l.toArray⟩] w fun e w' => e = .returned (readV (.slice none 0 0) k p) ∧ Below w.heap.size w w') :
    Calls Tryz.prog 12 #[.string ⟨l.toArray⟩] w fun e w' => e = .returned (.tuple #[.int .i64 k, .int .i64 p]) ∧ Below w.heap.size w w' := by
  have HR := hideP2 hR
  have e1 : (k != 0) = true := by rcases hk with rfl | rfl <;> rfl
  clear hR hk
  go_enter Tryz.func12, Tryz.ntmps12
  go_wp2_with fail
  refine HR.out.mono ?_
  rintro e w1 ⟨rfl, hb⟩
  have HB := hideP2 hb
  have hs := hb.size
  clear hb HR
  unfold readV
  go_wp2_with fail
  go_quiet (fail)
  go_wp2_with fail
  go_ret2
  exact ⟨rfl, below_drewN (HB.out.alloc hs _) _⟩

set_option maxHeartbeats 1000000 in
theorem StCheck_any (l : Bs) (w : World) (hmax : l.length ≤ maxLen) (hg : l.length ≤ 4000 → (readB l).2.2 = false → ∀ x ∈ (readB l).1, GoodP x) (hm : l.length ≤ 4000 → (readB l).1.length ≤ 10000) :
    Calls Tryz.prog 12 #[.string ⟨l.toArray⟩] w fun e w' => e = .returned (.tuple #[.int .i64 (chkP l).1, .int .i64 (chkP l).2]) ∧ Below w.heap.size w w' := by
  by_cases hl : 4000 < l.length
  · have e : chkP l = (1, 0) := by unfold chkP; rw [if_pos hl]
    rw [e]
    exact StCheck_err l w 1 (.inl rfl) 0 (BookRead_long l w hmax hl)
  · have hR := BookRead_any l w (by omega)
    have hg := hg (by omega)
    have hm := hm (by omega)
    cases hf : (readB l).2.2
    · have e : chkP l = checkL (readB l).1 := by unfold chkP; rw [if_neg hl, hf]
      rw [e]
      have hg := hg hf
      have HR := hideP2 hR
      have HRI : Hid (∀ w' e, ReadIs w w' l e → ∃ lv ls, e = .returned (readV lv 0 0) ∧ ls.map Prod.fst = (readB l).1 ∧ LinesM w' w.heap.size lv ls) := by
        intro w' e h; unfold ReadIs at h; rw [hf] at h; exact h
      generalize (readB l).1 = F at *
      have HG := hideP2 hg
      have HMn := hideP2 hm
      clear hR hg hm hf e
      generalize hck : checkL F = ck at *
      have HCk := hideP2 hck
      clear hck
      obtain ⟨ck1, ck2⟩ := ck
      go_enter Tryz.func12, Tryz.ntmps12
      go_wp2_with fail
      refine HR.out.mono ?_
      rintro e w1 ⟨hri, hb⟩
      obtain ⟨lv, ls, rfl, hmap, hlin⟩ := HRI.out _ _ hri
      have HB := hideP2 hb
      have hs := hb.size
      have hLn : ls.length ≤ 10000 := by have h9 := congrArg List.length hmap; rw [List.length_map] at h9; rw [h9]; exact HMn.out
      obtain ⟨la, lc, rfl, hlc, hlv⟩ := lin_of hlin (fun x hx => HG.out _ (by rw [← hmap]; exact List.mem_map.2 ⟨x, hx, rfl⟩)) hLn
      have HCl : Hid (∀ o, Calls Tryz.prog 18 #[.slice la ls.length lc] (w1.alloc o) fun e w' => e = .returned (faultV (ck1, ck2)) ∧ Below (w1.alloc o).heap.size (w1.alloc o) w') := fun o => by
        have := Lines_s (w1.alloc o) la lc ls hlc (hlv.below ((Below.refl _ _).alloc (Nat.le_refl _) o) (Nat.le_refl _))
        rw [show fs ls = F from hmap, HCk.out] at this
        exact this
      clear hb hri hlin hlv hmap HR HRI HG HMn HCk
      unfold readV
      go_wp2_with fail
      refine (HCl.out _).mono ?_
      rintro e w2 ⟨rfl, hb2⟩
      have HB2 : Hid (Below w.heap.size w w2) := (HB.out.alloc hs _).trans (hb2.mono (by simp; omega))
      have hs2 := HB2.out.size
      clear hb2 HCl
      unfold faultV
      go_wp2_with fail
      go_quiet (fail)
      go_wp2_with fail
      go_ret2
      exact ⟨rfl, below_drewN (HB2.out.alloc hs2 _) _⟩
    · have e : chkP l = (2, ((cur (toP l) (readB l).2.1).p : Int)) := by unfold chkP; rw [if_neg hl, hf]
      rw [e]
      refine StCheck_err l w 2 (.inr rfl) _ (hR.mono ?_)
      rintro e w' ⟨h1, h2⟩
      unfold ReadIs at h1
      rw [hf] at h1
      exact ⟨h1, h2⟩
end Go.Proofs.YtnbpdffdnphbeaaGreat

/- What Ring of the program gives of a text. -/
namespace Go.Proofs.YtnbpdffdnphbeaaGreat
open Go.RowKit

/-- The program's error of a text, and its ring. -/
def ringE (l : Bs) : Int := if (chkP l).1 = 0 then 9 else if (chkP l).1 = 7 then 0 else (chkP l).1
def ringA (l : Bs) : List Bs := if (chkP l).1 = 7 then ringL (readB l).1 else []

theorem ret_vi {v : Value} {a b : Int} (h : a = b) : Ending.returned (.tuple #[v, .int .i64 a]) = .returned (.tuple #[v, .int .i64 b]) := by rw [h]
theorem own_nilS (w : World) (B : Nat) : w.ownsRow B 9 1 (.slice none 0 0) 0 [] := ⟨rfl, .inl ⟨rfl, rfl⟩⟩

set_option maxHeartbeats 1000000 in
theorem StRing_err (l : Bs) (w : World) (k : Int) (hk : k = 1 ∨ k = 2) (p : Int) (hR : Calls Tryz.prog 17 #[.string ⟨l.toArray⟩] w fun e w' => e = .returned (readV (.slice none 0 0) k p) ∧ Below w.heap.size w w') :
    Calls Tryz.prog 14 #[.string ⟨l.toArray⟩] w fun e w' => e = .returned (.tuple #[.slice none 0 0, .int .i64 k]) ∧ Below w.heap.size w w' := by
  have HR := hideP2 hR
  have e1 : (k != 0) = true := by rcases hk with rfl | rfl <;> rfl
  clear hR hk
  go_enter Tryz.func14, Tryz.ntmps14
  go_wp2_with fail
  refine HR.out.mono ?_
  rintro e w1 ⟨rfl, hb⟩
  have HB := hideP2 hb
  have hs := hb.size
  clear hb HR
  unfold readV
  go_wp2_with fail
  go_quiet (fail)
  go_wp2_with fail
  go_ret2
  exact ⟨rfl, below_drewN (HB.out.alloc hs _) _⟩

set_option maxHeartbeats 2000000 in
theorem StRing_any (l : Bs) (w : World) (hmax : l.length ≤ maxLen) (hg : l.length ≤ 4000 → (readB l).2.2 = false → ∀ x ∈ (readB l).1, GoodP x) (hm : l.length ≤ 4000 → (readB l).1.length ≤ 10000) :
    Calls Tryz.prog 14 #[.string ⟨l.toArray⟩] w fun e w' => ∃ v, e = .returned (.tuple #[v, .int .i64 (ringE l)]) ∧ w'.ownsRow w.heap.size 9 1 v (ringA l).length (strC (ringA l)) ∧ Below w.heap.size w w' := by
  by_cases hl : 4000 < l.length
  · have e : chkP l = (1, 0) := by unfold chkP; rw [if_pos hl]
    have e1 : ringE l = 1 := by unfold ringE; rw [e]; rfl
    have e2 : ringA l = [] := by unfold ringA; rw [e]; rfl
    rw [e1, e2]
    refine (StRing_err l w 1 (.inl rfl) 0 (BookRead_long l w hmax hl)).mono ?_
    rintro e w' ⟨h1, h2⟩
    exact ⟨_, h1, own_nilS _ _, h2⟩
  · have hR := BookRead_any l w (by omega)
    have hg := hg (by omega)
    have hm := hm (by omega)
    cases hf : (readB l).2.2
    · have e : chkP l = checkL (readB l).1 := by unfold chkP; rw [if_neg hl, hf]
      have HE1 : Hid (ringE l = if (checkL (readB l).1).1 = 0 then 9 else if (checkL (readB l).1).1 = 7 then 0 else (checkL (readB l).1).1) := by unfold Hid ringE; rw [e]
      have HE2 : Hid (ringA l = if (checkL (readB l).1).1 = 7 then ringL (readB l).1 else []) := by unfold Hid ringA; rw [e]
      have hg := hg hf
      have HR := hideP2 hR
      have HRI : Hid (∀ w' e, ReadIs w w' l e → ∃ lv ls, e = .returned (readV lv 0 0) ∧ ls.map Prod.fst = (readB l).1 ∧ LinesM w' w.heap.size lv ls) := by
        intro w' e h; unfold ReadIs at h; rw [hf] at h; exact h
      generalize ringE l = ansE at *
      generalize ringA l = ansA at *
      generalize (readB l).1 = F at *
      have HG := hideP2 hg
      have HMn := hideP2 hm
      clear hR hg hm hf e
      generalize hck : checkL F = ck at *
      have HCk := hideP2 hck
      clear hck
      obtain ⟨ck1, ck2⟩ := ck
      obtain ⟨rl, hrl⟩ : ∃ rl, rl = ringL F := ⟨_, rfl⟩
      have HRl := hideP2 hrl
      rw [← hrl] at HE2
      clear hrl
      go_enter Tryz.func14, Tryz.ntmps14
      go_wp2_with fail
      refine HR.out.mono ?_
      rintro e w1 ⟨hri, hb⟩
      obtain ⟨lv, ls, rfl, hmap, hlin⟩ := HRI.out _ _ hri
      have HB := hideP2 hb
      have hs := hb.size
      have hLn : ls.length ≤ 10000 := by have h9 := congrArg List.length hmap; rw [List.length_map] at h9; rw [h9]; exact HMn.out
      obtain ⟨la, lc, rfl, hlc, hlv⟩ := lin_of hlin (fun x hx => HG.out _ (by rw [← hmap]; exact List.mem_map.2 ⟨x, hx, rfl⟩)) hLn
      have HCl : Hid (∀ o, Calls Tryz.prog 18 #[.slice la ls.length lc] (w1.alloc o) fun e w' => e = .returned (faultV (ck1, ck2)) ∧ Below (w1.alloc o).heap.size (w1.alloc o) w') := fun o => by
        have := Lines_s (w1.alloc o) la lc ls hlc (hlv.below ((Below.refl _ _).alloc (Nat.le_refl _) o) (Nat.le_refl _))
        rw [show fs ls = F from hmap, HCk.out] at this
        exact this
      have HRg : Hid (∀ w', Below w1.heap.size w1 w' → Calls Tryz.prog 21 #[.slice la ls.length lc] w' fun e w'' => ∃ v, e = .returned v ∧ w''.ownsRow w'.heap.size 9 1 v rl.length (strC rl) ∧ Below w'.heap.size w' w'') := fun w' hb => by
        have := LRing_s w' la lc ls (hlv.below hb (Nat.le_refl _))
        rw [show fs ls = F from hmap, ← HRl.out] at this
        exact this
      clear hb hri hlin hlv hmap HR HRI HG HMn HCk HRl
      unfold readV
      go_wp2_with fail
      refine (HCl.out _).mono ?_
      rintro e w2 ⟨rfl, hb2⟩
      have HBr : Hid (∀ o, Below w1.heap.size w1 ((w2.alloc o))) := fun o => by
        have h1 := ((Below.refl w1.heap.size w1).alloc (Nat.le_refl _) _).trans (hb2.mono (by simp))
        exact h1.alloc h1.size o
      have q2 : w2.cell? ⟨w1.heap.size, 0, none⟩ = some (.slice la ls.length lc) := by
        rw [hb2.cell (p := ⟨w1.heap.size, 0, none⟩) (lt_end _ _)]; exact (cell_row (hb_end _ _) 0).trans rfl
      have hlt2 : w1.heap.size < w2.heap.size := Nat.lt_of_lt_of_le (lt_end _ _) hb2.size
      have HB2 : Hid (Below w.heap.size w w2) := (HB.out.alloc hs _).trans (hb2.mono (by simp; omega))
      have hs2 := HB2.out.size
      clear HCl hb2
      unfold faultV
      by_cases k0 : ck1 = 0
      · subst k0
        have A1 : Hid (ansE = 9) := by have := HE1.out; rw [if_pos rfl] at this; exact this
        have A2 : Hid (ansA = []) := by have := HE2.out; rw [if_neg (by decide)] at this; exact this
        clear HE1 HE2
        go_wp2_with fail
        go_ret2
        refine ⟨_, ret_vi A1.out.symm, ?_, HB2.out.alloc hs2 _⟩
        rw [A2.out]; exact own_nilS _ _
      · have b0 : (ck1 == 0) = false := by simpa using k0
        by_cases k7 : ck1 = 7
        · subst k7
          have A1 : Hid (ansE = 0) := by have := HE1.out; rw [if_neg (by decide), if_pos rfl] at this; exact this
          have A2 : Hid (ansA = rl) := by have := HE2.out; rw [if_pos rfl] at this; exact this
          clear HE1 HE2 k0 b0
          go_wp2_with fail
          refine (HRg.out _ (HBr.out _)).mono ?_
          rintro e w3 ⟨v3, rfl, hown3, hb3⟩
          have HB3 : Hid (Below w.heap.size w w3) := (HB2.out.alloc hs2 _).trans (hb3.mono (by simp; omega))
          have HO3 := hideP2 (owns_base2 (b' := w.heap.size) hown3 (by simp; omega))
          clear hb3 hown3
          go_wp2_with fail
          go_ret2
          refine ⟨_, ret_vi A1.out.symm, ?_, HB3.out⟩
          rw [A2.out]; exact HO3.out
        · have A1 : Hid (ansE = ck1) := by have := HE1.out; rw [if_neg k0, if_neg k7] at this; exact this
          have A2 : Hid (ansA = []) := by have := HE2.out; rw [if_neg k7] at this; exact this
          have b7 : (ck1 != 7) = true := by simpa using k7
          clear HE1 HE2 k0 k7
          go_wp2_with fail
          go_quiet (fail)
          go_wp2_with fail
          go_ret2
          refine ⟨_, ret_vi A1.out.symm, ?_, below_drewN (HB2.out.alloc hs2 _) _⟩
          rw [A2.out]; exact own_nilS _ _
    · have e : chkP l = (2, ((cur (toP l) (readB l).2.1).p : Int)) := by unfold chkP; rw [if_neg hl, hf]
      have e1 : ringE l = 2 := by unfold ringE; rw [e]; rfl
      have e2 : ringA l = [] := by unfold ringA; rw [e]; rfl
      rw [e1, e2]
      refine (StRing_err l w 2 (.inr rfl) ((cur (toP l) (readB l).2.1).p : Int) (hR.mono ?_)).mono ?_
      · rintro e w' ⟨h1, h2⟩
        unfold ReadIs at h1
        rw [hf] at h1
        exact ⟨h1, h2⟩
      · rintro e w' ⟨h1, h2⟩
        exact ⟨_, h1, own_nilS _ _, h2⟩
end Go.Proofs.YtnbpdffdnphbeaaGreat
