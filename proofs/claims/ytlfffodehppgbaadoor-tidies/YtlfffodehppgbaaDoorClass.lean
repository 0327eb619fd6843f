/- What class of the document's answer gives of a token: its class. -/
import Derived.Test.YtlfffodehppgbaaDoorLong
namespace Go.Proofs.YtlfffodehppgbaaDoor
open Go.RowKit

theorem ret_str {a b : Bs} (h : a = b) : Ending.returned (.string ⟨a.toArray⟩) = .returned (.string ⟨b.toArray⟩) := by rw [h]

theorem head_eq {l : Bs} {c : UInt8} (h : l.getD 0 0 = c) : ∀ h : 0 < l.length, (((l[0]'h).toNat : Int)) = (c.toNat : Int) := by
  intro h0; rw [← h]; simp [List.getD, h0]

set_option maxHeartbeats 400000 in
theorem class_any (l : Bs) (w : World) (h0 : 0 < l.length) (hl : l.length ≤ 4000) :
    Calls Tryd.prog 63 #[.string ⟨l.toArray⟩] w fun e w' => e = .returned (.string ⟨(clsB l).toArray⟩) ∧ w' = w := by
  obtain ⟨k, hk⟩ : ∃ k, so (l.getD 0 0) = k := ⟨_, rfl⟩
  have HK : Hid (∀ h : 0 < l.length, sortI ((l[0]'h).toNat : Int) = k) := head_so hk
  by_cases h1 : k = 1
  · subst h1
    by_cases h8 : 8 < l.length
    · have HF : Hid (clsB l = badB) := by unfold Hid clsB; rw [if_pos hk, if_pos h8]
      clear hk
      go_enter Tryd.func63, Tryd.ntmps63
      go_wp2_with (go_at_call 62; refine (sort_is _ 1 (HK.out h0) _).mono ?_; rintro e w' ⟨rfl, rfl⟩)
      go_ret; exact ⟨ret_str (by rw [HF.out]; rfl), rfl⟩
    · cases ha : amongB keptWords l
      · have HF : Hid (clsB l = nameB) := by unfold Hid clsB; rw [if_pos hk, if_neg h8, if_neg (by simp [ha])]
        have HA : Hid (amongB keptWords l = false) := ha
        clear hk ha
        go_enter Tryd.func63, Tryd.ntmps63
        go_wp2_with (first
          | (go_at_call 62; refine (sort_is _ 1 (HK.out h0) _).mono ?_; rintro e w' ⟨rfl, rfl⟩)
          | (go_at_call 87; refine (among_is keptWords l false HA.out _ (by decide)).mono ?_; rintro e w' ⟨rfl, rfl⟩))
        go_ret; exact ⟨ret_str (by rw [HF.out]; rfl), rfl⟩
      · have HF : Hid (clsB l = l) := by unfold Hid clsB; rw [if_pos hk, if_neg h8, if_pos ha]
        have HA : Hid (amongB keptWords l = true) := ha
        clear hk ha
        go_enter Tryd.func63, Tryd.ntmps63
        go_wp2_with (first
          | (go_at_call 62; refine (sort_is _ 1 (HK.out h0) _).mono ?_; rintro e w' ⟨rfl, rfl⟩)
          | (go_at_call 87; refine (among_is keptWords l true HA.out _ (by decide)).mono ?_; rintro e w' ⟨rfl, rfl⟩))
        go_ret; exact ⟨ret_str (by rw [HF.out]), rfl⟩
  · have h1' : (k == 1) = false := by simp [h1]
    by_cases h2 : k = 2
    · subst h2
      by_cases h4 : 4 < l.length
      · have HF : Hid (clsB l = badB) := by unfold Hid clsB; rw [if_neg (by rw [hk]; decide), if_pos hk, if_pos (.inl h4)]
        clear hk
        go_enter Tryd.func63, Tryd.ntmps63
        go_wp2_with (go_at_call 62; refine (sort_is _ 2 (HK.out h0) _).mono ?_; rintro e w' ⟨rfl, rfl⟩)
        go_ret; exact ⟨ret_str (by rw [HF.out]; rfl), rfl⟩
      · by_cases h5 : 1 < l.length
        · by_cases h6 : l.getD 0 0 = 48
          · have HF : Hid (clsB l = badB) := by unfold Hid clsB; rw [if_neg (by rw [hk]; decide), if_pos hk, if_pos (.inr ⟨h5, h6⟩)]
            have h7 : ∀ h, (((ByteArray.mk l.toArray)[0]'h).toNat : Int) = 48 := by intro h; rw [idx_int, h6]; rfl
            clear hk
            go_enter Tryd.func63, Tryd.ntmps63
            go_wp2_with (go_at_call 62; refine (sort_is _ 2 (by first | exact HK.out h0 | (have e1 := HK.out h0; rw [head_eq h6 h0] at e1; exact e1)) _).mono ?_; rintro e w' ⟨rfl, rfl⟩)
            go_ret; exact ⟨ret_str (by rw [HF.out]; rfl), rfl⟩
          · have HF : Hid (clsB l = numberB) := by unfold Hid clsB; rw [if_neg (by rw [hk]; decide), if_pos hk, if_neg (by intro hh; rcases hh with hh | hh; exact h4 hh; exact h6 hh.2)]
            have h7 : ∀ h, ((((ByteArray.mk l.toArray)[0]'h).toNat : Int) == 48) = false := by
              intro h; rw [Bool.eq_false_iff]; intro hh; apply h6; rw [idx_int] at hh; exact (byte_eq _ 48).1 hh
            clear hk
            go_enter Tryd.func63, Tryd.ntmps63
            go_wp2_with (go_at_call 62; refine (sort_is _ 2 (HK.out h0) _).mono ?_; rintro e w' ⟨rfl, rfl⟩)
            go_ret; exact ⟨ret_str (by rw [HF.out]; rfl), rfl⟩
        · have HF : Hid (clsB l = numberB) := by unfold Hid clsB; rw [if_neg (by rw [hk]; decide), if_pos hk, if_neg (by omega)]
          clear hk
          go_enter Tryd.func63, Tryd.ntmps63
          go_wp2_with (go_at_call 62; refine (sort_is _ 2 (HK.out h0) _).mono ?_; rintro e w' ⟨rfl, rfl⟩)
          go_ret; exact ⟨ret_str (by rw [HF.out]; rfl), rfl⟩
    · have h2' : (k == 2) = false := by simp [h2]
      cases ha : amongB allMarks l
      · have HF : Hid (clsB l = badB) := by unfold Hid clsB; rw [if_neg (by rw [hk]; exact h1), if_neg (by rw [hk]; exact h2), if_neg (by simp [ha])]
        have HA : Hid (amongB allMarks l = false) := ha
        clear hk ha h1 h2
        go_enter Tryd.func63, Tryd.ntmps63
        go_wp2_with (first
          | (go_at_call 62; refine (sort_is _ k (HK.out h0) _).mono ?_; rintro e w' ⟨rfl, rfl⟩)
          | (go_at_call 87; refine (among_is allMarks l false HA.out _ (by decide)).mono ?_; rintro e w' ⟨rfl, rfl⟩))
        go_ret; exact ⟨ret_str (by rw [HF.out]; rfl), rfl⟩
      · have HF : Hid (clsB l = l) := by unfold Hid clsB; rw [if_neg (by rw [hk]; exact h1), if_neg (by rw [hk]; exact h2), if_pos ha]
        have HA : Hid (amongB allMarks l = true) := ha
        clear hk ha h1 h2
        go_enter Tryd.func63, Tryd.ntmps63
        go_wp2_with (first
          | (go_at_call 62; refine (sort_is _ k (HK.out h0) _).mono ?_; rintro e w' ⟨rfl, rfl⟩)
          | (go_at_call 87; refine (among_is allMarks l true HA.out _ (by decide)).mono ?_; rintro e w' ⟨rfl, rfl⟩))
        go_ret; exact ⟨ret_str (by rw [HF.out]), rfl⟩
end Go.Proofs.YtlfffodehppgbaaDoor
