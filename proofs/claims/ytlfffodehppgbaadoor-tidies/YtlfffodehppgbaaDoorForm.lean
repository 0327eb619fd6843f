/- What Form of the document's answer gives of a text: the place of what can't stand, or -1. -/
import Derived.Test.YtlfffodehppgbaaDoorNext
namespace Go.Proofs.YtlfffodehppgbaaDoor
open Go.RowKit

/-- Tokens lie in block g from place o on. -/
def SegR (w : World) (g o : Nat) (ts : List (Nat × Bs)) : Prop := ∀ i, i < ts.length →
  w.cell? ⟨g, o + i * 3, none⟩ = some (.string ⟨(ts.getD i (0, [])).2.toArray⟩) ∧ w.cell? ⟨g, o + i * 3 + 1, none⟩ = some (.int .i64 (ts.getD i (0, [])).1) ∧ w.cell? ⟨g, o + i * 3 + 2, none⟩ = some (.string ⟨(clsB (ts.getD i (0, [])).2).toArray⟩)

theorem flatR_get (ts : List (Nat × Bs)) : ∀ i, i < ts.length →
    (flatR ts)[i * 3]? = some (.string ⟨(ts.getD i (0, [])).2.toArray⟩) ∧ (flatR ts)[i * 3 + 1]? = some (.int .i64 (ts.getD i (0, [])).1) ∧ (flatR ts)[i * 3 + 2]? = some (.string ⟨(clsB (ts.getD i (0, [])).2).toArray⟩) := by
  induction ts with
  | nil => intro i h; simp at h
  | cons t r ih =>
    intro i h
    have e : flatR (t :: r) = rtok t ++ flatR r := by simp [flatR]
    cases i with
    | zero => rw [e]; simp [rtok]
    | succ i =>
      have hlen : (rtok t).length = 3 := rfl
      have hi := ih i (by simpa using h)
      rw [e]
      refine ⟨?_, ?_, ?_⟩
      · rw [List.getElem?_append_right (by rw [hlen]; omega), hlen, show (i + 1) * 3 - 3 = i * 3 by omega]; simpa using hi.1
      · rw [List.getElem?_append_right (by rw [hlen]; omega), hlen, show (i + 1) * 3 + 1 - 3 = i * 3 + 1 by omega]; simpa using hi.2.1
      · rw [List.getElem?_append_right (by rw [hlen]; omega), hlen, show (i + 1) * 3 + 2 - 3 = i * 3 + 2 by omega]; simpa using hi.2.2

theorem cell_take {w : World} {g : Nat} {cur : Array Value} {e : TypeId} {fz : Nat × Nat} {k n : Nat} {xs : List Value} {u : Value}
    (hb : w.heap[g]? = some (.cells cur e fz)) (ht : cur.toList.take n = xs) (hx : xs[k]? = some u) : w.cell? ⟨g, k, none⟩ = some u := by
  have h1 : cur.toList[k]? = some u := by
    rw [← ht, List.getElem?_take] at hx
    split at hx
    · exact hx
    · cases hx
  simp [World.cell?, hb]
  simpa using h1

/-- A row of tokens that is owned: its value and where it lies. -/
theorem owns_seg {w : World} {base : Nat} {v : Value} {ts : List (Nat × Bs)} (h : w.ownsRow base 48 3 v ts.length (flatR ts)) :
    (v = .slice none 0 0 ∧ ts = []) ∨ ∃ g cap, v = .slice (some ⟨g, 0, none⟩) ts.length cap ∧ base ≤ g ∧ g < w.heap.size ∧ ts.length ≤ cap ∧ cap ≤ maxLen ∧ SegR w g 0 ts := by
  rcases h.2 with ⟨h1, h2⟩ | ⟨g, cap, cur, h1, h2, h3, h4, h5, h6, h7⟩
  · exact .inl ⟨h1, List.eq_nil_of_length_eq_zero h2⟩
  · refine .inr ⟨g, cap, h1, h2, ?_, h4, h5, ?_⟩
    · rcases Nat.lt_or_ge g w.heap.size with h | h
      · exact h
      · rw [Array.getElem?_eq_none h] at h3; cases h3
    · intro i hi
      obtain ⟨a, b, c⟩ := flatR_get ts i hi
      refine ⟨?_, ?_, ?_⟩
      · rw [Nat.zero_add]; exact cell_take h3 h7 a
      · rw [Nat.zero_add]; exact cell_take h3 h7 b
      · rw [Nat.zero_add]; exact cell_take h3 h7 c

theorem Folw.below {w w' : World} (h : Folw w) (hb : Below w.heap.size w w') : Folw w' := by
  have h0 : 0 < w.heap.size := by
    have := h 0 (by omega)
    rcases Nat.eq_zero_or_pos w.heap.size with h1 | h1
    · rw [World.cell?, Array.getElem?_eq_none (by simpa using h1)] at this; cases this
    · exact h1
  intro j hj
  rw [hb.cell (p := ⟨0, j, none⟩) h0]; exact h j hj

set_option maxHeartbeats 1000000 in
theorem Form_any (l : Bs) (w : World) (hl : l.length ≤ 4000) (hf : Folw w) :
    Calls Tryd.prog 12 #[.string ⟨l.toArray⟩] w fun e w' => e = .returned (.int .i64 (formB l)) ∧ Below w.heap.size w w' := by
  have HW : Hid (Folw w) := hf
  clear hf
  go_enter Tryd.func12, Tryd.ntmps12
  go_wp2_with (go_at_call 29; refine (Tokens_any l _ hl).mono ?_; rintro e w1 ⟨v, rfl, hown, hbel⟩)
  have HF1 : Hid (Folw w1) := HW.out.below hbel
  have HR : Hid (formB l = formTo l.length (toksAt l 0) sLine 0) := rfl
  have hts := toksAt_len l 0
  generalize toksAt l 0 = ts at *
  rcases owns_seg hown with ⟨rfl, rfl⟩ | ⟨g, cap, rfl, _, _, hcap, hmax, hseg⟩
  · clear hown hts
    go_loop [4, 5, 6] (fun sv ov iv => sv = .string ⟨sLine.toArray⟩ ∧ ov = .int .i64 0 ∧ iv = .int .i64 0) (fun _ _ _ => 0)
    case atStart => exact ⟨rfl, rfl, rfl⟩
    case round =>
      obtain ⟨rfl, rfl, rfl⟩ := hrel
      have hs : (!sLine == [108, 105, 110, 101]) = false := by decide
      go_wp2_with fail
      go_ret; exact ⟨ret_int (by rw [HR.out]; rfl), hbel⟩
  · have HS : Hid (SegR w1 g 0 ts) := hseg
    clear hown hseg
    go_loop [4, 5, 6] (fun sv ov iv => ∃ (i : Nat) (st : Bs) (op : Int), i ≤ ts.length ∧ sv = .string ⟨st.toArray⟩ ∧ ov = .int .i64 op ∧ iv = .int .i64 i ∧ -(i : Int) ≤ op ∧ op ≤ i ∧ Hid (formTo l.length (ts.drop i) st op = formB l)) (fun _ _ iv => ts.length - (intOf iv).toNat)
    case atStart => exact ⟨0, sLine, 0, Nat.zero_le _, rfl, rfl, rfl, by omega, by omega, HR.out.symm⟩
    case round =>
      obtain ⟨i, st, op, hi, rfl, rfl, rfl, ho1, ho2, HI⟩ := hrel
      by_cases hlt : i < ts.length
      · obtain ⟨_, hc1, hc2⟩ := HS.out i hlt
        have HD : Hid (ts.drop i = ts.getD i (0, []) :: ts.drop (i + 1)) := drop_consT ts i hlt
        obtain ⟨tk, htk⟩ : ∃ tk, ts.getD i (0, []) = tk := ⟨_, rfl⟩
        rw [htk] at hc1 hc2 HD
        obtain ⟨cl, hcl⟩ : ∃ cl, clsB tk.2 = cl := ⟨_, rfl⟩
        rw [hcl] at hc2
        obtain ⟨st2, hst2⟩ : ∃ st2, nextB st cl op = st2 := ⟨_, rfl⟩
        have HN : Hid (nextB st cl op = st2) := hst2
        have HI2 : Hid ((if st2 = [] then (tk.1 : Int) else formTo l.length (ts.drop (i + 1)) st2 (if cl = kOpen then op + 1 else if cl = kShut then op - 1 else op)) = formB l) := by
          have := HI.out; rw [HD.out, formTo, hcl, hst2] at this; exact this
        clear htk hcl hst2 HI HD
        simp only [Nat.zero_add] at hc1 hc2
        by_cases hst : st2 = []
        · have he : List.isEmpty st2 = true := by simp [hst]
          have HE : Hid ((tk.1 : Int) = formB l) := by have := HI2.out; rw [if_pos hst] at this; exact this
          clear hst HI2
          go_wp2_with (go_at_call 30; refine (next_any st cl op _ HF1.out).mono ?_; rintro e w' ⟨rfl, hw⟩; obtain rfl := hw.symm; rw [HN.out])
          go_ret; exact ⟨ret_int HE.out, hbel⟩
        · have he : List.isEmpty st2 = false := by simp [hst]
          have HE : Hid (formTo l.length (ts.drop (i + 1)) st2 (if cl = kOpen then op + 1 else if cl = kShut then op - 1 else op) = formB l) := by have := HI2.out; rw [if_neg hst] at this; exact this
          clear hst HI2
          by_cases k1 : cl = kOpen
          · have HG : Hid (formTo l.length (ts.drop (i + 1)) st2 (op + 1) = formB l) := by have := HE.out; rw [if_pos k1] at this; exact this
            have b1 : (cl == [40]) = true := by rw [k1]; rfl
            have b2 : (cl == [41]) = false := by rw [k1]; rfl
            clear k1 HE
            go_wp2_with (go_at_call 30; refine (next_any st cl op _ HF1.out).mono ?_; rintro e w' ⟨rfl, hw⟩; obtain rfl := hw.symm; rw [HN.out])
            go_round
            case rel => exact ⟨i + 1, st2, op + 1, by omega, rfl, rfl, by go_num, by omega, by omega, HG.out⟩
            case measure => simp [intOf]; omega
          · by_cases k2 : cl = kShut
            · have HG : Hid (formTo l.length (ts.drop (i + 1)) st2 (op - 1) = formB l) := by have := HE.out; rw [if_neg k1, if_pos k2] at this; exact this
              have b1 : (cl == [40]) = false := by rw [k2]; rfl
              have b2 : (cl == [41]) = true := by rw [k2]; rfl
              clear k1 k2 HE
              go_wp2_with (go_at_call 30; refine (next_any st cl op _ HF1.out).mono ?_; rintro e w' ⟨rfl, hw⟩; obtain rfl := hw.symm; rw [HN.out])
              go_round
              case rel => exact ⟨i + 1, st2, op - 1, by omega, rfl, rfl, by go_num, by omega, by omega, HG.out⟩
              case measure => simp [intOf]; omega
            · have HG : Hid (formTo l.length (ts.drop (i + 1)) st2 op = formB l) := by have := HE.out; rw [if_neg k1, if_neg k2] at this; exact this
              have b1 : (cl == [40]) = false := by simpa [kOpen] using k1
              have b2 : (cl == [41]) = false := by simpa [kShut] using k2
              clear k1 k2 HE
              go_wp2_with (go_at_call 30; refine (next_any st cl op _ HF1.out).mono ?_; rintro e w' ⟨rfl, hw⟩; obtain rfl := hw.symm; rw [HN.out])
              go_round
              case rel => exact ⟨i + 1, st2, op, by omega, rfl, rfl, by go_num, by omega, by omega, HG.out⟩
              case measure => simp [intOf]; omega
      · have hd : ts.drop i = [] := List.drop_eq_nil_of_le (by omega)
        by_cases hst : st = sLine
        · have HE : Hid (formB l = -1) := by have := HI.out; rw [hd, formTo, if_pos hst] at this; exact this.symm
          have b1 : (!st == [108, 105, 110, 101]) = false := by rw [hst]; rfl
          clear hd hst HI
          go_wp2_with fail
          go_ret; exact ⟨ret_int HE.out.symm, hbel⟩
        · have HE : Hid (formB l = l.length) := by have := HI.out; rw [hd, formTo, if_neg hst] at this; exact this.symm
          have b1 : (!st == [108, 105, 110, 101]) = true := by simpa [sLine] using hst
          clear hd hst HI
          go_wp2_with fail
          go_ret; exact ⟨ret_int HE.out.symm, hbel⟩
end Go.Proofs.YtlfffodehppgbaaDoor
