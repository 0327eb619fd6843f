/- What the calls of a Base that Load did not make answer: nil, and one that the caller made. -/
import Derived.Test.YtdohhghfohpgjaaProg
import Derived.WalkKit
import Derived.WalkSpells
import Derived.WalkLawsBesides
namespace Go.Proofs.Ytdohhghfohpgjaa
open Go.RowKit

theorem hidU {p : Prop} (h : p) : Hid p := h
theorem num_u (k : Int) (w : World) : Calls Try.prog 15 #[.int .i64 k] w fun e w' => e = .returned (.int .i64 k) ∧ w' = w := by
  go_enter Try.func15, Try.ntmps15
  go_wp2_with fail
  go_ret
  exact ⟨rfl, rfl⟩

theorem levels_nil (w : World) : Calls Try.prog 12 #[.pointer none] w fun e w' => (∃ a c, e = .returned (.slice a 0 c)) ∧ Below w.heap.size w w' := by
  go_enter Try.func12, Try.ntmps12
  go_wp2_with fail
  go_ret
  exact ⟨⟨_, _, rfl⟩, (Below.refl _ _).alloc (Nat.le_refl _) _⟩
theorem weigh_nil (f : ByteArray) (w : World) : Calls Try.prog 13 #[.pointer none, .string f] w fun e w' => e = .returned (.tuple #[.slice none 0 0, .int .i64 11]) ∧ Below w.heap.size w w' := by
  go_enter Try.func13, Try.ntmps13
  go_wp2_with fail
  go_ret2
  exact ⟨rfl, Below.refl _ _⟩
theorem eval_nil (f : ByteArray) (w : World) : Calls Try.prog 14 #[.pointer none, .string f] w fun e w' => e = .returned (.tuple #[.slice none 0 0, .int .i64 11]) ∧ Below w.heap.size w w' := by
  go_enter Try.func14, Try.ntmps14
  go_wp2_with fail
  go_ret2
  exact ⟨rfl, Below.refl _ _⟩

theorem new_end (w : World) (o : Obj) : (w.alloc o).heap[w.heap.size]? = some o := by
  show (w.heap.push o)[w.heap.size]? = _
  simp
/-- A Base that the caller made lies in memory. -/
def Made (w : World) (b : Nat) : Prop := w.cell? ⟨b, 0, none⟩ = some (.bool false) ∧ w.cell? ⟨b, 1, none⟩ = some (.slice none 0 0) ∧ b < w.heap.size
theorem Made.below {w w' : World} {b : Nat} (h : Made w b) (hb : Below w.heap.size w w') : Made w' b :=
  ⟨by rw [hb.cell (p := ⟨b, 0, none⟩) h.2.2]; exact h.1, by rw [hb.cell (p := ⟨b, 1, none⟩) h.2.2]; exact h.2.1, Nat.lt_of_lt_of_le h.2.2 hb.size⟩

theorem levels_made (w : World) (b : Nat) (h : Made w b) : Calls Try.prog 12 #[.pointer (some ⟨b, 0, none⟩)] w fun e w' => (∃ a c, e = .returned (.slice a 0 c)) ∧ Below w.heap.size w w' := by
  obtain ⟨h0, h1, h2⟩ := h
  go_enter Try.func12, Try.ntmps12
  go_wp2_with fail
  go_loop [3, 15] (fun sv iv => sv = .slice (some ⟨w.heap.size, 0, none⟩) 0 0 ∧ iv = .int .i64 0) (fun _ _ => 0)
  case atStart => exact ⟨rfl, rfl⟩
  case round =>
    obtain ⟨rfl, rfl⟩ := hrel
    go_wp2_with fail
    go_ret
    exact ⟨⟨_, _, rfl⟩, (Below.refl _ _).alloc (Nat.le_refl _) _⟩
theorem weigh_made (f : ByteArray) (w : World) (b : Nat) (h : Made w b) : Calls Try.prog 13 #[.pointer (some ⟨b, 0, none⟩), .string f] w fun e w' => e = .returned (.tuple #[.slice none 0 0, .int .i64 11]) ∧ Below w.heap.size w w' := by
  obtain ⟨h0, h1, h2⟩ := h
  go_enter Try.func13, Try.ntmps13
  go_wp2_with fail
  go_ret2
  exact ⟨rfl, Below.refl _ _⟩
theorem eval_made (f : ByteArray) (w : World) (b : Nat) (h : Made w b) : Calls Try.prog 14 #[.pointer (some ⟨b, 0, none⟩), .string f] w fun e w' => e = .returned (.tuple #[.slice none 0 0, .int .i64 11]) ∧ Below w.heap.size w w' := by
  obtain ⟨h0, h1, h2⟩ := h
  go_enter Try.func14, Try.ntmps14
  go_wp2_with fail
  go_ret2
  exact ⟨rfl, Below.refl _ _⟩

/-- What the three calls of a Base answer, wherever they are made from this world on. -/
structure Says (w : World) (p : Option Addr) (f : ByteArray) : Prop where
  lev : ∀ w', Below w.heap.size w w' → Calls Try.prog 12 #[.pointer p] w' fun e w'' => (∃ a c, e = .returned (.slice a 0 c)) ∧ Below w'.heap.size w' w''
  wei : ∀ w', Below w.heap.size w w' → Calls Try.prog 13 #[.pointer p, .string f] w' fun e w'' => e = .returned (.tuple #[.slice none 0 0, .int .i64 11]) ∧ Below w'.heap.size w' w''
  eva : ∀ w', Below w.heap.size w w' → Calls Try.prog 14 #[.pointer p, .string f] w' fun e w'' => e = .returned (.tuple #[.slice none 0 0, .int .i64 11]) ∧ Below w'.heap.size w' w''

theorem unmade_s (f : ByteArray) (w : World) (p : Option Addr) (h : Says w p f) : Calls Try.prog 5 #[.pointer p, .string f] w fun e w' => e = .returned (.bool true) ∧ Below w.heap.size w w' := by
  have H := hidU h
  clear h
  go_enter Try.func5, Try.ntmps5
  go_wp2_with fail
  refine (H.out.lev w (Below.refl _ _)).mono ?_
  rintro e w1 ⟨⟨a, c, rfl⟩, hb1⟩
  have HB1 := hidU hb1
  clear hb1
  go_wp2_with fail
  refine (H.out.wei w1 HB1.out).mono ?_
  rintro e w2 ⟨rfl, hb2⟩
  have HB2 : Hid (Below w.heap.size w w2) := HB1.out.trans (hb2.mono HB1.out.size)
  clear hb2
  go_wp2_with fail
  refine (H.out.eva w2 HB2.out).mono ?_
  rintro e w3 ⟨rfl, hb3⟩
  have HB3 : Hid (Below w.heap.size w w3) := HB2.out.trans (hb3.mono HB2.out.size)
  clear hb3
  go_wp2_with fail
  refine (num_u 11 w3).mono ?_
  rintro e w4 ⟨rfl, hw⟩; obtain rfl := hw.symm
  go_wp2_with fail
  refine (num_u 11 w3).mono ?_
  rintro e w4 ⟨rfl, hw⟩; obtain rfl := hw.symm
  go_wp2_with fail
  go_ret
  exact ⟨rfl, HB3.out⟩

theorem Unmade_any (f : ByteArray) (w : World) : Calls Try.prog 3 #[.string f] w fun e w' => e = .returned (.bool true) ∧ Below w.heap.size w w' := by
  go_enter Try.func3, Try.ntmps3
  go_wp2_with fail
  refine (unmade_s f w none ⟨fun w' _ => levels_nil w', fun w' _ => weigh_nil f w', fun w' _ => eval_nil f w'⟩).mono ?_
  rintro e w1 ⟨rfl, hb1⟩
  have HB1 := hidU hb1
  clear hb1
  go_wp2_with fail
  refine (unmade_s f _ (some ⟨w1.heap.size, 0, none⟩) ?_).mono ?_
  · have hm : ∀ w', Below (w1.heap.size + 1) (w1.alloc (.cells #[.bool false, .slice none 0 0] 26 (0, 0))) w' → Made w' w1.heap.size := by
      intro w' hb
      have h0 : Made (w1.alloc (.cells #[.bool false, .slice none 0 0] 26 (0, 0))) w1.heap.size := ⟨by simp only [World.cell?, new_end]; rfl, by simp only [World.cell?, new_end]; rfl, by simp⟩
      exact h0.below (by simpa using hb)
    exact ⟨fun w' hb => levels_made w' _ (hm w' (by simpa using hb)), fun w' hb => weigh_made f w' _ (hm w' (by simpa using hb)), fun w' hb => eval_made f w' _ (hm w' (by simpa using hb))⟩
  · rintro e w2 ⟨rfl, hb2⟩
    have HB2 : Hid (Below w.heap.size w w2) := (HB1.out.alloc HB1.out.size _).trans (hb2.mono (by simp; have := HB1.out.size; omega))
    clear hb2
    go_wp2_with fail
    go_ret
    exact ⟨rfl, HB2.out⟩
end Go.Proofs.Ytdohhghfohpgjaa
