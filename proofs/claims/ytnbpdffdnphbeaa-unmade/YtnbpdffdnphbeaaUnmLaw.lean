/- What the calls of a Base that Load did not make answer: nil, and one that the caller made. -/
import Derived.Test.YtnbpdffdnphbeaaProg
import Derived.WalkKit
import Derived.WalkSpells
import Derived.WalkLawsBesides
import Derived.BigQuiet
import Derived.Great.BuildSlice
import Derived.Great.Ranges
namespace Go.Proofs.Ytnbpdffdnphbeaa
open Go.RowKit

theorem hidU {p : Prop} (h : p) : Hid p := h
theorem num_u (k : Int) (w : World) : Calls Try.prog 8 #[.int .i64 k] w fun e w' => e = .returned (.int .i64 k) ∧ w' = w := by
  go_enter Try.func8, Try.ntmps8
  go_wp2_with fail
  go_ret
  exact ⟨rfl, rfl⟩

theorem drewB {B : Nat} {a w : World} (h : Below B a w) (n : Nat) : Below B a (w.drewN n) := ⟨h.os, h.tape, h.output, h.size, h.block⟩
theorem levels_nil (w : World) : Calls Try.prog 5 #[.pointer none] w fun e w' => (∃ a c, e = .returned (.slice a 0 c)) ∧ Below w.heap.size w w' := by
  go_enter Try.func5, Try.ntmps5
  go_wp2_with fail
  go_ret
  exact ⟨⟨_, _, rfl⟩, (Below.refl _ _).alloc (Nat.le_refl _) _⟩
theorem new_end (w : World) (o : Obj) : (w.alloc o).heap[w.heap.size]? = some o := by
  show (w.heap.push o)[w.heap.size]? = _
  simp
def noneV : Value := .agg #[.slice none 0 0, .slice none 0 0, .int .i64 11]
theorem finInfo : (Try.prog.info? 50).map (·.size) = some 3 := by kernel_rfl
theorem hear_nil (f : ByteArray) (w : World) : Calls Try.prog 9 #[.pointer none, .string f] w fun e w' => e = .returned noneV ∧ Below w.heap.size w w' := by
  go_enter Try.func9, Try.ntmps9
  go_wp2_with fail
  refine bodyPost_ret (v := noneV) (results_cell_row Try.results9 _ _ w.heap.size 50 #[.slice none 0 0, .slice none 0 0, .int .i64 11] (0, 0) _ rfl (new_end _ _) Try.underlying50 rfl finInfo) rfl ⟨rfl, (Below.refl _ _).alloc (Nat.le_refl _) _⟩
/-- A Base that the caller made lies in memory. -/
def Made (w : World) (b : Nat) : Prop := w.cell? ⟨b, 0, none⟩ = some (.bool false) ∧ w.cell? ⟨b, 2, none⟩ = some (.slice none 0 0) ∧ b < w.heap.size
theorem Made.below {w w' : World} {b : Nat} (h : Made w b) (hb : Below w.heap.size w w') : Made w' b :=
  ⟨by rw [hb.cell (p := ⟨b, 0, none⟩) h.2.2]; exact h.1, by rw [hb.cell (p := ⟨b, 2, none⟩) h.2.2]; exact h.2.1, Nat.lt_of_lt_of_le h.2.2 hb.size⟩
theorem hear_made (f : ByteArray) (w : World) (b : Nat) (h : Made w b) : Calls Try.prog 9 #[.pointer (some ⟨b, 0, none⟩), .string f] w fun e w' => e = .returned noneV ∧ Below w.heap.size w w' := by
  obtain ⟨h0, h1, h2⟩ := h
  have h3 : w.heap.size ≠ b := by omega
  go_enter Try.func9, Try.ntmps9
  go_wp2_with fail
  refine bodyPost_ret (v := noneV) (results_cell_row Try.results9 _ _ w.heap.size 50 #[.slice none 0 0, .slice none 0 0, .int .i64 11] (0, 0) _ rfl (new_end _ _) Try.underlying50 rfl finInfo) rfl ⟨rfl, (Below.refl _ _).alloc (Nat.le_refl _) _⟩
theorem weigh_of (f : ByteArray) (w : World) (p : Option Addr) (h : Calls Try.prog 9 #[.pointer p, .string f] w fun e w' => e = .returned noneV ∧ Below w.heap.size w w') : Calls Try.prog 6 #[.pointer p, .string f] w fun e w' => e = .returned (.tuple #[.slice none 0 0, .int .i64 11]) ∧ Below w.heap.size w w' := by
  have H := hidU h
  clear h
  go_enter Try.func6, Try.ntmps6
  go_wp2_with fail
  refine H.out.mono ?_
  rintro e w1 ⟨rfl, hb⟩
  have HB := hidU hb
  have hs := hb.size
  clear hb
  unfold noneV
  go_wp2_with fail
  go_quiet (fail)
  go_wp2_with fail
  go_ret2
  exact ⟨rfl, drewB (HB.out.alloc hs _) _⟩
theorem eval_of (f : ByteArray) (w : World) (p : Option Addr) (h : Calls Try.prog 9 #[.pointer p, .string f] w fun e w' => e = .returned noneV ∧ Below w.heap.size w w') : Calls Try.prog 7 #[.pointer p, .string f] w fun e w' => e = .returned (.tuple #[.slice none 0 0, .int .i64 11]) ∧ Below w.heap.size w w' := by
  have H := hidU h
  clear h
  go_enter Try.func7, Try.ntmps7
  go_wp2_with fail
  refine H.out.mono ?_
  rintro e w1 ⟨rfl, hb⟩
  have HB := hidU hb
  have hs := hb.size
  clear hb
  unfold noneV
  go_wp2_with fail
  go_quiet (fail)
  go_wp2_with fail
  go_ret2
  exact ⟨rfl, drewB (HB.out.alloc hs _) _⟩

theorem levels_made (w : World) (b : Nat) (h : Made w b) : Calls Try.prog 5 #[.pointer (some ⟨b, 0, none⟩)] w fun e w' => (∃ a c, e = .returned (.slice a 0 c)) ∧ Below w.heap.size w w' := by
  obtain ⟨h0, h1, h2⟩ := h
  have h3 : w.heap.size ≠ b := by omega
  go_enter Try.func5, Try.ntmps5
  go_wp2_with fail
  go_loop [3, 16] (fun sv iv => sv = .slice (some ⟨w.heap.size, 0, none⟩) 0 0 ∧ iv = .int .i64 0) (fun _ _ => 0)
  case atStart => exact ⟨rfl, rfl⟩
  case round =>
    obtain ⟨rfl, rfl⟩ := hrel
    go_wp2_with fail
    go_ret
    exact ⟨⟨_, _, rfl⟩, (Below.refl _ _).alloc (Nat.le_refl _) _⟩

/-- What the three calls of a Base answer, wherever they are made from this world on. -/
structure Says (w : World) (p : Option Addr) (f : ByteArray) : Prop where
  lev : ∀ w', Below w.heap.size w w' → Calls Try.prog 5 #[.pointer p] w' fun e w'' => (∃ a c, e = .returned (.slice a 0 c)) ∧ Below w'.heap.size w' w''
  wei : ∀ w', Below w.heap.size w w' → Calls Try.prog 6 #[.pointer p, .string f] w' fun e w'' => e = .returned (.tuple #[.slice none 0 0, .int .i64 11]) ∧ Below w'.heap.size w' w''
  eva : ∀ w', Below w.heap.size w w' → Calls Try.prog 7 #[.pointer p, .string f] w' fun e w'' => e = .returned (.tuple #[.slice none 0 0, .int .i64 11]) ∧ Below w'.heap.size w' w''

theorem unmade_s (f : ByteArray) (w : World) (p : Option Addr) (h : Says w p f) : Calls Try.prog 4 #[.pointer p, .string f] w fun e w' => e = .returned (.bool true) ∧ Below w.heap.size w w' := by
  have H := hidU h
  clear h
  go_enter Try.func4, Try.ntmps4
  go_wp2_with fail
  refine (H.out.lev w (Below.refl _ _)).mono ?_
  rintro e w1 ⟨⟨a, c, rfl⟩, hb1⟩
  have HB1 := hidU hb1
  clear hb1
  go_wp2_with fail
  refine (H.out.wei w1 HB1.out).mono ?_
  rintro e w2 ⟨rfl, hb2⟩
  have HB2 : Hid (Below w.heap.size w w2) := HB1.out.trans (hb2.mono HB1.out.size)
  clear hb2
  go_wp2_with fail
  refine (H.out.eva w2 HB2.out).mono ?_
  rintro e w3 ⟨rfl, hb3⟩
  have HB3 : Hid (Below w.heap.size w w3) := HB2.out.trans (hb3.mono HB2.out.size)
  clear hb3
  go_wp2_with fail
  refine (num_u 11 w3).mono ?_
  rintro e w4 ⟨rfl, hw⟩; obtain rfl := hw.symm
  go_wp2_with fail
  refine (num_u 11 w3).mono ?_
  rintro e w4 ⟨rfl, hw⟩; obtain rfl := hw.symm
  go_wp2_with fail
  go_ret
  exact ⟨rfl, HB3.out⟩

/-- The cells of a Base that holds nothing. -/
def baseZ : Array Value := #[.bool false, .slice none 0 0, .slice none 0 0, .slice none 0 0] ++ ((List.replicate 64 (Value.bool false)).toArray)
theorem baseZ_built : Try.prog.built 34 [] = some baseZ := by kernel_rfl
theorem baseZ_info : (Try.prog.info? 34).map (·.size) = some baseZ.size := by kernel_rfl
theorem baseZ_one : baseZ.all (·.oneCell') = true := by kernel_rfl
theorem baseZ_made (w : World) (fz : Nat × Nat) : Made (w.alloc (.cells baseZ 34 fz)) w.heap.size :=
  ⟨by simp only [World.cell?, new_end]; rfl, by simp only [World.cell?, new_end]; rfl, by simp⟩
set_option maxRecDepth 100000 in
theorem Unmade_any (f : ByteArray) (w : World) : Calls Try.prog 3 #[.string f] w fun e w' => e = .returned (.bool true) ∧ Below w.heap.size w w' := by
  have HM : Hid (∀ (w1 w' : World) (o : Obj), Made (w1.alloc o) w1.heap.size → Below (w1.alloc o).heap.size (w1.alloc o) w' → Made w' w1.heap.size) := fun w1 w' o h hb => h.below hb
  go_enter Try.func3, Try.ntmps3
  go_wp2_with fail
  refine (unmade_s f w none ⟨fun w' _ => levels_nil w', fun w' _ => weigh_of f w' _ (hear_nil f w'), fun w' _ => eval_of f w' _ (hear_nil f w')⟩).mono ?_
  rintro e w1 ⟨rfl, hb1⟩
  have HB1 := hidU hb1
  clear hb1
  go_wp2_with (refine wpList_buildTo rfl 34 #[] rfl (some 7) rfl baseZ (by simpa using baseZ_built) ?_)
  have hm0 := baseZ_made w1 (0, 0)
  refine (unmade_s f _ (some ⟨w1.heap.size, 0, none⟩) ⟨fun w' hb => levels_made w' _ (HM.out _ _ _ hm0 hb), fun w' hb => weigh_of f w' _ (hear_made f w' _ (HM.out _ _ _ hm0 hb)), fun w' hb => eval_of f w' _ (hear_made f w' _ (HM.out _ _ _ hm0 hb))⟩).mono ?_
  rintro e w2 ⟨rfl, hb2⟩
  have HB2 : Hid (Below w.heap.size w w2) := (HB1.out.alloc HB1.out.size _).trans (hb2.mono (by simp; have := HB1.out.size; omega))
  clear hb2
  go_wp2_with fail
  go_ret
  exact ⟨rfl, HB2.out⟩
end Go.Proofs.Ytnbpdffdnphbeaa
