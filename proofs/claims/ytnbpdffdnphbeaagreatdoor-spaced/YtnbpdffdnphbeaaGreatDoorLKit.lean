/- What pick, at and name of statutekeep give. -/
import Derived.Test.YtnbpdffdnphbeaaGreatDoorDCel
import Derived.Test.YtnbpdffdnphbeaaGreatDoorPLoop2
namespace Go.Proofs.YtnbpdffdnphbeaaGreatDoor
open Go.RowKit

/-- Which of n things a raw number speaks of. -/
def pkI (c n : Int) : Int := if c < 0 then (-(c + 1)).tmod n else c.tmod n
theorem pkI_bound (c n : Int) (hn : 0 < n) : 0 ≤ pkI c n ∧ pkI c n < n := by
  unfold pkI
  split
  · exact ⟨Int.tmod_nonneg _ (by omega), Int.tmod_lt_of_pos _ hn⟩
  · exact ⟨Int.tmod_nonneg _ (by omega), Int.tmod_lt_of_pos _ hn⟩
def In64 (c : Int) : Prop := -9223372036854775808 ≤ c ∧ c ≤ 9223372036854775807

theorem kPick_s (w : World) (c n : Int) (hc : In64 c) (hn : 0 < n) (hn2 : n ≤ 10000) :
    Calls Tryz.prog 51 #[.int .i64 c, .int .i64 n] w fun e w' => e = .returned (.int .i64 (pkI c n)) ∧ w' = w := by
  obtain ⟨h1, h2⟩ := hc
  have n0 : (n == 0) = false := by rw [beq_eq_false_iff_ne]; omega
  by_cases h : c < 0
  · have e : pkI c n = (-(c + 1)).tmod n := by unfold pkI; rw [if_pos h]
    have b1 := (pkI_bound c n hn).1
    have b2 := (pkI_bound c n hn).2
    rw [e] at b1 b2 ⊢
    go_enter Tryz.func51, Tryz.ntmps51
    go_wp2_with fail
    go_ret
    exact ⟨ret_int (Int.neg_tmod _ _).symm, rfl⟩
  · have e : pkI c n = c.tmod n := by unfold pkI; rw [if_neg h]
    have b1 := (pkI_bound c n hn).1
    have b2 := (pkI_bound c n hn).2
    rw [e] at b1 b2 ⊢
    go_enter Tryz.func51, Tryz.ntmps51
    go_wp2_with fail
    go_ret
    exact ⟨ret_int (Int.tmod_eq_emod_of_nonneg (by omega)).symm, rfl⟩

/-- Raw numbers lie in memory. -/
structure RawV (w : World) (a : Option Addr) (m : Nat) (h : Nat → Int) : Prop where
  blk : 0 < m → ∃ g o, a = some ⟨g, o, none⟩ ∧ ∀ i, i < m → w.cell? ⟨g, o + i, none⟩ = some (.int .i64 (h i))
  few : m ≤ maxLen
  fit : ∀ i, i < m → In64 (h i)
theorem RawV.below {w w' : World} {a : Option Addr} {m : Nat} {h : Nat → Int} (H : RawV w a m h) (hb : Below w.heap.size w w') : RawV w' a m h :=
  ⟨fun h0 => let ⟨g, o, e, p⟩ := H.blk h0; ⟨g, o, e, fun i hi => by rw [hb.cell (p := ⟨g, o + i, none⟩) (cell_ltG (p i hi))]; exact p i hi⟩, H.few, H.fit⟩
/-- The i-th raw number of a list; 0: it has none. -/
def rawI (m : Nat) (h : Nat → Int) (i : Nat) : Int := if i < m then h i else 0
theorem RawV.in {w : World} {a : Option Addr} {m : Nat} {h : Nat → Int} (H : RawV w a m h) (i : Nat) : In64 (rawI m h i) := by
  unfold rawI
  split
  · rename_i hi; exact H.fit i hi
  · unfold In64; omega
theorem kAt_s (w : World) (a : Option Addr) (m c : Nat) (h : Nat → Int) (H : RawV w a m h) (i : Nat) (hi8 : i < 8) :
    Calls Tryz.prog 50 #[.slice a m c, .int .i64 i] w fun e w' => e = .returned (.int .i64 (rawI m h i)) ∧ w' = w := by
  have hm := H.few
  unfold maxLen at hm
  by_cases hi : i < m
  · obtain ⟨g, o, rfl, hcs⟩ := H.blk (by omega)
    have hc := hcs i hi
    have e : rawI m h i = h i := by unfold rawI; rw [if_pos hi]
    rw [e]
    clear hcs H
    generalize h i = z at *
    have b : ((i : Int) < (m : Int)) := by omega
    go_enter Tryz.func50, Tryz.ntmps50
    go_wp2_with fail
    go_ret
    exact ⟨rfl, rfl⟩
  · have e : rawI m h i = 0 := by unfold rawI; rw [if_neg hi]
    rw [e]
    clear H
    have b : ¬ ((i : Int) < (m : Int)) := by omega
    go_enter Tryz.func50, Tryz.ntmps50
    go_wp2_with fail
    go_ret
    exact ⟨rfl, rfl⟩

theorem cell_two (f z : Int) (w : World) (T : TypeId) (fz : Nat × Nat) : (w.alloc (.cells #[.int .u8 f, .int .u8 z] T fz)).cell? ⟨w.heap.size, 0, none⟩ = some (.int .u8 f) ∧ (w.alloc (.cells #[.int .u8 f, .int .u8 z] T fz)).cell? ⟨w.heap.size, 1, none⟩ = some (.int .u8 z) :=
  ⟨(cell_row (hb_end _ _) 0).trans rfl, (cell_row (hb_end _ _) 1).trans rfl⟩
theorem conv_two (w : World) (f : UInt8) (i : Nat) (hi : i < 8) (c : Nat) (T : TypeId) (fz : Nat × Nat) : (convert 224 9 (.slice (some ⟨w.heap.size, 0, none⟩) 2 c)).run Tryz.prog (w.alloc (.cells #[.int .u8 (f.toNat : Int), .int .u8 (97 + (i : Int))] T fz)) = .ok (.string ⟨(nmB f i).toArray⟩) (w.alloc (.cells #[.int .u8 (f.toNat : Int), .int .u8 (97 + (i : Int))] T fz)) := by
  obtain ⟨h0, h1⟩ := cell_two (f.toNat : Int) (97 + (i : Int)) w T fz
  have e1 : ((UInt8.ofNat (97 + i)).toNat : Int) = 97 + (i : Int) := (show ∀ i : Nat, i < 8 → ((UInt8.ofNat (97 + i)).toNat : Int) = 97 + (i : Int) by decide) i hi
  refine run_convert_bytes_back (P := Tryz.prog) _ 224 9 5 ⟨w.heap.size, 0, none⟩ c (nmB f i) Tryz.underlying224 Tryz.underlying5 Tryz.underlying9 (fun j hj => ?_)
  have e : (⟨w.heap.size, 0, none⟩ : Addr).add j = ⟨w.heap.size, j, none⟩ := by simp [Addr.add]; omega
  rw [e]
  have hj' : j < 2 := hj
  match j, hj, hj' with
  | 0, _, _ => exact h0
  | 1, _, _ => exact h1.trans (by rw [← e1]; rfl)
theorem kName_s (w : World) (f : UInt8) (i : Nat) (hi : i < 8) :
    Calls Tryz.prog 58 #[.int .u8 (f.toNat : Int), .int .i64 i] w fun e w' => e = .returned (.string ⟨(nmB f i).toArray⟩) ∧ Below w.heap.size w w' := by
  have hcv := conv_two w f i hi
  have HB : Hid (∀ o, Below w.heap.size w (w.alloc o)) := fun o => (Below.refl _ _).alloc (Nat.le_refl _) o
  generalize nmB f i = nm at *
  have hf : (f.toNat : Int) < 256 := by have := f.toNat_lt; omega
  have hf0 : 0 ≤ (f.toNat : Int) := by omega
  generalize (f.toNat : Int) = fz at *
  go_enter Tryz.func58, Tryz.ntmps58
  go_wp2_with fail
  go_ret
  exact ⟨rfl, HB.out _⟩
end Go.Proofs.YtnbpdffdnphbeaaGreatDoor

/- What pick and input of statutekeep give; the raw numbers of a frame in memory. -/
namespace Go.Proofs.YtnbpdffdnphbeaaGreatDoor
open Go.RowKit

/-- Which of n things a raw number speaks of: one of them. -/
theorem fPick_s (w : World) (c n : Int) (hc : In64 c) (hn : 0 < n) (hn2 : n ≤ 1099511627776) :
    Calls Tryz.prog 51 #[.int .i64 c, .int .i64 n] w fun e w' => ∃ r : Nat, e = .returned (.int .i64 (r : Int)) ∧ (r : Int) < n ∧ w' = w := by
  obtain ⟨h1, h2⟩ := hc
  have n0 : (n == 0) = false := by rw [beq_eq_false_iff_ne]; omega
  obtain ⟨b1, b2⟩ := pkI_bound c n hn
  by_cases h : c < 0
  · have e : pkI c n = (-(c + 1)).tmod n := by unfold pkI; rw [if_pos h]
    obtain ⟨r, hr⟩ : ∃ r : Nat, (-(c + 1)).tmod n = (r : Int) := ⟨(pkI c n).toNat, by rw [← e]; omega⟩
    rw [e] at b1 b2
    have HR := hideP2 hr
    have HL : Hid ((r : Int) < n) := by unfold Hid; omega
    clear e hr
    go_enter Tryz.func51, Tryz.ntmps51
    go_wp2_with fail
    go_ret
    exact ⟨r, ret_int ((Int.neg_tmod _ _).symm.trans HR.out), HL.out, rfl⟩
  · have e : pkI c n = c.tmod n := by unfold pkI; rw [if_neg h]
    obtain ⟨r, hr⟩ : ∃ r : Nat, c.tmod n = (r : Int) := ⟨(pkI c n).toNat, by rw [← e]; omega⟩
    rw [e] at b1 b2
    have HR := hideP2 hr
    have HL : Hid ((r : Int) < n) := by unfold Hid; omega
    clear e hr
    go_enter Tryz.func51, Tryz.ntmps51
    go_wp2_with fail
    go_ret
    exact ⟨r, ret_int ((Int.tmod_eq_emod_of_nonneg (by omega)).symm.trans HR.out), HL.out, rfl⟩

/-- The name of an input. -/
def inpF (i : Nat) : Bs := if i < 3 then nmB 110 i else nmB 102 (i - 3)
theorem fInput_s (w : World) (i : Nat) (hi : i < 5) :
    Calls Tryz.prog 55 #[.int .i64 (i : Int)] w fun e w' => e = .returned (.string ⟨(inpF i).toArray⟩) ∧ Below w.heap.size w w' := by
  by_cases h : i < 3
  · have e : inpF i = nmB 110 i := by unfold inpF; rw [if_pos h]
    have HN := hideP2 (kName_s w 110 i (by omega))
    have b : (i : Int) < 3 := by omega
    rw [e]
    generalize nmB 110 i = nm at *
    go_enter Tryz.func55, Tryz.ntmps55
    go_wp2_with fail
    refine HN.out.mono ?_
    rintro e w1 ⟨rfl, hb⟩
    have HB := hideP2 hb
    clear hb
    go_wp2_with fail
    go_ret
    exact ⟨rfl, HB.out⟩
  · have e : inpF i = nmB 102 (i - 3) := by unfold inpF; rw [if_neg h]
    have HN := hideP2 (kName_s w 102 (i - 3) (by omega))
    have b : ¬ (i : Int) < 3 := by omega
    have hc : ((i - 3 : Nat) : Int) = (i : Int) - 3 := by omega
    rw [hc] at HN
    rw [e]
    generalize nmB 102 (i - 3) = nm at *
    go_enter Tryz.func55, Tryz.ntmps55
    go_wp2_with fail
    refine HN.out.mono ?_
    rintro e w1 ⟨rfl, hb⟩
    have HB := hideP2 hb
    clear hb
    go_wp2_with fail
    go_ret
    exact ⟨rfl, HB.out⟩

/-- Raw numbers lie in memory: some. -/
def RawE (w : World) (a : Option Addr) (m : Nat) : Prop := ∃ h, RawV w a m h
theorem RawE.below {w w' : World} {a : Option Addr} {m : Nat} (h : RawE w a m) (hb : Below w.heap.size w w') : RawE w' a m := let ⟨f, H⟩ := h; ⟨f, H.below hb⟩
theorem RawE.at {w : World} {a : Option Addr} {m : Nat} (h : RawE w a m) {i : Nat} (hi : i < m) : ∃ g o z, a = some ⟨g, o, none⟩ ∧ w.cell? ⟨g, o + i, none⟩ = some (.int .i64 z) ∧ In64 z := by
  obtain ⟨f, H⟩ := h
  obtain ⟨g, o, e, hc⟩ := H.blk (by omega)
  exact ⟨g, o, f i, e, hc i hi, H.fit i hi⟩
theorem RawE.few {w : World} {a : Option Addr} {m : Nat} (h : RawE w a m) : m ≤ maxLen := let ⟨_, H⟩ := h; H.few
/-- Raw tests lie in memory. -/
structure RawT (w : World) (a : Option Addr) (m : Nat) : Prop where
  blk : 0 < m → ∃ g o, a = some ⟨g, o, none⟩ ∧ ∀ i, i < m → ∃ (b1 b2 b3 : Bool) (k x y mk n : Int), (w.cell? ⟨g, o + i * 8, none⟩ = some (.bool b1) ∧ w.cell? ⟨g, o + i * 8 + 1, none⟩ = some (.bool b2) ∧ w.cell? ⟨g, o + i * 8 + 2, none⟩ = some (.bool b3) ∧ w.cell? ⟨g, o + i * 8 + 3, none⟩ = some (.int .i64 k) ∧ w.cell? ⟨g, o + i * 8 + 4, none⟩ = some (.int .i64 x) ∧ w.cell? ⟨g, o + i * 8 + 5, none⟩ = some (.int .i64 y) ∧ w.cell? ⟨g, o + i * 8 + 6, none⟩ = some (.int .i64 mk) ∧ w.cell? ⟨g, o + i * 8 + 7, none⟩ = some (.int .i64 n)) ∧ (In64 k ∧ In64 x ∧ In64 y ∧ In64 mk ∧ In64 n)
  few : m ≤ maxLen
theorem RawT.below {w w' : World} {a : Option Addr} {m : Nat} (h : RawT w a m) (hb : Below w.heap.size w w') : RawT w' a m := by
  refine ⟨fun h0 => ?_, h.few⟩
  obtain ⟨g, o, e, hc⟩ := h.blk h0
  refine ⟨g, o, e, fun i hi => ?_⟩
  obtain ⟨b1, b2, b3, k, x, y, mk, n, ⟨c0, c1, c2, c3, c4, c5, c6, c7⟩, hf⟩ := hc i hi
  have t := fun j v (h : w.cell? ⟨g, j, none⟩ = some v) => (hb.cell (p := ⟨g, j, none⟩) (cell_lt h)).trans h
  exact ⟨b1, b2, b3, k, x, y, mk, n, ⟨t _ _ c0, t _ _ c1, t _ _ c2, t _ _ c3, t _ _ c4, t _ _ c5, t _ _ c6, t _ _ c7⟩, hf⟩
/-- Raw rules lie in memory. -/
structure RawR (w : World) (a : Option Addr) (m : Nat) (hd : Nat → Int) : Prop where
  blk : 0 < m → ∃ g o, a = some ⟨g, o, none⟩ ∧ ∀ i, i < m → ∃ (sa : Option Addr) (sn sc : Nat) (ta : Option Addr) (tn tc : Nat) (b : Bool) (ov : Int), (w.cell? ⟨g, o + i * 5, none⟩ = some (.int .i64 (hd i)) ∧ w.cell? ⟨g, o + i * 5 + 1, none⟩ = some (.slice sa sn sc) ∧ w.cell? ⟨g, o + i * 5 + 2, none⟩ = some (.slice ta tn tc) ∧ w.cell? ⟨g, o + i * 5 + 3, none⟩ = some (.bool b) ∧ w.cell? ⟨g, o + i * 5 + 4, none⟩ = some (.int .i64 ov)) ∧ In64 (hd i) ∧ In64 ov ∧ RawE w sa sn ∧ RawT w ta tn
  few : m ≤ maxLen
theorem RawR.below {w w' : World} {a : Option Addr} {m : Nat} {hd : Nat → Int} (h : RawR w a m hd) (hb : Below w.heap.size w w') : RawR w' a m hd := by
  refine ⟨fun h0 => ?_, h.few⟩
  obtain ⟨g, o, e, hc⟩ := h.blk h0
  refine ⟨g, o, e, fun i hi => ?_⟩
  obtain ⟨sa, sn, sc, ta, tn, tc, b, ov, ⟨c0, c1, c2, c3, c4⟩, f1, f2, f3, f4⟩ := hc i hi
  have t := fun j v (h : w.cell? ⟨g, j, none⟩ = some v) => (hb.cell (p := ⟨g, j, none⟩) (cell_lt h)).trans h
  exact ⟨sa, sn, sc, ta, tn, tc, b, ov, ⟨t _ _ c0, t _ _ c1, t _ _ c2, t _ _ c3, t _ _ c4⟩, f1, f2, f3.below hb, f4.below hb⟩
end Go.Proofs.YtnbpdffdnphbeaaGreatDoor
