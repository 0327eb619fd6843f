/- The law Looped answers true at every input. -/
import Derived.Test.YtnbpdffdnphbeaaGreatPPot
namespace Go.Proofs.YtnbpdffdnphbeaaGreat
open Go.RowKit

theorem short_of {L : List (List Bs)} (h0 : L.length ≤ 100) (h : ∀ l ∈ L, l.length ≤ 20 ∧ ∀ w ∈ l, w.length ≤ 10) : Short L := by
  have hm : ∀ i, i < L.length → L.getD i [] ∈ L := fun i hi => by
    rw [List.getD_eq_getElem?_getD, List.getElem?_eq_getElem hi]; exact List.getElem_mem hi
  refine ⟨h0, fun i hi => (h _ (hm i hi)).1, fun i k hi hk => (h _ (hm i hi)).2 _ ?_⟩
  rw [List.getD_eq_getElem?_getD (l := L.getD i []), List.getElem?_eq_getElem hk]; exact List.getElem_mem hk
theorem rgW_short (n : Nat) (h : Nat → Nat) (shut : Bool) (i : Nat) : (rgW n h shut i).length ≤ 20 ∧ ∀ w ∈ rgW n h shut i, w.length ≤ 10 := by
  unfold rgW rgTail
  split
  · simp [kRule, kWhen, kAlwW, kEnd, nmB]
  · split
    · simp [kRule, kWhen, kAlwW, kEnd, nmB]
    · split
      · simp [kRule, kWhen, kHasW, kEnd, nmB]
      · simp [kRule, kWhen, kAlwW, kNot, kHasW, kOr, kEnd, nmB]
theorem ovW_short (n j : Nat) : (ovW n j).length ≤ 20 ∧ ∀ w ∈ ovW n j, w.length ≤ 10 := by
  unfold ovW rgTail
  split
  · simp [kRule, kWhen, kAlwW, kEnd, nmB]
  · simp [kOver, kEnd, nmB]
theorem turn_map (m p : Nat) (g : Nat → List Bs) : ((turnI m p).map fun j => ((List.range m).map g).getD j []) = (turnI m p).map g := by
  refine List.map_congr_left fun j hj => ?_
  have := turnI_lt hj
  simp [List.getD, this]
/-- Lines turned and written. -/
theorem turn_lines (m : Nat) (g : Nat → List Bs) (h0 : 0 < m) (hm : m ≤ 100) (k : Int) (hk : In64 k) : ∀ w a c, OutV w a ((List.range m).map g) → Calls Tryz.prog 8 #[.slice a m c, .int .i64 k] w fun e w' => ∃ oa oc, e = .returned (.slice oa m oc) ∧ OutV w' oa ((turnI m (trnI k m)).map g) ∧ Below w.heap.size w w' := fun w a c h => by
  have hl : ((List.range m).map g).length = m := by simp
  have := turned_s w a c ((List.range m).map g) k h hk (by omega) (by omega)
  rw [hl, turn_map] at this
  exact this
theorem write_lines (m : Nat) (g : Nat → List Bs) (hm : m ≤ 100) (p : Nat) (hs : ∀ i, (g i).length ≤ 20 ∧ ∀ w ∈ g i, w.length ≤ 10) : ∀ w a c, OutV w a ((turnI m p).map g) → Calls Tryz.prog 7 #[.slice a m c] w fun e w' => e = .returned (.string ⟨(wrB ((turnI m p).map g)).toArray⟩) ∧ w' = w := fun w a c h => by
  have hl : ((turnI m p).map g).length = m := by rw [List.length_map, turnI_len]
  have := written_s w a c ((turnI m p).map g) h (short_of (by omega) fun l hl => by obtain ⟨i, _, rfl⟩ := List.mem_map.1 hl; exact hs i)
  rw [hl] at this
  exact this
theorem trnI_lt (k : Int) (m : Nat) (h : 0 < m) : trnI k m < m := by
  have := pkI_bound k m (by omega)
  unfold trnI; omega

set_option maxHeartbeats 8000000 in
theorem Looped_any (w : World) (c : Int) (a : Option Addr) (m cap : Nat) (h : Nat → Int) (k : Int) (hc : In64 c) (hk : In64 k) (H : RawV w a m h) :
    Calls Tryz.prog 3 #[.int .i64 c, .slice a m cap, .int .i64 k] w fun e w' => e = .returned (.bool true) ∧ Below w.heap.size w w' := by
  obtain ⟨q0, q1⟩ := pkI_bound c 8 (by decide)
  obtain ⟨n, hn⟩ : ∃ n : Nat, (n : Int) = 1 + pkI c 8 := ⟨(1 + pkI c 8).toNat, by omega⟩
  have h1 : 1 ≤ n := by omega
  have h8 : n ≤ 8 := by omega
  have HPk : Hid (∀ w' : World, Calls Tryz.prog 4 #[.int .i64 c, .int .i64 8] w' fun e w'' => e = .returned (.int .i64 (pkI c 8)) ∧ w'' = w') := fun w' => kPick_s w' c 8 hc (by decide) (by decide)
  have HR : Hid (∀ w' b, Below w.heap.size w w' → Calls Tryz.prog 5 #[.int .i64 (n : Int), .slice a m cap, .bool b] w' fun e w'' => ∃ oa oc, e = .returned (.slice oa n oc) ∧ OutV w'' oa ((List.range n).map (rgW n (hwI m h) b)) ∧ Below w'.heap.size w' w'') := fun w' b hb => ring_s w' n a m cap h (H.below hb) b h1 h8
  have HRt := hideP2 (fun w' hb => HR.out w' true hb)
  have HRf := hideP2 (fun w' hb => HR.out w' false hb)
  clear HR
  have HT1 := hideP2 (turn_lines n (rgW n (hwI m h) true) h1 (by omega) k hk)
  have HT2 := hideP2 (turn_lines n (rgW n (hwI m h) false) h1 (by omega) k hk)
  have HW1 := hideP2 (write_lines n (rgW n (hwI m h) true) (by omega) (trnI k n) (rgW_short n _ true))
  have HW2 := hideP2 (write_lines n (rgW n (hwI m h) false) (by omega) (trnI k n) (rgW_short n _ false))
  have HLp := hideP2 (fun w' => rg_looped w' n (trnI k n) (trnI k n) (hwI m h) (hwI_le m h) h1 h8 (trnI_lt k n h1) (trnI_lt k n h1))
  have HOv : Hid (2 ≤ n → ∀ w' b, Calls Tryz.prog 9 #[.int .i64 (n : Int), .bool b] w' fun e w'' => ∃ oa oc, e = .returned (.slice oa (ovC n b n) oc) ∧ OutV w'' oa ((List.range (ovC n b n)).map (ovW n)) ∧ Below w'.heap.size w' w'') := fun h2 w' b => overs_s w' n b h2 h8
  have e1 : ovC n true n = 2 * n := by unfold ovC; rw [if_neg (fun q => Bool.noConfusion q.2)]
  have e2 : ovC n false n = 2 * n - 1 := by unfold ovC; rw [if_pos ⟨rfl, rfl⟩]
  have HV1 := hideP2 (turn_lines (2 * n) (ovW n) (by omega) (by omega) k hk)
  have HV2 := hideP2 (turn_lines (2 * n - 1) (ovW n) (by omega) (by omega) k hk)
  have HX1 := hideP2 (write_lines (2 * n) (ovW n) (by omega) (trnI k (2 * n)) (ovW_short n))
  have HX2 := hideP2 (write_lines (2 * n - 1) (ovW n) (by omega) (trnI k (2 * n - 1)) (ovW_short n))
  have HLo := hideP2 (fun (h2 : 2 ≤ n) w' => ov_looped w' n (trnI k (2 * n)) (trnI k (2 * n - 1)) h2 h8 (trnI_lt k _ (by omega)) (trnI_lt k _ (by omega)))
  have HO1 : Hid (2 ≤ n → ∀ w', Calls Tryz.prog 9 #[.int .i64 (n : Int), .bool true] w' fun e w'' => ∃ oa oc, e = .returned (.slice oa (2 * n) oc) ∧ OutV w'' oa ((List.range (2 * n)).map (ovW n)) ∧ Below w'.heap.size w' w'') := fun h2 w' => by have := HOv.out h2 w' true; rw [e1] at this; exact this
  have HO2 : Hid (2 ≤ n → ∀ w', Calls Tryz.prog 9 #[.int .i64 (n : Int), .bool false] w' fun e w'' => ∃ oa oc, e = .returned (.slice oa (2 * n - 1) oc) ∧ OutV w'' oa ((List.range (2 * n - 1)).map (ovW n)) ∧ Below w'.heap.size w' w'') := fun h2 w' => by have := HOv.out h2 w' false; rw [e2] at this; exact this
  clear HOv e1 e2 hc hk H
  generalize hwI m h = hw at *
  generalize trnI k n = p at *
  generalize wrB ((turnI n p).map (rgW n hw true)) = s1 at *
  generalize wrB ((turnI n p).map (rgW n hw false)) = s2 at *
  generalize (turnI n p).map (rgW n hw true) = T1 at *
  generalize (turnI n p).map (rgW n hw false) = T2 at *
  generalize trnI k (2 * n) = p3 at *
  generalize trnI k (2 * n - 1) = p4 at *
  generalize wrB ((turnI (2 * n) p3).map (ovW n)) = s3 at *
  generalize wrB ((turnI (2 * n - 1) p4).map (ovW n)) = s4 at *
  generalize (turnI (2 * n) p3).map (ovW n) = T3 at *
  generalize (turnI (2 * n - 1) p4).map (ovW n) = T4 at *
  generalize (List.range n).map (rgW n hw true) = L1 at *
  generalize (List.range n).map (rgW n hw false) = L2 at *
  generalize (List.range (2 * n)).map (ovW n) = L3 at *
  generalize (List.range (2 * n - 1)).map (ovW n) = L4 at *
  generalize hm3 : 2 * n - 1 = m4 at *
  generalize hm4 : 2 * n = m3 at *
  clear hm3 hm4
  generalize pkI c 8 = pk at *
  go_enter Tryz.func3, Tryz.ntmps3
  go_wp2_with fail
  refine (HPk.out _).mono ?_
  rintro e w' ⟨rfl, hw'⟩; obtain rfl := hw'.symm
  clear HPk
  have hn' : (1 : Int) + pk = (n : Int) := hn.symm
  clear hn
  go_wp2_with fail
  refine (HRt.out _ (Below.refl _ _)).mono ?_
  rintro e w1 ⟨oa1, oc1, rfl, ho1, hb1⟩
  have HB1 := hideP2 hb1
  have HU1 := hideP2 ho1
  clear ho1 hb1
  go_wp2_with fail
  refine (HRf.out _ HB1.out).mono ?_
  rintro e w2 ⟨oa2, oc2, rfl, ho2, hb2⟩
  have HB2 : Hid (Below w.heap.size w w2) := HB1.out.trans (hb2.mono HB1.out.size)
  have HU1' := hideP2 (HU1.out.below hb2)
  have HU2 := hideP2 ho2
  clear ho2 hb2 HB1 HRt HRf HU1
  go_wp2_with fail
  refine (HT1.out _ _ _ HU1'.out).mono ?_
  rintro e w3 ⟨oa3, oc3, rfl, ho3, hb3⟩
  have HB3 : Hid (Below w.heap.size w w3) := HB2.out.trans (hb3.mono HB2.out.size)
  have HU2' := hideP2 (HU2.out.below hb3)
  have HU3 := hideP2 ho3
  clear ho3 hb3 HB2 HT1 HU1' HU2
  go_wp2_with fail
  refine (HW1.out _ _ _ HU3.out).mono ?_
  rintro e w' ⟨rfl, hw'⟩; obtain rfl := hw'.symm
  clear HW1 HU3
  go_wp2_with fail
  refine (HT2.out _ _ _ HU2'.out).mono ?_
  rintro e w4 ⟨oa4, oc4, rfl, ho4, hb4⟩
  have HB4 : Hid (Below w.heap.size w w4) := HB3.out.trans (hb4.mono HB3.out.size)
  have HU4 := hideP2 ho4
  clear ho4 hb4 HB3 HT2 HU2'
  go_wp2_with fail
  refine (HW2.out _ _ _ HU4.out).mono ?_
  rintro e w' ⟨rfl, hw'⟩; obtain rfl := hw'.symm
  clear HW2 HU4
  go_wp2_with fail
  refine (HLp.out _).mono ?_
  rintro e w5 ⟨rfl, hb5⟩
  have HB5 : Hid (Below w.heap.size w w5) := HB4.out.trans (hb5.mono HB4.out.size)
  clear hb5 HB4 HLp
  by_cases hone : n = 1
  · have b1 : ((n : Int) == 1) = true := by rw [beq_iff_eq]; omega
    clear HV1 HV2 HX1 HX2 HLo HO1 HO2
    go_wp2_with fail
    go_ret
    exact ⟨rfl, HB5.out⟩
  · have b1 : ((n : Int) == 1) = false := by rw [beq_eq_false_iff_ne]; omega
    have h2 : 2 ≤ n := by omega
    go_wp2_with fail
    refine (HO1.out h2 _).mono ?_
    rintro e w6 ⟨oa6, oc6, rfl, ho6, hb6⟩
    have HB6 : Hid (Below w.heap.size w w6) := HB5.out.trans (hb6.mono HB5.out.size)
    have HU6 := hideP2 ho6
    clear ho6 hb6 HB5 HO1
    go_wp2_with fail
    refine (HO2.out h2 _).mono ?_
    rintro e w7 ⟨oa7, oc7, rfl, ho7, hb7⟩
    have HB7 : Hid (Below w.heap.size w w7) := HB6.out.trans (hb7.mono HB6.out.size)
    have HU6' := hideP2 (HU6.out.below hb7)
    have HU7 := hideP2 ho7
    clear ho7 hb7 HB6 HO2 HU6
    go_wp2_with fail
    refine (HV1.out _ _ _ HU6'.out).mono ?_
    rintro e w8 ⟨oa8, oc8, rfl, ho8, hb8⟩
    have HB8 : Hid (Below w.heap.size w w8) := HB7.out.trans (hb8.mono HB7.out.size)
    have HU7' := hideP2 (HU7.out.below hb8)
    have HU8 := hideP2 ho8
    clear ho8 hb8 HB7 HV1 HU6' HU7
    go_wp2_with fail
    refine (HX1.out _ _ _ HU8.out).mono ?_
    rintro e w' ⟨rfl, hw'⟩; obtain rfl := hw'.symm
    clear HX1 HU8
    go_wp2_with fail
    refine (HV2.out _ _ _ HU7'.out).mono ?_
    rintro e w9 ⟨oa9, oc9, rfl, ho9, hb9⟩
    have HB9 : Hid (Below w.heap.size w w9) := HB8.out.trans (hb9.mono HB8.out.size)
    have HU9 := hideP2 ho9
    clear ho9 hb9 HB8 HV2 HU7'
    go_wp2_with fail
    refine (HX2.out _ _ _ HU9.out).mono ?_
    rintro e w' ⟨rfl, hw'⟩; obtain rfl := hw'.symm
    clear HX2 HU9
    go_wp2_with fail
    refine (HLo.out h2 _).mono ?_
    rintro e wz ⟨rfl, hbz⟩
    have HBz : Hid (Below w.heap.size w wz) := HB9.out.trans (hbz.mono HB9.out.size)
    clear hbz HB9 HLo
    go_wp2_with fail
    go_ret
    exact ⟨rfl, HBz.out⟩
end Go.Proofs.YtnbpdffdnphbeaaGreat
