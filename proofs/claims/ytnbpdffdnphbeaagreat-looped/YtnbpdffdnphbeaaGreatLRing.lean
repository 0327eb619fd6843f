/- What ring of statutekeep gives: n conclusions, each of which names the next. -/
import Derived.Test.YtnbpdffdnphbeaaGreatPLoop3
namespace Go.Proofs.YtnbpdffdnphbeaaGreat
open Go.RowKit

/-- How each names the next, by the raw numbers. -/
def hwI (m : Nat) (h : Nat → Int) (i : Nat) : Nat := (pkI (rawI m h i) 3).toNat
theorem hwI_le (m : Nat) (h : Nat → Int) (i : Nat) : hwI m h i ≤ 2 := by
  have := pkI_bound (rawI m h i) 3 (by decide)
  unfold hwI; omega

set_option maxRecDepth 20000 in
set_option maxHeartbeats 8000000 in
theorem ring_s (w : World) (n : Nat) (a : Option Addr) (m c : Nat) (h : Nat → Int) (H : RawV w a m h) (shut : Bool) (h1 : 1 ≤ n) (h8 : n ≤ 8) :
    Calls Tryz.prog 5 #[.int .i64 n, .slice a m c, .bool shut] w fun e w' => ∃ oa oc, e = .returned (.slice oa n oc) ∧ OutV w' oa ((List.range n).map (rgW n (hwI m h) shut)) ∧ Below w.heap.size w w' := by
  obtain ⟨i0, hi0, hz0, hz1, hz2⟩ := info_parts infoStrs
  obtain ⟨j0, hj0, hy0, hy1, hy2⟩ := info_parts infoStr
  have HRaw := hideP2 H
  have HAt : Hid (∀ (w' : World) (i : Nat), Below w.heap.size w w' → i < 8 → Calls Tryz.prog 11 #[.slice a m c, .int .i64 (i : Int)] w' fun e w'' => e = .returned (.int .i64 (rawI m h i)) ∧ w'' = w') := fun w' i hb hi => kAt_s w' a m c h (H.below hb) i hi
  have HPk0 : Hid (∀ (w' : World) (i : Nat), Calls Tryz.prog 4 #[.int .i64 (rawI m h i), .int .i64 3] w' fun e w'' => e = .returned (.int .i64 (pkI (rawI m h i) 3)) ∧ w'' = w') := fun w' i => kPick_s w' (rawI m h i) 3 (H.in i) (by decide) (by decide)
  have HKd0 : Hid (∀ i, hwI m h i = (pkI (rawI m h i) 3).toNat ∧ 0 ≤ pkI (rawI m h i) 3 ∧ pkI (rawI m h i) 3 < 3) := fun i => ⟨rfl, pkI_bound (rawI m h i) 3 (by decide)⟩
  generalize hwI m h = hw at *
  clear H
  go_enter Tryz.func5, Tryz.ntmps5
  go_wp2_with fail
  go_loopw [7, 8] (fun ov iv wr => ∃ (i : Nat) (vs : List Value), i ≤ n ∧ iv = .int .i64 i ∧ Hid (wr.ownsRow w.heap.size 32 1 ov i vs) ∧ Hid (AllIn wr vs ((List.range i).map (rgW n hw shut))) ∧ Hid (Below w.heap.size w wr)) (fun _ iv _ => n - (intOf iv).toNat)
  case atStart => exact ⟨0, [], Nat.zero_le _, rfl, hideP2 (World.ownsRow_nil _ _ _ _), hideP2 trivial, hideP2 (Below.refl _ _)⟩
  case round =>
    obtain ⟨i, vs, hi, rfl, HO, HA, HB⟩ := hrel
    by_cases hlt : i < n
    · have hj : (i + 1) % n < n := Nat.mod_lt _ (by omega)
      have hmod : ((i : Int) + 1).tmod (n : Int) = (((i + 1) % n : Nat) : Int) := by
        rw [show ((i : Int) + 1) = ((i + 1 : Nat) : Int) by omega]; rfl
      have HN1 : Hid (∀ w', Calls Tryz.prog 10 #[.int .u8 114, .int .i64 (i : Int)] w' fun e w'' => e = .returned (.string ⟨(nmB 114 i).toArray⟩) ∧ Below w'.heap.size w' w'') := fun w' => kName_s w' 114 i (by omega)
      have HN2 : Hid (∀ w', Calls Tryz.prog 10 #[.int .u8 99, .int .i64 (i : Int)] w' fun e w'' => e = .returned (.string ⟨(nmB 99 i).toArray⟩) ∧ Below w'.heap.size w' w'') := fun w' => kName_s w' 99 i (by omega)
      have HN3 : Hid (∀ w', Calls Tryz.prog 10 #[.int .u8 99, .int .i64 (((i + 1) % n : Nat) : Int)] w' fun e w'' => e = .returned (.string ⟨(nmB 99 ((i + 1) % n)).toArray⟩) ∧ Below w'.heap.size w' w'') := fun w' => kName_s w' 99 ((i + 1) % n) (by omega)
      have HR : Hid (∀ kd, rgKd n hw shut i = kd → rgW n hw shut i = kRule :: nmB 114 i :: [58] :: nmB 99 i :: [61] :: rgTail (nmB 99 ((i + 1) % n)) kd) := fun kd e => by unfold rgW; rw [e]
      have HRg : Hid ((List.range (i + 1)).map (rgW n hw shut) = (List.range i).map (rgW n hw shut) ++ [rgW n hw shut i]) := by unfold Hid; rw [List.range_succ, List.map_append]; rfl
      have HAi := hideP2 (HAt.out wr i HB.out (by omega))
      have HPk := hideP2 (fun w' => HPk0.out w' i)
      obtain ⟨hkd, hk0, hk3⟩ := HKd0.out i
      have HAt2 : Hid (∀ w', Below wr.heap.size wr w' → Calls Tryz.prog 11 #[.slice a m c, .int .i64 (i : Int)] w' fun e w'' => e = .returned (.int .i64 (rawI m h i)) ∧ w'' = w') := fun w' hb => HAt.out w' i (HB.out.trans (hb.mono HB.out.size)) (by omega)
      have hBw := HB.out.size
      clear HAt HPk0 HKd0 HAi HRaw
      generalize nmB 114 i = ra at *
      generalize nmB 99 i = ca at *
      generalize nmB 99 ((i + 1) % n) = nx at *
      generalize (i + 1) % n = jn at *
      generalize rawI m h i = z at *
      generalize pkI z 3 = kz at *
      go_wp2_with fail
      refine (HN1.out _).mono ?_
      rintro e w1 ⟨rfl, hb1⟩
      have HB1 := hideP2 hb1
      clear hb1 HN1
      go_wp2_with fail
      refine (HN2.out _).mono ?_
      rintro e w2 ⟨rfl, hb2⟩
      have HB2 : Hid (Below wr.heap.size wr w2) := HB1.out.trans (hb2.mono HB1.out.size)
      have hs2 := HB2.out.size
      clear hb2 HN2 HB1
      go_wp2_with fail
      refine (HN3.out _).mono ?_
      rintro e w3 ⟨rfl, hb3⟩
      have HL : Hid (w3.ownsRow w2.heap.size 9 1 (.slice (some ⟨w2.heap.size, 0, none⟩) 5 5) 5 (strC [kRule, ra, [58], ca, [61]])) := owns_below ⟨rfl, .inr ⟨w2.heap.size, 5, _, rfl, Nat.le_refl _, hb_end _ _, by decide, by decide, rfl, rfl⟩⟩ hb3
      have HB3 : Hid (Below wr.heap.size wr w3) := (HB2.out.alloc hs2 _).trans (hb3.mono (by simp; omega))
      have hs3 := HB3.out.size
      have hs32 : w2.heap.size < w3.heap.size := Nat.lt_of_lt_of_le (lt_end _ _) hb3.size
      clear hb3 HN3
      go_wp2_with fail
      refine (HAt2.out _ HB3.out).mono ?_
      rintro e w' ⟨rfl, hw'⟩; obtain rfl := hw'.symm
      clear HAt2 HB2
      by_cases hlast : i = n - 1
      · have b1 : ((i : Int) == (n : Int) - 1) = true := by rw [beq_iff_eq]; omega
        cases hsh : shut with
        | false =>
          subst hsh
          have HLst := hideP2 hlast
          clear hlast
          have HKd : Hid (hw i = kz.toNat) := hkd
          clear hkd
          go_wp2_with (at_builtin; refine wpList_append_own _ rfl _ _ 32 rfl w2.heap.size 9 j0 _ 1 16 Tryz.underlying32 hj0 hy0 hy1 hy2 rfl (by decide) _ _ _ rfl (HL.out.alloc _) ⟨w3.heap.size, 0, none⟩ 4 4 (strC [[49], kWhen, kAlwW, kEnd]) rfl rfl ?c1 ?c2 ?c3 ?c4 ?c5 ?_)
          case c1 => exact news_cells _ _ _ _ rfl
          case c2 => intro u hu; obtain ⟨s, _, rfl⟩ := List.mem_map.1 hu; rfl
          case c3 => unfold maxLen; omega
          case c4 => omega
          case c5 => simp; omega
          intro v4 w4 hown4 hgrow4 _
          have HB4 : Hid (Below wr.heap.size wr w4) := (HB3.out.alloc hs3 _).grown hgrow4 (by simp; omega) (fun k hk => by have := own_block_le HL.out k hk; omega)
          have hs4 := HB4.out.size
          obtain ⟨la, lc, rfl, hla⟩ := own_celT hown4
          have HI : Hid (InT w4 (.slice la (5 + 4) lc) (rgW n hw false i)) := by unfold Hid; rw [HR.out 3 (by unfold rgKd; rw [if_pos ⟨HLst.out, rfl⟩])]; exact ⟨la, lc, rfl, hla⟩
          clear hown4 hgrow4 hla HR HKd
          go_wp2_with (at_builtin; refine wpList_append_own _ rfl _ _ 24 rfl w.heap.size 32 i0 _ 1 24 Tryz.underlying24 hi0 hz0 hz1 hz2 rfl (by decide) _ _ _ rfl ((owns_below HO.out HB4.out).alloc _) ⟨w4.heap.size, 0, none⟩ 1 1 [.slice la (5 + 4) lc] rfl rfl ?c1 ?c2 ?c3 ?c4 ?c5 ?_)
          case c1 => exact news_cells _ _ _ _ rfl
          case c2 => intro u hu; simp at hu; subst hu; rfl
          case c3 => unfold maxLen; omega
          case c4 => omega
          case c5 => simp; omega
          intro v5 w5 hown5 hgrow5 _
          have HB5 : Hid (Below w.heap.size w w5) := ((HB.out.trans (HB4.out.mono HB.out.size)).alloc (by omega) _).grown hgrow5 (by simp; omega) (own_block_le HO.out)
          have HO5 := hideP2 hown5
          have HA5 : Hid (AllIn w5 (vs ++ [.slice la (5 + 4) lc]) ((List.range (i + 1)).map (rgW n hw false))) := by
            unfold Hid; rw [HRg.out]
            exact AllIn.snoc ((HI.out.below ((Below.refl _ _).alloc (Nat.le_refl _) _)).grown ((owns_below HO.out HB4.out).alloc _) hgrow5) (((HA.out.below HB4.out).below ((Below.refl _ _).alloc (Nat.le_refl _) _)).grown ((owns_below HO.out HB4.out).alloc _) hgrow5)
          clear hown5 hgrow5 HI HRg HO HA HB4 HB
          go_wp2_with fail
          go_roundw
          case rel => exact ⟨i + 1, _, by omega, by go_num, HO5, HA5, HB5⟩
          case measure => simp [intOf]; omega
        | true =>
          subst hsh
          have hnl : ¬ (i = n - 1 ∧ true = false) := fun q => Bool.noConfusion q.2
          clear hlast
          have hkz : kz = 0 ∨ kz = 1 ∨ kz = 2 := by omega
          clear hk0 hk3
          rcases hkz with rfl | rfl | rfl
          · have HKd : Hid (hw i = 0) := hkd
            clear hkd
            go_wp2_with fail
            refine (HPk.out _).mono ?_
            rintro e w' ⟨rfl, hq⟩; obtain rfl := hq.symm
            go_wp2_with (at_builtin; refine wpList_append_own _ rfl _ _ 32 rfl w2.heap.size 9 j0 _ 1 16 Tryz.underlying32 hj0 hy0 hy1 hy2 rfl (by decide) _ _ _ rfl (HL.out.alloc _) ⟨w3.heap.size, 0, none⟩ 4 4 (strC [nx, kWhen, kAlwW, kEnd]) rfl rfl ?c1 ?c2 ?c3 ?c4 ?c5 ?_)
            case c1 => exact news_cells _ _ _ _ rfl
            case c2 => intro u hu; obtain ⟨s, _, rfl⟩ := List.mem_map.1 hu; rfl
            case c3 => unfold maxLen; omega
            case c4 => omega
            case c5 => simp; omega
            intro v4 w4 hown4 hgrow4 _
            have HB4 : Hid (Below wr.heap.size wr w4) := (HB3.out.alloc hs3 _).grown hgrow4 (by simp; omega) (fun k hk => by have := own_block_le HL.out k hk; omega)
            have hs4 := HB4.out.size
            obtain ⟨la, lc, rfl, hla⟩ := own_celT hown4
            have HI : Hid (InT w4 (.slice la (5 + 4) lc) (rgW n hw true i)) := by unfold Hid; rw [HR.out 0 (by unfold rgKd; rw [if_neg hnl]; exact HKd.out)]; exact ⟨la, lc, rfl, hla⟩
            clear hown4 hgrow4 hla HR HKd
            go_wp2_with (at_builtin; refine wpList_append_own _ rfl _ _ 24 rfl w.heap.size 32 i0 _ 1 24 Tryz.underlying24 hi0 hz0 hz1 hz2 rfl (by decide) _ _ _ rfl ((owns_below HO.out HB4.out).alloc _) ⟨w4.heap.size, 0, none⟩ 1 1 [.slice la (5 + 4) lc] rfl rfl ?c1 ?c2 ?c3 ?c4 ?c5 ?_)
            case c1 => exact news_cells _ _ _ _ rfl
            case c2 => intro u hu; simp at hu; subst hu; rfl
            case c3 => unfold maxLen; omega
            case c4 => omega
            case c5 => simp; omega
            intro v5 w5 hown5 hgrow5 _
            have HB5 : Hid (Below w.heap.size w w5) := ((HB.out.trans (HB4.out.mono HB.out.size)).alloc (by omega) _).grown hgrow5 (by simp; omega) (own_block_le HO.out)
            have HO5 := hideP2 hown5
            have HA5 : Hid (AllIn w5 (vs ++ [.slice la (5 + 4) lc]) ((List.range (i + 1)).map (rgW n hw true))) := by
              unfold Hid; rw [HRg.out]
              exact AllIn.snoc ((HI.out.below ((Below.refl _ _).alloc (Nat.le_refl _) _)).grown ((owns_below HO.out HB4.out).alloc _) hgrow5) (((HA.out.below HB4.out).below ((Below.refl _ _).alloc (Nat.le_refl _) _)).grown ((owns_below HO.out HB4.out).alloc _) hgrow5)
            clear hown5 hgrow5 HI HRg HO HA HB4 HB
            go_wp2_with fail
            go_roundw
            case rel => exact ⟨i + 1, _, by omega, by go_num, HO5, HA5, HB5⟩
            case measure => simp [intOf]; omega
          · have HKd : Hid (hw i = 1) := hkd
            clear hkd
            go_wp2_with fail
            refine (HPk.out _).mono ?_
            rintro e w' ⟨rfl, hq⟩; obtain rfl := hq.symm
            go_wp2_with fail
            refine (HPk.out _).mono ?_
            rintro e w' ⟨rfl, hq⟩; obtain rfl := hq.symm
            go_wp2_with (at_builtin; refine wpList_append_own _ rfl _ _ 32 rfl w2.heap.size 9 j0 _ 1 16 Tryz.underlying32 hj0 hy0 hy1 hy2 rfl (by decide) _ _ _ rfl (HL.out.alloc _) ⟨w3.heap.size, 0, none⟩ 5 5 (strC [[50], kWhen, kHasW, nx, kEnd]) rfl rfl ?c1 ?c2 ?c3 ?c4 ?c5 ?_)
            case c1 => exact news_cells _ _ _ _ rfl
            case c2 => intro u hu; obtain ⟨s, _, rfl⟩ := List.mem_map.1 hu; rfl
            case c3 => unfold maxLen; omega
            case c4 => omega
            case c5 => simp; omega
            intro v4 w4 hown4 hgrow4 _
            have HB4 : Hid (Below wr.heap.size wr w4) := (HB3.out.alloc hs3 _).grown hgrow4 (by simp; omega) (fun k hk => by have := own_block_le HL.out k hk; omega)
            have hs4 := HB4.out.size
            obtain ⟨la, lc, rfl, hla⟩ := own_celT hown4
            have HI : Hid (InT w4 (.slice la (5 + 5) lc) (rgW n hw true i)) := by unfold Hid; rw [HR.out 1 (by unfold rgKd; rw [if_neg hnl]; exact HKd.out)]; exact ⟨la, lc, rfl, hla⟩
            clear hown4 hgrow4 hla HR HKd
            go_wp2_with (at_builtin; refine wpList_append_own _ rfl _ _ 24 rfl w.heap.size 32 i0 _ 1 24 Tryz.underlying24 hi0 hz0 hz1 hz2 rfl (by decide) _ _ _ rfl ((owns_below HO.out HB4.out).alloc _) ⟨w4.heap.size, 0, none⟩ 1 1 [.slice la (5 + 5) lc] rfl rfl ?c1 ?c2 ?c3 ?c4 ?c5 ?_)
            case c1 => exact news_cells _ _ _ _ rfl
            case c2 => intro u hu; simp at hu; subst hu; rfl
            case c3 => unfold maxLen; omega
            case c4 => omega
            case c5 => simp; omega
            intro v5 w5 hown5 hgrow5 _
            have HB5 : Hid (Below w.heap.size w w5) := ((HB.out.trans (HB4.out.mono HB.out.size)).alloc (by omega) _).grown hgrow5 (by simp; omega) (own_block_le HO.out)
            have HO5 := hideP2 hown5
            have HA5 : Hid (AllIn w5 (vs ++ [.slice la (5 + 5) lc]) ((List.range (i + 1)).map (rgW n hw true))) := by
              unfold Hid; rw [HRg.out]
              exact AllIn.snoc ((HI.out.below ((Below.refl _ _).alloc (Nat.le_refl _) _)).grown ((owns_below HO.out HB4.out).alloc _) hgrow5) (((HA.out.below HB4.out).below ((Below.refl _ _).alloc (Nat.le_refl _) _)).grown ((owns_below HO.out HB4.out).alloc _) hgrow5)
            clear hown5 hgrow5 HI HRg HO HA HB4 HB
            go_wp2_with fail
            go_roundw
            case rel => exact ⟨i + 1, _, by omega, by go_num, HO5, HA5, HB5⟩
            case measure => simp [intOf]; omega
          · have HKd : Hid (hw i = 2) := hkd
            clear hkd
            go_wp2_with fail
            refine (HPk.out _).mono ?_
            rintro e w' ⟨rfl, hq⟩; obtain rfl := hq.symm
            go_wp2_with fail
            refine (HPk.out _).mono ?_
            rintro e w' ⟨rfl, hq⟩; obtain rfl := hq.symm
            go_wp2_with (at_builtin; refine wpList_append_own _ rfl _ _ 32 rfl w2.heap.size 9 j0 _ 1 16 Tryz.underlying32 hj0 hy0 hy1 hy2 rfl (by decide) _ _ _ rfl (HL.out.alloc _) ⟨w3.heap.size, 0, none⟩ 12 12 (strC [[51], [45], [52], [42], nx, kWhen, kNot, kHasW, nx, kOr, kAlwW, kEnd]) rfl rfl ?c1 ?c2 ?c3 ?c4 ?c5 ?_)
            case c1 => exact news_cells _ _ _ _ rfl
            case c2 => intro u hu; obtain ⟨s, _, rfl⟩ := List.mem_map.1 hu; rfl
            case c3 => unfold maxLen; omega
            case c4 => omega
            case c5 => simp; omega
            intro v4 w4 hown4 hgrow4 _
            have HB4 : Hid (Below wr.heap.size wr w4) := (HB3.out.alloc hs3 _).grown hgrow4 (by simp; omega) (fun k hk => by have := own_block_le HL.out k hk; omega)
            have hs4 := HB4.out.size
            obtain ⟨la, lc, rfl, hla⟩ := own_celT hown4
            have HI : Hid (InT w4 (.slice la (5 + 12) lc) (rgW n hw true i)) := by unfold Hid; rw [HR.out 2 (by unfold rgKd; rw [if_neg hnl]; exact HKd.out)]; exact ⟨la, lc, rfl, hla⟩
            clear hown4 hgrow4 hla HR HKd
            go_wp2_with (at_builtin; refine wpList_append_own _ rfl _ _ 24 rfl w.heap.size 32 i0 _ 1 24 Tryz.underlying24 hi0 hz0 hz1 hz2 rfl (by decide) _ _ _ rfl ((owns_below HO.out HB4.out).alloc _) ⟨w4.heap.size, 0, none⟩ 1 1 [.slice la (5 + 12) lc] rfl rfl ?c1 ?c2 ?c3 ?c4 ?c5 ?_)
            case c1 => exact news_cells _ _ _ _ rfl
            case c2 => intro u hu; simp at hu; subst hu; rfl
            case c3 => unfold maxLen; omega
            case c4 => omega
            case c5 => simp; omega
            intro v5 w5 hown5 hgrow5 _
            have HB5 : Hid (Below w.heap.size w w5) := ((HB.out.trans (HB4.out.mono HB.out.size)).alloc (by omega) _).grown hgrow5 (by simp; omega) (own_block_le HO.out)
            have HO5 := hideP2 hown5
            have HA5 : Hid (AllIn w5 (vs ++ [.slice la (5 + 12) lc]) ((List.range (i + 1)).map (rgW n hw true))) := by
              unfold Hid; rw [HRg.out]
              exact AllIn.snoc ((HI.out.below ((Below.refl _ _).alloc (Nat.le_refl _) _)).grown ((owns_below HO.out HB4.out).alloc _) hgrow5) (((HA.out.below HB4.out).below ((Below.refl _ _).alloc (Nat.le_refl _) _)).grown ((owns_below HO.out HB4.out).alloc _) hgrow5)
            clear hown5 hgrow5 HI HRg HO HA HB4 HB
            go_wp2_with fail
            go_roundw
            case rel => exact ⟨i + 1, _, by omega, by go_num, HO5, HA5, HB5⟩
            case measure => simp [intOf]; omega
      · have b1 : ((i : Int) == (n : Int) - 1) = false := by rw [beq_eq_false_iff_ne]; omega
        have hnl : ¬ (i = n - 1 ∧ shut = false) := fun q => hlast q.1
        clear hlast
        have hkz : kz = 0 ∨ kz = 1 ∨ kz = 2 := by omega
        clear hk0 hk3
        rcases hkz with rfl | rfl | rfl
        · have HKd : Hid (hw i = 0) := hkd
          clear hkd
          go_wp2_with fail
          refine (HPk.out _).mono ?_
          rintro e w' ⟨rfl, hq⟩; obtain rfl := hq.symm
          go_wp2_with (at_builtin; refine wpList_append_own _ rfl _ _ 32 rfl w2.heap.size 9 j0 _ 1 16 Tryz.underlying32 hj0 hy0 hy1 hy2 rfl (by decide) _ _ _ rfl (HL.out.alloc _) ⟨w3.heap.size, 0, none⟩ 4 4 (strC [nx, kWhen, kAlwW, kEnd]) rfl rfl ?c1 ?c2 ?c3 ?c4 ?c5 ?_)
          case c1 => exact news_cells _ _ _ _ rfl
          case c2 => intro u hu; obtain ⟨s, _, rfl⟩ := List.mem_map.1 hu; rfl
          case c3 => unfold maxLen; omega
          case c4 => omega
          case c5 => simp; omega
          intro v4 w4 hown4 hgrow4 _
          have HB4 : Hid (Below wr.heap.size wr w4) := (HB3.out.alloc hs3 _).grown hgrow4 (by simp; omega) (fun k hk => by have := own_block_le HL.out k hk; omega)
          have hs4 := HB4.out.size
          obtain ⟨la, lc, rfl, hla⟩ := own_celT hown4
          have HI : Hid (InT w4 (.slice la (5 + 4) lc) (rgW n hw shut i)) := by unfold Hid; rw [HR.out 0 (by unfold rgKd; rw [if_neg hnl]; exact HKd.out)]; exact ⟨la, lc, rfl, hla⟩
          clear hown4 hgrow4 hla HR HKd
          go_wp2_with (at_builtin; refine wpList_append_own _ rfl _ _ 24 rfl w.heap.size 32 i0 _ 1 24 Tryz.underlying24 hi0 hz0 hz1 hz2 rfl (by decide) _ _ _ rfl ((owns_below HO.out HB4.out).alloc _) ⟨w4.heap.size, 0, none⟩ 1 1 [.slice la (5 + 4) lc] rfl rfl ?c1 ?c2 ?c3 ?c4 ?c5 ?_)
          case c1 => exact news_cells _ _ _ _ rfl
          case c2 => intro u hu; simp at hu; subst hu; rfl
          case c3 => unfold maxLen; omega
          case c4 => omega
          case c5 => simp; omega
          intro v5 w5 hown5 hgrow5 _
          have HB5 : Hid (Below w.heap.size w w5) := ((HB.out.trans (HB4.out.mono HB.out.size)).alloc (by omega) _).grown hgrow5 (by simp; omega) (own_block_le HO.out)
          have HO5 := hideP2 hown5
          have HA5 : Hid (AllIn w5 (vs ++ [.slice la (5 + 4) lc]) ((List.range (i + 1)).map (rgW n hw shut))) := by
            unfold Hid; rw [HRg.out]
            exact AllIn.snoc ((HI.out.below ((Below.refl _ _).alloc (Nat.le_refl _) _)).grown ((owns_below HO.out HB4.out).alloc _) hgrow5) (((HA.out.below HB4.out).below ((Below.refl _ _).alloc (Nat.le_refl _) _)).grown ((owns_below HO.out HB4.out).alloc _) hgrow5)
          clear hown5 hgrow5 HI HRg HO HA HB4 HB
          go_wp2_with fail
          go_roundw
          case rel => exact ⟨i + 1, _, by omega, by go_num, HO5, HA5, HB5⟩
          case measure => simp [intOf]; omega
        · have HKd : Hid (hw i = 1) := hkd
          clear hkd
          go_wp2_with fail
          refine (HPk.out _).mono ?_
          rintro e w' ⟨rfl, hq⟩; obtain rfl := hq.symm
          go_wp2_with fail
          refine (HPk.out _).mono ?_
          rintro e w' ⟨rfl, hq⟩; obtain rfl := hq.symm
          go_wp2_with (at_builtin; refine wpList_append_own _ rfl _ _ 32 rfl w2.heap.size 9 j0 _ 1 16 Tryz.underlying32 hj0 hy0 hy1 hy2 rfl (by decide) _ _ _ rfl (HL.out.alloc _) ⟨w3.heap.size, 0, none⟩ 5 5 (strC [[50], kWhen, kHasW, nx, kEnd]) rfl rfl ?c1 ?c2 ?c3 ?c4 ?c5 ?_)
          case c1 => exact news_cells _ _ _ _ rfl
          case c2 => intro u hu; obtain ⟨s, _, rfl⟩ := List.mem_map.1 hu; rfl
          case c3 => unfold maxLen; omega
          case c4 => omega
          case c5 => simp; omega
          intro v4 w4 hown4 hgrow4 _
          have HB4 : Hid (Below wr.heap.size wr w4) := (HB3.out.alloc hs3 _).grown hgrow4 (by simp; omega) (fun k hk => by have := own_block_le HL.out k hk; omega)
          have hs4 := HB4.out.size
          obtain ⟨la, lc, rfl, hla⟩ := own_celT hown4
          have HI : Hid (InT w4 (.slice la (5 + 5) lc) (rgW n hw shut i)) := by unfold Hid; rw [HR.out 1 (by unfold rgKd; rw [if_neg hnl]; exact HKd.out)]; exact ⟨la, lc, rfl, hla⟩
          clear hown4 hgrow4 hla HR HKd
          go_wp2_with (at_builtin; refine wpList_append_own _ rfl _ _ 24 rfl w.heap.size 32 i0 _ 1 24 Tryz.underlying24 hi0 hz0 hz1 hz2 rfl (by decide) _ _ _ rfl ((owns_below HO.out HB4.out).alloc _) ⟨w4.heap.size, 0, none⟩ 1 1 [.slice la (5 + 5) lc] rfl rfl ?c1 ?c2 ?c3 ?c4 ?c5 ?_)
          case c1 => exact news_cells _ _ _ _ rfl
          case c2 => intro u hu; simp at hu; subst hu; rfl
          case c3 => unfold maxLen; omega
          case c4 => omega
          case c5 => simp; omega
          intro v5 w5 hown5 hgrow5 _
          have HB5 : Hid (Below w.heap.size w w5) := ((HB.out.trans (HB4.out.mono HB.out.size)).alloc (by omega) _).grown hgrow5 (by simp; omega) (own_block_le HO.out)
          have HO5 := hideP2 hown5
          have HA5 : Hid (AllIn w5 (vs ++ [.slice la (5 + 5) lc]) ((List.range (i + 1)).map (rgW n hw shut))) := by
            unfold Hid; rw [HRg.out]
            exact AllIn.snoc ((HI.out.below ((Below.refl _ _).alloc (Nat.le_refl _) _)).grown ((owns_below HO.out HB4.out).alloc _) hgrow5) (((HA.out.below HB4.out).below ((Below.refl _ _).alloc (Nat.le_refl _) _)).grown ((owns_below HO.out HB4.out).alloc _) hgrow5)
          clear hown5 hgrow5 HI HRg HO HA HB4 HB
          go_wp2_with fail
          go_roundw
          case rel => exact ⟨i + 1, _, by omega, by go_num, HO5, HA5, HB5⟩
          case measure => simp [intOf]; omega
        · have HKd : Hid (hw i = 2) := hkd
          clear hkd
          go_wp2_with fail
          refine (HPk.out _).mono ?_
          rintro e w' ⟨rfl, hq⟩; obtain rfl := hq.symm
          go_wp2_with fail
          refine (HPk.out _).mono ?_
          rintro e w' ⟨rfl, hq⟩; obtain rfl := hq.symm
          go_wp2_with (at_builtin; refine wpList_append_own _ rfl _ _ 32 rfl w2.heap.size 9 j0 _ 1 16 Tryz.underlying32 hj0 hy0 hy1 hy2 rfl (by decide) _ _ _ rfl (HL.out.alloc _) ⟨w3.heap.size, 0, none⟩ 12 12 (strC [[51], [45], [52], [42], nx, kWhen, kNot, kHasW, nx, kOr, kAlwW, kEnd]) rfl rfl ?c1 ?c2 ?c3 ?c4 ?c5 ?_)
          case c1 => exact news_cells _ _ _ _ rfl
          case c2 => intro u hu; obtain ⟨s, _, rfl⟩ := List.mem_map.1 hu; rfl
          case c3 => unfold maxLen; omega
          case c4 => omega
          case c5 => simp; omega
          intro v4 w4 hown4 hgrow4 _
          have HB4 : Hid (Below wr.heap.size wr w4) := (HB3.out.alloc hs3 _).grown hgrow4 (by simp; omega) (fun k hk => by have := own_block_le HL.out k hk; omega)
          have hs4 := HB4.out.size
          obtain ⟨la, lc, rfl, hla⟩ := own_celT hown4
          have HI : Hid (InT w4 (.slice la (5 + 12) lc) (rgW n hw shut i)) := by unfold Hid; rw [HR.out 2 (by unfold rgKd; rw [if_neg hnl]; exact HKd.out)]; exact ⟨la, lc, rfl, hla⟩
          clear hown4 hgrow4 hla HR HKd
          go_wp2_with (at_builtin; refine wpList_append_own _ rfl _ _ 24 rfl w.heap.size 32 i0 _ 1 24 Tryz.underlying24 hi0 hz0 hz1 hz2 rfl (by decide) _ _ _ rfl ((owns_below HO.out HB4.out).alloc _) ⟨w4.heap.size, 0, none⟩ 1 1 [.slice la (5 + 12) lc] rfl rfl ?c1 ?c2 ?c3 ?c4 ?c5 ?_)
          case c1 => exact news_cells _ _ _ _ rfl
          case c2 => intro u hu; simp at hu; subst hu; rfl
          case c3 => unfold maxLen; omega
          case c4 => omega
          case c5 => simp; omega
          intro v5 w5 hown5 hgrow5 _
          have HB5 : Hid (Below w.heap.size w w5) := ((HB.out.trans (HB4.out.mono HB.out.size)).alloc (by omega) _).grown hgrow5 (by simp; omega) (own_block_le HO.out)
          have HO5 := hideP2 hown5
          have HA5 : Hid (AllIn w5 (vs ++ [.slice la (5 + 12) lc]) ((List.range (i + 1)).map (rgW n hw shut))) := by
            unfold Hid; rw [HRg.out]
            exact AllIn.snoc ((HI.out.below ((Below.refl _ _).alloc (Nat.le_refl _) _)).grown ((owns_below HO.out HB4.out).alloc _) hgrow5) (((HA.out.below HB4.out).below ((Below.refl _ _).alloc (Nat.le_refl _) _)).grown ((owns_below HO.out HB4.out).alloc _) hgrow5)
          clear hown5 hgrow5 HI HRg HO HA HB4 HB
          go_wp2_with fail
          go_roundw
          case rel => exact ⟨i + 1, _, by omega, by go_num, HO5, HA5, HB5⟩
          case measure => simp [intOf]; omega
    · obtain rfl : i = n := by omega
      obtain ⟨oa, oc, rfl, hoc⟩ := own_celT HO.out
      go_wp2_with fail
      go_ret
      exact ⟨oa, oc, rfl, ⟨vs, hoc, HA.out⟩, HB.out⟩
end Go.Proofs.YtnbpdffdnphbeaaGreat
