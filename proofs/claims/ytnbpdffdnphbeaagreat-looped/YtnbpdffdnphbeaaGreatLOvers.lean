/- What overs of statutekeep gives: n rules of one conclusion, each put over the next. -/
import Derived.Test.YtnbpdffdnphbeaaGreatPLoop3
namespace Go.Proofs.YtnbpdffdnphbeaaGreat
open Go.RowKit

theorem cel_block {w : World} {g : Nat} {cs : Array Value} {t : TypeId} {fz : Nat × Nat} {xs : List Value} (h : w.heap[g]? = some (.cells cs t fz)) (e : cs.toList = xs) : CelT w t (some ⟨g, 0, none⟩) xs :=
  .inr ⟨g, cs, fz, rfl, h, fun j _ => by rw [← e]; simp⟩
/-- How many lines there are ahead of the i-th rule's. -/
def ovC (n : Nat) (shut : Bool) (i : Nat) : Nat := if i = n ∧ shut = false then 2 * n - 1 else 2 * i
theorem ov_range (n j : Nat) : (List.range (j + 1)).map (ovW n) = (List.range j).map (ovW n) ++ [ovW n j] := by rw [List.range_succ, List.map_append]; rfl
theorem ovW_even (n i : Nat) : ovW n (2 * i) = [kRule, nmB 114 i, [58], [99], [61], [49], kWhen, kAlwW, kEnd] := by
  unfold ovW; rw [if_pos (by omega), show 2 * i / 2 = i by omega]; rfl
theorem ovW_odd (n i : Nat) : ovW n (2 * i + 1) = [kOver, nmB 114 i, nmB 114 ((i + 1) % n), kEnd] := by
  unfold ovW; rw [if_neg (by omega), show (2 * i + 1) / 2 = i by omega]

set_option maxRecDepth 20000 in
set_option maxHeartbeats 8000000 in
theorem overs_s (w : World) (n : Nat) (shut : Bool) (h1 : 2 ≤ n) (h8 : n ≤ 8) :
    Calls Tryz.prog 9 #[.int .i64 n, .bool shut] w fun e w' => ∃ oa oc, e = .returned (.slice oa (ovC n shut n) oc) ∧ OutV w' oa ((List.range (ovC n shut n)).map (ovW n)) ∧ Below w.heap.size w w' := by
  obtain ⟨i0, hi0, hz0, hz1, hz2⟩ := info_parts infoStrs
  go_enter Tryz.func9, Tryz.ntmps9
  go_wp2_with fail
  go_loopw [5, 6] (fun ov iv wr => ∃ (i : Nat) (vs : List Value), i ≤ n ∧ iv = .int .i64 i ∧ Hid (wr.ownsRow w.heap.size 32 1 ov (ovC n shut i) vs) ∧ Hid (AllIn wr vs ((List.range (ovC n shut i)).map (ovW n))) ∧ Hid (Below w.heap.size w wr)) (fun _ iv _ => n - (intOf iv).toNat)
  case atStart => exact ⟨0, [], Nat.zero_le _, rfl, hideP2 (by rw [show ovC n shut 0 = 0 by unfold ovC; rw [if_neg (by omega)]]; exact World.ownsRow_nil _ _ _ _), hideP2 (by rw [show ovC n shut 0 = 0 by unfold ovC; rw [if_neg (by omega)]]; trivial), hideP2 (Below.refl _ _)⟩
  case round =>
    obtain ⟨i, vs, hi, rfl, HO, HA, HB⟩ := hrel
    by_cases hlt : i < n
    · have hc : ovC n shut i = 2 * i := by unfold ovC; rw [if_neg (by omega)]
      rw [hc] at HO HA
      have HR1 : Hid ((List.range (2 * i + 1)).map (ovW n) = (List.range (2 * i)).map (ovW n) ++ [[kRule, nmB 114 i, [58], [99], [61], [49], kWhen, kAlwW, kEnd]]) := by unfold Hid; rw [ov_range, ovW_even]
      have HR2 : Hid ((List.range (2 * i + 1 + 1)).map (ovW n) = (List.range (2 * i + 1)).map (ovW n) ++ [[kOver, nmB 114 i, nmB 114 ((i + 1) % n), kEnd]]) := by unfold Hid; rw [ov_range n (2 * i + 1), ovW_odd]
      have hj : (i + 1) % n < n := Nat.mod_lt _ (by omega)
      have hmod : ((i : Int) + 1).tmod (n : Int) = (((i + 1) % n : Nat) : Int) := by
        rw [show ((i : Int) + 1) = ((i + 1 : Nat) : Int) by omega]; rfl
      have HN1 : Hid (∀ w', Calls Tryz.prog 10 #[.int .u8 114, .int .i64 (i : Int)] w' fun e w'' => e = .returned (.string ⟨(nmB 114 i).toArray⟩) ∧ Below w'.heap.size w' w'') := fun w' => kName_s w' 114 i (by omega)
      have HN3 : Hid (∀ w', Calls Tryz.prog 10 #[.int .u8 114, .int .i64 (((i + 1) % n : Nat) : Int)] w' fun e w'' => e = .returned (.string ⟨(nmB 114 ((i + 1) % n)).toArray⟩) ∧ Below w'.heap.size w' w'') := fun w' => kName_s w' 114 ((i + 1) % n) (by omega)
      have hBw := HB.out.size
      clear hc
      generalize nmB 114 i = ra at *
      generalize nmB 114 ((i + 1) % n) = nx at *
      generalize (i + 1) % n = jn at *
      go_wp2_with fail
      refine (HN1.out _).mono ?_
      rintro e w1 ⟨rfl, hb1⟩
      have HB1 := hideP2 hb1
      have hs1 := hb1.size
      have HO1 := hideP2 (owns_below HO.out hb1)
      have HA1 := hideP2 (HA.out.below hb1)
      clear hb1 HO HA
      go_wp2_with (at_builtin; refine wpList_append_own _ rfl _ _ 24 rfl w.heap.size 32 i0 _ 1 24 Tryz.underlying24 hi0 hz0 hz1 hz2 rfl (by decide) _ _ _ rfl ((HO1.out.alloc _).alloc _) ⟨w1.heap.size + 1, 0, none⟩ 1 1 [.slice (some ⟨w1.heap.size, 0, none⟩) 9 9] rfl rfl ?c1 ?c2 ?c3 ?c4 ?c5 ?_)
      case c1 => exact news_cellsH _ _ _ _ rfl (by simp)
      case c2 => intro u hu; simp at hu; subst hu; rfl
      case c3 => unfold maxLen; omega
      case c4 => omega
      case c5 => simp; omega
      intro v2 w2 hown2 hgrow2 _
      have HB2 : Hid (Below w.heap.size w w2) := (((HB.out.trans (HB1.out.mono HB.out.size)).alloc (by omega) _).alloc (by simp; omega) _).grown hgrow2 (by simp; omega) (own_block_le HO1.out)
      have hs2 := HB2.out.size
      have HO2 := hideP2 hown2
      have HA2 : Hid (AllIn w2 (vs ++ [.slice (some ⟨w1.heap.size, 0, none⟩) 9 9]) ((List.range (2 * i + 1)).map (ovW n))) := by
        unfold Hid; rw [HR1.out]
        have hb : ∀ o o', Below w1.heap.size w1 ((w1.alloc o).alloc o') := fun o o' => ((Below.refl _ _).alloc (Nat.le_refl _) _).alloc (by simp) _
        refine AllIn.snoc (InT.grown ?_ ((HO1.out.alloc _).alloc _) hgrow2) ((HA1.out.below (hb _ _)).grown ((HO1.out.alloc _).alloc _) hgrow2)
        exact ⟨_, 9, rfl, cel_block (hb_new (hb_end _ _)) rfl⟩
      clear hown2 hgrow2 HB1 HO1 HA1 HR1
      obtain ⟨vs2, hvs2⟩ : ∃ vs2, vs2 = vs ++ [Value.slice (some ⟨w1.heap.size, 0, none⟩) 9 9] := ⟨_, rfl⟩
      rw [← hvs2] at HO2 HA2
      clear hvs2
      by_cases hstop : i = n - 1 ∧ shut = false
      · obtain ⟨hl, rfl⟩ := hstop
        have b1 : ¬ ((i : Int) < (n : Int) - 1) := by omega
        have hc : ovC n false (i + 1) = 2 * i + 1 := by unfold ovC; rw [if_pos ⟨by omega, rfl⟩]; omega
        rw [← hc] at HO2 HA2
        clear hl
        go_wp2_with fail
        go_roundw
        case rel => exact ⟨i + 1, vs2, by omega, by go_num, HO2, HA2, HB2⟩
        case measure => simp [intOf]; omega
      · have hc : ovC n shut (i + 1) = 2 * i + 1 + 1 := by unfold ovC; rw [if_neg (fun q => hstop ⟨by omega, q.2⟩)]; omega
        have HAft : Hid (∀ w6 w7, Below w2.heap.size w2 w6 → Below w6.heap.size w6 w7 → w7.ownsRow w.heap.size 32 1 v2 (2 * i + 1) vs2 ∧ AllIn w7 vs2 ((List.range (2 * i + 1)).map (ovW n)) ∧ Below w.heap.size w w7 ∧ w2.heap.size ≤ w7.heap.size) := fun w6 w7 h6 h7 => by
          have h67 : Below w2.heap.size w2 w7 := h6.trans (h7.mono h6.size)
          exact ⟨owns_below HO2.out h67, HA2.out.below h67, HB2.out.trans (h67.mono HB2.out.size), h67.size⟩
        obtain ⟨bb, hbb⟩ : ∃ bb : Bool, bb = decide ((i : Int) < (n : Int) - 1) := ⟨_, rfl⟩
        have HBb : Hid (bb = true ∨ bb = false ∧ shut = true) := by
          unfold Hid; rw [hbb]
          by_cases hl : i = n - 1
          · right; exact ⟨decide_eq_false (by omega), by cases shut with
              | true => rfl
              | false => exact absurd ⟨hl, rfl⟩ hstop⟩
          · left; exact decide_eq_true (by omega)
        clear hstop HO2 HA2 HB2
        have hwr := wrap_small i (by omega)
        have hn0 : ¬ n = 0 := by omega
        obtain ⟨tt, htt⟩ : ∃ tt, tt = 2 * i + 1 := ⟨_, rfl⟩
        rw [← htt] at HAft HR2 hc
        have htb : tt ≤ 100 := by omega
        clear htt
        rcases HBb.out with hb | ⟨hb, rfl⟩
        · have b1 : (i : Int) < (n : Int) - 1 := by rw [hb] at hbb; exact of_decide_eq_true hbb.symm
          clear hbb HBb hb
          go_upto_region 7 with fail
          go_region_law (first
            | (refine step_append_lies _ (by rfl) _ _ _ (by rfl) w.heap.size 32 i0 _ 1 24 Tryz.underlying24 hi0 hz0 hz1 hz2 rfl (by decide) v2 tt vs2 (by rfl) ((hO7.alloc _).alloc _) ⟨w7.heap.size + 1, 0, none⟩ 1 1 [.slice (some ⟨w7.heap.size, 0, none⟩) 4 4] (by rfl) (by rfl) (news_cellsH _ _ _ _ rfl (by simp)) (by simp [Value.oneCell']) (by decide) (by unfold maxLen; omega) (by omega) (by simp; omega) (w7.heap.size + 1 + 1) (by simp) ?_; intro gg cap w8 hown8 hgrow8 hat8 hlt8)
            | (go_simp; go_at_call 10; first
                | (refine (HN1.out _).mono ?_; rintro e w6 ⟨rfl, hb6⟩; show _)
                | (refine (HN3.out _).mono ?_; rintro e w7 ⟨rfl, hb7⟩; obtain ⟨hO7, hA7, hB7, hs7⟩ := HAft.out w6 w7 ((Below.drew (Below.refl _ _)).trans hb6) hb7; show _)))
          all_goals
            have HB8 : Hid (Below w.heap.size w w8) := ((hB7.alloc hB7.size _).alloc (by simp; have := hB7.size; omega) _).grown hgrow8 (by simp; have := hB7.size; omega) (own_block_le hO7)
            have HA8 : Hid (AllIn w8 (vs2 ++ [.slice (some ⟨w7.heap.size, 0, none⟩) 4 4]) ((List.range (ovC n shut (i + 1))).map (ovW n))) := by
              unfold Hid; rw [hc, HR2.out]
              have hb : ∀ o o', Below w7.heap.size w7 ((w7.alloc o).alloc o') := fun o o' => ((Below.refl _ _).alloc (Nat.le_refl _) _).alloc (by simp) _
              refine AllIn.snoc (InT.grown ?_ ((hO7.alloc _).alloc _) hgrow8) ((hA7.below (hb _ _)).grown ((hO7.alloc _).alloc _) hgrow8)
              exact ⟨_, 4, rfl, cel_block (hb_new (hb_end _ _)) rfl⟩
            have HO8 : Hid (w8.ownsRow w.heap.size 32 1 (.slice (some ⟨gg, 0, none⟩) (tt + 1) cap) (ovC n shut (i + 1)) (vs2 ++ [.slice (some ⟨w7.heap.size, 0, none⟩) 4 4])) := by unfold Hid; rw [hc]; exact hown8
            clear hown8 hgrow8 hO7 hA7 hB7
            go_wp2_with fail
            go_roundw
            case rel => exact ⟨i + 1, _, by omega, by go_num, HO8, HA8, HB8⟩
            case measure => simp [intOf]; omega
        · have b1 : ¬ (i : Int) < (n : Int) - 1 := by rw [hb] at hbb; exact of_decide_eq_false hbb.symm
          clear hbb HBb hb
          go_upto_region 7 with fail
          go_region_law (first
            | (refine step_append_lies _ (by rfl) _ _ _ (by rfl) w.heap.size 32 i0 _ 1 24 Tryz.underlying24 hi0 hz0 hz1 hz2 rfl (by decide) v2 tt vs2 (by rfl) ((hO7.alloc _).alloc _) ⟨w7.heap.size + 1, 0, none⟩ 1 1 [.slice (some ⟨w7.heap.size, 0, none⟩) 4 4] (by rfl) (by rfl) (news_cellsH _ _ _ _ rfl (by simp)) (by simp [Value.oneCell']) (by decide) (by unfold maxLen; omega) (by omega) (by simp; omega) (w7.heap.size + 1 + 1) (by simp) ?_; intro gg cap w8 hown8 hgrow8 hat8 hlt8)
            | (go_simp; go_at_call 10; first
                | (refine (HN1.out _).mono ?_; rintro e w6 ⟨rfl, hb6⟩; show _)
                | (refine (HN3.out _).mono ?_; rintro e w7 ⟨rfl, hb7⟩; obtain ⟨hO7, hA7, hB7, hs7⟩ := HAft.out w6 w7 ((Below.drew (Below.refl _ _)).trans hb6) hb7; show _)))
          all_goals
            have HB8 : Hid (Below w.heap.size w w8) := ((hB7.alloc hB7.size _).alloc (by simp; have := hB7.size; omega) _).grown hgrow8 (by simp; have := hB7.size; omega) (own_block_le hO7)
            have HA8 : Hid (AllIn w8 (vs2 ++ [.slice (some ⟨w7.heap.size, 0, none⟩) 4 4]) ((List.range (ovC n true (i + 1))).map (ovW n))) := by
              unfold Hid; rw [hc, HR2.out]
              have hb : ∀ o o', Below w7.heap.size w7 ((w7.alloc o).alloc o') := fun o o' => ((Below.refl _ _).alloc (Nat.le_refl _) _).alloc (by simp) _
              refine AllIn.snoc (InT.grown ?_ ((hO7.alloc _).alloc _) hgrow8) ((hA7.below (hb _ _)).grown ((hO7.alloc _).alloc _) hgrow8)
              exact ⟨_, 4, rfl, cel_block (hb_new (hb_end _ _)) rfl⟩
            have HO8 : Hid (w8.ownsRow w.heap.size 32 1 (.slice (some ⟨gg, 0, none⟩) (tt + 1) cap) (ovC n true (i + 1)) (vs2 ++ [.slice (some ⟨w7.heap.size, 0, none⟩) 4 4])) := by unfold Hid; rw [hc]; exact hown8
            clear hown8 hgrow8 hO7 hA7 hB7
            go_wp2_with fail
            go_roundw
            case rel => exact ⟨i + 1, _, by omega, by go_num, HO8, HA8, HB8⟩
            case measure => simp [intOf]; omega
    · obtain rfl : i = n := by omega
      obtain ⟨oa, oc, rfl, hoc⟩ := own_celT HO.out
      go_wp2_with fail
      go_ret
      exact ⟨oa, oc, rfl, ⟨vs, hoc, HA.out⟩, HB.out⟩
end Go.Proofs.YtnbpdffdnphbeaaGreat
