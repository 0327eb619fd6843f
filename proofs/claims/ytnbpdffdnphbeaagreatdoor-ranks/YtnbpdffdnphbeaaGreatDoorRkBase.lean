/- What Levels of a Base that was loaded gives. -/
import Derived.Test.YtnbpdffdnphbeaaGreatDoorPRound
import Derived.Test.YtnbpdffdnphbeaaGreatDoorStCheck
import Derived.Test.YtnbpdffdnphbeaaGreatDoorPure5
namespace Go.Proofs.YtnbpdffdnphbeaaGreatDoor
open Go.RowKit

/-- A loaded Base lies in memory, with its levels. -/
structure BaseV (w : World) (b : Nat) (L : List (Bs × Nat)) : Prop where
  on : w.cell? ⟨b, 0, none⟩ = some (.bool true)
  lev : ∃ a c, w.cell? ⟨b, 2, none⟩ = some (.slice a L.length c) ∧ PrV w a L
theorem BaseV.below {w w' : World} {b : Nat} {L : List (Bs × Nat)} (h : BaseV w b L) (hb : Below w.heap.size w w') : BaseV w' b L := by
  obtain ⟨a, c, h1, h2⟩ := h.lev
  exact ⟨by rw [hb.cell (p := ⟨b, 0, none⟩) (cell_ltG h.on)]; exact h.on, a, c, by rw [hb.cell (p := ⟨b, 2, none⟩) (cell_ltG h.on)]; exact h1, h2.keepB hb (Nat.le_refl _)⟩

set_option maxHeartbeats 2000000 in
theorem BLevels_s (w : World) (b : Nat) (L : List (Bs × Nat)) (h : BaseV w b L) :
    Calls Tryz.prog 28 #[.pointer (some ⟨b, 0, none⟩)] w fun e w' => ∃ v, e = .returned v ∧ w'.ownsRow w.heap.size 122 2 v L.length (lvC L) ∧ Below w.heap.size w w' := by
  obtain ⟨i0, hi0, hz0, hz1, hz2⟩ := info_parts infoLev
  obtain ⟨a, c, hlev, hp⟩ := h.lev
  have h0 := h.on
  have hbl := cell_ltG h0
  have HP := hideP2 hp
  have hfew := hp.few
  obtain ⟨B, hB⟩ : ∃ B, B = w.heap.size := ⟨_, rfl⟩
  have HB0 := hideP2 hB
  clear h hp hB
  go_enter Tryz.func28, Tryz.ntmps28
  go_wp2_with fail
  go_loopw [3, 16] (fun ov iv wr => ∃ (i : Nat), i ≤ L.length ∧ iv = .int .i64 i ∧ Hid (wr.ownsRow B 122 2 ov i (lvC (L.take i))) ∧ Hid (Below B w wr)) (fun _ iv _ => L.length - (intOf iv).toNat)
  case atStart => exact ⟨0, Nat.zero_le _, rfl, hideP2 ⟨rfl, .inr ⟨w.heap.size, 0, #[], rfl, by rw [HB0.out]; exact Nat.le_refl _, hb_end _ _, Nat.le_refl _, Nat.zero_le _, rfl, rfl⟩⟩, hideP2 ((Below.refl _ _).alloc (by rw [HB0.out]; exact Nat.le_refl _) _)⟩
  case round =>
    obtain ⟨i, hi, rfl, HO, HB⟩ := hrel
    have hsz : B ≤ wr.heap.size := by have := HB.out.size; have h2 := HB0.out; omega
    by_cases hlt : i < L.length
    · obtain ⟨g, rfl, hcs⟩ := (HP.out.keepB HB.out (by rw [HB0.out]; exact Nat.le_refl _)).blk (by omega)
      obtain ⟨c1, c2⟩ := hcs i hlt
      obtain ⟨oa, oc, rfl⟩ := own_sliceN HO.out
      have HT : Hid (L.take (i + 1) = L.take i ++ [L.getD i ([], 0)]) := by unfold Hid; rw [List.take_add_one]; simp [List.getD, hlt]
      clear hcs
      generalize L.getD i ([], 0) = x at *
      obtain ⟨s, n⟩ := x
      simp only at c1 c2
      go_wp2_with (at_builtin; refine wpList_append_own _ rfl _ _ 26 rfl B 122 i0 _ 2 24 Tryz.underlying26 hi0 hz0 hz1 hz2 rfl (by decide) _ _ _ rfl ((HO.out.alloc _).alloc _) ⟨wr.heap.size + 1, 0, none⟩ 1 1 [.string ⟨s.toArray⟩, .int .i64 (n : Nat)] rfl rfl ?c1 ?c2 ?c3 ?c4 ?c5 ?_)
      case c1 => exact news_cellsH _ _ _ _ rfl (by simp)
      case c2 => intro u hu; simp at hu; rcases hu with rfl | rfl <;> rfl
      case c3 => unfold maxLen; omega
      case c4 => omega
      case c5 => simp; omega
      intro v' w5 hown1 hgrow _
      have HB5 : Hid (Below B w w5) := ((HB.out.alloc hsz _).alloc (Nat.le_trans hsz (Nat.le_of_lt (lt_end _ _))) _).grown hgrow (by simp; omega) (own_block_le HO.out)
      have HO5 : Hid (w5.ownsRow B 122 2 v' (i + 1) (lvC (L.take (i + 1)))) := by unfold Hid; rw [HT.out, lvC_snoc]; exact hown1
      clear hgrow hown1
      go_wp2_with fail
      go_roundw
      case rel => exact ⟨i + 1, by omega, by go_num, HO5, HB5⟩
      case measure => simp [intOf]; omega
    · obtain rfl : i = L.length := by omega
      go_wp2_with fail
      go_ret
      refine ⟨_, rfl, ?_, by rw [← HB0.out]; exact HB.out⟩
      have h1 := HO.out
      rw [List.take_length] at h1
      rw [← HB0.out]; exact h1
end Go.Proofs.YtnbpdffdnphbeaaGreatDoor

/- The law Ranks answers true at every text, given what Load gives. -/
namespace Go.Proofs.YtnbpdffdnphbeaaGreatDoor
open Go.RowKit

/-- What Load of the program gives of a text, leniently. -/
def LoadIs (l : Bs) (w w' : World) (e : Ending) : Prop := ∃ pv, e = .returned (.tuple #[pv, .int .i64 (chkP l).1]) ∧ Below w.heap.size w w' ∧ ((chkP l).1 ≠ 0 → pv = .pointer none) ∧ ((chkP l).1 = 0 → ∃ b, pv = .pointer (some ⟨b, 0, none⟩) ∧ BaseV w' b (lvlB (readB l).1))

theorem num_r (k : Int) (w : World) : Calls Tryz.prog 16 #[.int .i64 k] w fun e w' => e = .returned (.int .i64 k) ∧ w' = w := by
  go_enter Tryz.func16, Tryz.ntmps16
  go_wp2_with fail
  go_ret
  exact ⟨rfl, rfl⟩

theorem errP_calm {ls : List PLine} (h : (checkL ls).1 = 0) : cntK 3 ls ≤ 8 ∧ ringB (namG (headsB ls) ls gZ) = false := by
  revert h
  unfold checkL
  cases hm : manyG ls ls.length 0 with
  | some i => intro h; exact absurd (show (3 : Int) = 0 from h) (by decide)
  | none =>
    have h8 := few_rules (fun i (hi : i < ls.length) => manyG_none ls.length 0 hm i (Nat.zero_le _) (by omega))
    simp only
    unfold errsP
    cases he : errG ls ls.length 0 with
    | some i =>
      intro h
      exfalso
      have h1 : errP ls i = 0 := h
      have : ∀ n i j, errG ls n i = some j → errP ls j ≠ 0 := by
        intro n
        induction n with
        | zero => intro i j h; simp [errG] at h
        | succ n ih => intro i j h; rw [errG] at h; split at h
                       · exact ih _ _ h
                       · rename_i hne; obtain rfl := Option.some.inj h; exact hne
      exact this _ _ _ he h1
    | none =>
      simp only
      unfold ringsP
      intro h
      refine ⟨h8, ?_⟩
      cases hr : ringB (namG (headsB ls) ls gZ) with
      | false => rfl
      | true => rw [hr, if_pos rfl] at h; exact absurd (show (7 : Int) = 0 from h) (by decide)

set_option maxHeartbeats 1000000 in
theorem loaded_s (l : Bs) (w : World) (hL : Calls Tryz.prog 26 #[.string ⟨l.toArray⟩, .bool false] w fun e w' => LoadIs l w w' e) (hR : ∀ w', Below w.heap.size w w' → Calls Tryz.prog 27 #[.string ⟨l.toArray⟩, .bool false] w' fun e w'' => e = .returned (.int .i64 (chkP l).1) ∧ Below w'.heap.size w' w'') :
    Calls Tryz.prog 10 #[.string ⟨l.toArray⟩, .bool false] w fun e w' => ∃ pv, e = .returned (.tuple #[pv, .bool true]) ∧ Below w.heap.size w w' ∧ ((chkP l).1 ≠ 0 → pv = .pointer none) ∧ ((chkP l).1 = 0 → ∃ b, pv = .pointer (some ⟨b, 0, none⟩) ∧ BaseV w' b (lvlB (readB l).1)) := by
  have HL := hideP2 hL
  have HR := hideP2 hR
  clear hL hR
  by_cases hk : (chkP l).1 = 0
  · have HL2 : Hid (∀ e w', LoadIs l w w' e → ∃ b, e = .returned (.tuple #[.pointer (some ⟨b, 0, none⟩), .int .i64 0]) ∧ Below w.heap.size w w' ∧ BaseV w' b (lvlB (readB l).1)) := fun e w' ⟨pv, h1, h2, _, h4⟩ => by
      obtain ⟨b, rfl, h5⟩ := h4 hk
      rw [hk] at h1
      exact ⟨b, h1, h2, h5⟩
    rw [hk] at HR
    have HK := hideP2 hk
    clear hk
    go_enter Tryz.func10, Tryz.ntmps10
    go_wp2_with fail
    refine HL.out.mono ?_
    rintro e w1 hli
    obtain ⟨b, rfl, hb1, hbv⟩ := HL2.out _ _ hli
    have HB1 := hideP2 hb1
    have HBv := hideP2 hbv
    clear hli hb1 hbv
    go_wp2_with fail
    refine (HR.out w1 HB1.out).mono ?_
    rintro e w2 ⟨rfl, hb2⟩
    have HB2 : Hid (Below w.heap.size w w2) := HB1.out.trans (hb2.mono HB1.out.size)
    have HBv2 := hideP2 (HBv.out.below hb2)
    clear hb2
    go_wp2_with fail
    refine (num_r 0 w2).mono ?_
    rintro e w3 ⟨rfl, hw⟩; obtain rfl := hw.symm
    go_wp2_with fail
    go_ret2
    exact ⟨_, rfl, HB2.out, fun h => absurd HK.out h, fun _ => ⟨b, rfl, HBv2.out⟩⟩
  · have HL2 : Hid (∀ e w', LoadIs l w w' e → e = .returned (.tuple #[.pointer none, .int .i64 (chkP l).1]) ∧ Below w.heap.size w w') := fun e w' ⟨pv, h1, h2, h3, _⟩ => by
      rw [h3 hk] at h1
      exact ⟨h1, h2⟩
    have HK := hideP2 hk
    generalize hkk : (chkP l).1 = k at *
    have b0 : (k != 0) = true := by simpa using hk
    clear hk hkk
    go_enter Tryz.func10, Tryz.ntmps10
    go_wp2_with fail
    refine HL.out.mono ?_
    rintro e w1 hli
    obtain ⟨rfl, hb1⟩ := HL2.out _ _ hli
    have HB1 := hideP2 hb1
    clear hli hb1
    go_wp2_with fail
    refine (HR.out w1 HB1.out).mono ?_
    rintro e w2 ⟨rfl, hb2⟩
    have HB2 : Hid (Below w.heap.size w w2) := HB1.out.trans (hb2.mono HB1.out.size)
    clear hb2
    go_wp2_with fail
    refine (num_r k w2).mono ?_
    rintro e w3 ⟨rfl, hw⟩; obtain rfl := hw.symm
    go_wp2_with fail
    go_ret2
    exact ⟨_, rfl, HB2.out, fun _ => rfl, fun h => absurd h HK.out⟩

set_option maxHeartbeats 1000000 in
theorem leveled_s (l : Bs) (w : World) (b : Nat) (ls : List PLine) (hl4 : l.length ≤ 4000) (hA : AllLT ls (usOf l)) (h8 : (headsB ls).length ≤ 8) (hr : ringB (namG (headsB ls) ls gZ) = false) (hb : BaseV w b (lvlB ls)) :
    Calls Tryz.prog 11 #[.pointer (some ⟨b, 0, none⟩), .string ⟨l.toArray⟩] w fun e w' => ∃ v, e = .returned (.tuple #[v, .bool true]) ∧ Below w.heap.size w w' := by
  have HB := hideP2 (BLevels_s w b (lvlB ls) hb)
  have HR := hideP2 (fun w' => RLevels_s l w' hl4 ls hA h8 hr)
  rw [lvl_same ls h8 hr] at HB
  have hlen : (docLv ls).length ≤ 10000 := by rw [docLv_len]; omega
  generalize docLv ls = L at *
  clear hA hr hb hl4 h8
  go_enter Tryz.func11, Tryz.ntmps11
  go_wp2_with fail
  refine HB.out.mono ?_
  rintro e w1 ⟨v1, rfl, ho1, hb1⟩
  obtain ⟨a1, c1, rfl, hp1⟩ := own_pr ho1 hlen
  have HP1 := hideP2 hp1
  have HB1 := hideP2 hb1
  clear ho1 hp1 hb1
  go_wp2_with fail
  refine (HR.out w1).mono ?_
  rintro e w2 ⟨v2, rfl, ho2, hb2⟩
  obtain ⟨a2, c2, rfl, hp2⟩ := own_pr ho2 hlen
  have HSm := hideP2 (sameLevels_s w2 a1 a2 c1 c2 L (HP1.out.keepB hb2 (Nat.le_refl _)) hp2)
  have HB2 : Hid (Below w.heap.size w w2) := HB1.out.trans (hb2.mono HB1.out.size)
  clear ho2 hp2 hb2
  go_wp2_with fail
  refine HSm.out.mono ?_
  rintro e w3 ⟨rfl, hb3⟩
  have HB3 : Hid (Below w.heap.size w w3) := HB2.out.trans (hb3.mono HB2.out.size)
  clear hb3
  go_wp2_with fail
  go_ret2
  exact ⟨_, rfl, HB3.out⟩

set_option maxHeartbeats 1000000 in
theorem Ranks_of (l : Bs) (w : World) (hmax : l.length ≤ maxLen) (hf : Folw w) (hL : Calls Tryz.prog 26 #[.string ⟨l.toArray⟩, .bool false] w fun e w' => LoadIs l w w' e) :
    Calls Tryz.prog 4 #[.string ⟨l.toArray⟩] w fun e w' => e = .returned (.bool true) ∧ Below w.heap.size w w' := by
  have hp : l.length ≤ 4000 → PureT 4001 l ∧ PureC l := fun h => pure_both h (by decide)
  have hlines : l.length ≤ 4000 → formB l < 0 → (readB l).2.2 = false := fun h1 h2 => by
    cases hr : (readB l).2.2 with
    | false => rfl
    | true => have := (hp h1).1.fails hr; omega
  have HLd := hideP2 (loaded_s l w hL (fun w' hb => by
    have h1 := RefCheck_any l w' hmax (hf.below hb) (fun h1 h2 => ⟨_, (hp h1).2.lines (hlines h1 h2)⟩)
    rw [chk_same hp] at h1
    exact RLoad_s l w' _ _ h1))
  by_cases hk : (chkP l).1 = 0
  · have hl4 : l.length ≤ 4000 := by
      rcases Nat.lt_or_ge 4000 l.length with h | h
      · unfold chkP at hk; rw [if_pos h] at hk; exact absurd (show (1 : Int) = 0 from hk) (by decide)
      · exact h
    have hrd : (readB l).2.2 = false := by
      cases hr : (readB l).2.2 with
      | false => rfl
      | true => unfold chkP at hk; rw [if_neg (by omega), hr] at hk; exact absurd (show (2 : Int) = 0 from hk) (by decide)
    have hck : (checkL (readB l).1).1 = 0 := by unfold chkP at hk; rw [if_neg (by omega), hrd] at hk; exact hk
    obtain ⟨h8, hr⟩ := errP_calm hck
    have hh8 : (headsB (readB l).1).length ≤ 8 := by
      have := (heads_inv (readB l).1 [] List.nodup_nil).2.2
      unfold headsB; simp at this; omega
    have HLv := hideP2 (fun w' b => leveled_s l w' b (readB l).1 hl4 ((hp hl4).2.lines hrd) hh8 hr)
    have HK := hideP2 hk
    clear hmax hf hL hp hlines hk hl4 hrd hck h8 hr hh8
    go_enter Tryz.func4, Tryz.ntmps4
    go_wp2_with fail
    refine HLd.out.mono ?_
    rintro e w1 ⟨pv, rfl, hb1, -, hbv⟩
    obtain ⟨b, rfl, hbw⟩ := hbv HK.out
    have HB1 := hideP2 hb1
    have HBv := hideP2 hbw
    clear hb1 hbv hbw
    go_wp2_with fail
    refine (HLv.out w1 b HBv.out).mono ?_
    rintro e w2 ⟨v, rfl, hb2⟩
    have HB2 : Hid (Below w.heap.size w w2) := HB1.out.trans (hb2.mono HB1.out.size)
    clear hb2
    go_wp2_with fail
    go_ret
    exact ⟨rfl, HB2.out⟩
  · have HK := hideP2 hk
    clear hmax hf hL hp hlines hk
    go_enter Tryz.func4, Tryz.ntmps4
    go_wp2_with fail
    refine HLd.out.mono ?_
    rintro e w1 ⟨pv, rfl, hb1, hn, -⟩
    obtain rfl := hn HK.out
    have HB1 := hideP2 hb1
    clear hb1 hn
    go_wp2_with fail
    go_ret
    exact ⟨rfl, HB1.out⟩
end Go.Proofs.YtnbpdffdnphbeaaGreatDoor
