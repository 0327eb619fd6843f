/- What Levels of a Base that was loaded gives. -/
import Derived.Test.YtdohhghfohpgjaaGreatDoorPRound
import Derived.Test.YtdohhghfohpgjaaGreatDoorStCheck
import Derived.Test.YtdohhghfohpgjaaGreatDoorPure5
import Derived.Test.YtdohhghfohpgjaaGreatDoorRgLinks
import Derived.Laws.IdiomStrings
namespace Go.Proofs.YtdohhghfohpgjaaGreatDoor
open Go.RowKit

/-- A loaded Base lies in memory, with its levels. -/
structure BaseV (w : World) (b : Nat) (L : List (Bs × Nat)) : Prop where
  on : w.cell? ⟨b, 0, none⟩ = some (.bool true)
  lev : ∃ a c, w.cell? ⟨b, 1, none⟩ = some (.slice a L.length c) ∧ PrV w a L
theorem BaseV.below {w w' : World} {b : Nat} {L : List (Bs × Nat)} (h : BaseV w b L) (hb : Below w.heap.size w w') : BaseV w' b L := by
  obtain ⟨a, c, h1, h2⟩ := h.lev
  exact ⟨by rw [hb.cell (p := ⟨b, 0, none⟩) (cell_ltG h.on)]; exact h.on, a, c, by rw [hb.cell (p := ⟨b, 1, none⟩) (cell_ltG h.on)]; exact h1, h2.keepB hb (Nat.le_refl _)⟩

set_option maxHeartbeats 2000000 in
theorem BLevels_s (w : World) (b : Nat) (L : List (Bs × Nat)) (h : BaseV w b L) :
    Calls Tryz.prog 17 #[.pointer (some ⟨b, 0, none⟩)] w fun e w' => ∃ v, e = .returned v ∧ w'.ownsRow w.heap.size 87 2 v L.length (lvC L) ∧ Below w.heap.size w w' := by
  obtain ⟨i0, hi0, hz0, hz1, hz2⟩ := info_parts infoLev
  obtain ⟨a, c, hlev, hp⟩ := h.lev
  have h0 := h.on
  have hbl := cell_ltG h0
  have HP := hideP2 hp
  have hfew := hp.few
  obtain ⟨B, hB⟩ : ∃ B, B = w.heap.size := ⟨_, rfl⟩
  have HB0 := hideP2 hB
  clear h hp hB
  go_enter Tryz.func17, Tryz.ntmps17
  go_wp2_with fail
  go_loopw [3, 15] (fun ov iv wr => ∃ (i : Nat), i ≤ L.length ∧ iv = .int .i64 i ∧ Hid (wr.ownsRow B 87 2 ov i (lvC (L.take i))) ∧ Hid (Below B w wr)) (fun _ iv _ => L.length - (intOf iv).toNat)
  case atStart => exact ⟨0, Nat.zero_le _, rfl, hideP2 ⟨rfl, .inr ⟨w.heap.size, 0, #[], rfl, by rw [HB0.out]; exact Nat.le_refl _, hb_end _ _, Nat.le_refl _, Nat.zero_le _, rfl, rfl⟩⟩, hideP2 ((Below.refl _ _).alloc (by rw [HB0.out]; exact Nat.le_refl _) _)⟩
  case round =>
    obtain ⟨i, hi, rfl, HO, HB⟩ := hrel
    have hsz : B ≤ wr.heap.size := by have := HB.out.size; have h2 := HB0.out; omega
    by_cases hlt : i < L.length
    · obtain ⟨g, rfl, hcs⟩ := (HP.out.keepB HB.out (by rw [HB0.out]; exact Nat.le_refl _)).blk (by omega)
      obtain ⟨c1, c2⟩ := hcs i hlt
      obtain ⟨oa, oc, rfl⟩ := own_sliceN HO.out
      have HT : Hid (L.take (i + 1) = L.take i ++ [L.getD i ([], 0)]) := by unfold Hid; rw [List.take_add_one]; simp [List.getD, hlt]
      clear hcs
      generalize L.getD i ([], 0) = x at *
      obtain ⟨s, n⟩ := x
      simp only at c1 c2
      go_wp2_with (at_builtin; refine wpList_append_own _ rfl _ _ 26 rfl B 87 i0 _ 2 24 Tryz.underlying26 hi0 hz0 hz1 hz2 rfl (by decide) _ _ _ rfl ((HO.out.alloc _).alloc _) ⟨wr.heap.size + 1, 0, none⟩ 1 1 [.string ⟨s.toArray⟩, .int .i64 (n : Nat)] rfl rfl ?c1 ?c2 ?c3 ?c4 ?c5 ?_)
      case c1 => exact news_cellsH _ _ _ _ rfl (by simp)
      case c2 => intro u hu; simp at hu; rcases hu with rfl | rfl <;> rfl
      case c3 => unfold maxLen; omega
      case c4 => omega
      case c5 => simp; omega
      intro v' w5 hown1 hgrow _
      have HB5 : Hid (Below B w w5) := ((HB.out.alloc hsz _).alloc (Nat.le_trans hsz (Nat.le_of_lt (lt_end _ _))) _).grown hgrow (by simp; omega) (own_block_le HO.out)
      have HO5 : Hid (w5.ownsRow B 87 2 v' (i + 1) (lvC (L.take (i + 1)))) := by unfold Hid; rw [HT.out, lvC_snoc]; exact hown1
      clear hgrow hown1
      go_wp2_with fail
      go_roundw
      case rel => exact ⟨i + 1, by omega, by go_num, HO5, HB5⟩
      case measure => simp [intOf]; omega
    · obtain rfl : i = L.length := by omega
      go_wp2_with fail
      go_ret
      refine ⟨_, rfl, ?_, by rw [← HB0.out]; exact HB.out⟩
      have h1 := HO.out
      rw [List.take_length] at h1
      rw [← HB0.out]; exact h1
end Go.Proofs.YtdohhghfohpgjaaGreatDoor

/- The law Ranks answers true at every text, given what Load gives. -/
namespace Go.Proofs.YtdohhghfohpgjaaGreatDoor
open Go.RowKit

/-- What Load of the program gives of a text, leniently. -/
def LoadIs (l : Bs) (w w' : World) (e : Ending) : Prop := ∃ pv, e = .returned (.tuple #[pv, .int .i64 (chkP l).1]) ∧ Below w.heap.size w w' ∧ ((chkP l).1 ≠ 0 → pv = .pointer none) ∧ ((chkP l).1 = 0 → ∃ b, pv = .pointer (some ⟨b, 0, none⟩) ∧ BaseV w' b (lvlB (readB l).1))

theorem num_r (k : Int) (w : World) : Calls Tryz.prog 16 #[.int .i64 k] w fun e w' => e = .returned (.int .i64 k) ∧ w' = w := by
  go_enter Tryz.func16, Tryz.ntmps16
  go_wp2_with fail
  go_ret
  exact ⟨rfl, rfl⟩

theorem errP_calm {ls : List PLine} (h : (checkL ls).1 = 0) : cntK 3 ls ≤ 8 ∧ ringB (namG (headsB ls) ls gZ) = false := by
  revert h
  unfold checkL
  cases hm : manyG ls ls.length 0 with
  | some i => intro h; exact absurd (show (3 : Int) = 0 from h) (by decide)
  | none =>
    have h8 := few_rules (fun i (hi : i < ls.length) => manyG_none ls.length 0 hm i (Nat.zero_le _) (by omega))
    simp only
    unfold errsP
    cases he : errG ls ls.length 0 with
    | some i =>
      intro h
      exfalso
      have h1 : errP ls i = 0 := h
      have : ∀ n i j, errG ls n i = some j → errP ls j ≠ 0 := by
        intro n
        induction n with
        | zero => intro i j h; simp [errG] at h
        | succ n ih => intro i j h; rw [errG] at h; split at h
                       · exact ih _ _ h
                       · rename_i hne; obtain rfl := Option.some.inj h; exact hne
      exact this _ _ _ he h1
    | none =>
      simp only
      unfold ringsP
      intro h
      refine ⟨h8, ?_⟩
      cases hr : ringB (namG (headsB ls) ls gZ) with
      | false => rfl
      | true => rw [hr, if_pos rfl] at h; exact absurd (show (7 : Int) = 0 from h) (by decide)

set_option maxHeartbeats 1000000 in
theorem loaded_s (l : Bs) (w : World) (hL : Calls Tryz.prog 14 #[.string ⟨l.toArray⟩, .bool false] w fun e w' => LoadIs l w w' e) (hR : ∀ w', Below w.heap.size w w' → Calls Tryz.prog 15 #[.string ⟨l.toArray⟩, .bool false] w' fun e w'' => e = .returned (.int .i64 (chkP l).1) ∧ Below w'.heap.size w' w'') :
    Calls Tryz.prog 6 #[.string ⟨l.toArray⟩, .bool false] w fun e w' => ∃ pv, e = .returned (.tuple #[pv, .bool true]) ∧ Below w.heap.size w w' ∧ ((chkP l).1 ≠ 0 → pv = .pointer none) ∧ ((chkP l).1 = 0 → ∃ b, pv = .pointer (some ⟨b, 0, none⟩) ∧ BaseV w' b (lvlB (readB l).1)) := by
  have HL := hideP2 hL
  have HR := hideP2 hR
  clear hL hR
  by_cases hk : (chkP l).1 = 0
  · have HL2 : Hid (∀ e w', LoadIs l w w' e → ∃ b, e = .returned (.tuple #[.pointer (some ⟨b, 0, none⟩), .int .i64 0]) ∧ Below w.heap.size w w' ∧ BaseV w' b (lvlB (readB l).1)) := fun e w' ⟨pv, h1, h2, _, h4⟩ => by
      obtain ⟨b, rfl, h5⟩ := h4 hk
      rw [hk] at h1
      exact ⟨b, h1, h2, h5⟩
    rw [hk] at HR
    have HK := hideP2 hk
    clear hk
    go_enter Tryz.func6, Tryz.ntmps6
    go_wp2_with fail
    refine HL.out.mono ?_
    rintro e w1 hli
    obtain ⟨b, rfl, hb1, hbv⟩ := HL2.out _ _ hli
    have HB1 := hideP2 hb1
    have HBv := hideP2 hbv
    clear hli hb1 hbv
    go_wp2_with fail
    refine (HR.out w1 HB1.out).mono ?_
    rintro e w2 ⟨rfl, hb2⟩
    have HB2 : Hid (Below w.heap.size w w2) := HB1.out.trans (hb2.mono HB1.out.size)
    have HBv2 := hideP2 (HBv.out.below hb2)
    clear hb2
    go_wp2_with fail
    refine (num_r 0 w2).mono ?_
    rintro e w3 ⟨rfl, hw⟩; obtain rfl := hw.symm
    go_wp2_with fail
    go_ret2
    exact ⟨_, rfl, HB2.out, fun h => absurd HK.out h, fun _ => ⟨b, rfl, HBv2.out⟩⟩
  · have HL2 : Hid (∀ e w', LoadIs l w w' e → e = .returned (.tuple #[.pointer none, .int .i64 (chkP l).1]) ∧ Below w.heap.size w w') := fun e w' ⟨pv, h1, h2, h3, _⟩ => by
      rw [h3 hk] at h1
      exact ⟨h1, h2⟩
    have HK := hideP2 hk
    generalize hkk : (chkP l).1 = k at *
    have b0 : (k != 0) = true := by simpa using hk
    clear hk hkk
    go_enter Tryz.func6, Tryz.ntmps6
    go_wp2_with fail
    refine HL.out.mono ?_
    rintro e w1 hli
    obtain ⟨rfl, hb1⟩ := HL2.out _ _ hli
    have HB1 := hideP2 hb1
    clear hli hb1
    go_wp2_with fail
    refine (HR.out w1 HB1.out).mono ?_
    rintro e w2 ⟨rfl, hb2⟩
    have HB2 : Hid (Below w.heap.size w w2) := HB1.out.trans (hb2.mono HB1.out.size)
    clear hb2
    go_wp2_with fail
    refine (num_r k w2).mono ?_
    rintro e w3 ⟨rfl, hw⟩; obtain rfl := hw.symm
    go_wp2_with fail
    go_ret2
    exact ⟨_, rfl, HB2.out, fun _ => rfl, fun h => absurd h HK.out⟩

set_option maxHeartbeats 1000000 in
theorem leveled_s (l : Bs) (w : World) (b : Nat) (ls : List PLine) (hl4 : l.length ≤ 4000) (hA : AllLT ls (usOf l)) (h8 : (headsB ls).length ≤ 8) (hr : ringB (namG (headsB ls) ls gZ) = false) (hb : BaseV w b (lvlB ls)) :
    Calls Tryz.prog 7 #[.pointer (some ⟨b, 0, none⟩), .string ⟨l.toArray⟩] w fun e w' => ∃ v, e = .returned (.tuple #[v, .bool true]) ∧ Below w.heap.size w w' := by
  have HB := hideP2 (BLevels_s w b (lvlB ls) hb)
  have HR := hideP2 (fun w' => RLevels_s l w' hl4 ls hA h8 hr)
  rw [lvl_same ls h8 hr] at HB
  have hlen : (docLv ls).length ≤ 10000 := by rw [docLv_len]; omega
  generalize docLv ls = L at *
  clear hA hr hb hl4 h8
  go_enter Tryz.func7, Tryz.ntmps7
  go_wp2_with fail
  refine HB.out.mono ?_
  rintro e w1 ⟨v1, rfl, ho1, hb1⟩
  obtain ⟨a1, c1, rfl, hp1⟩ := own_pr ho1 hlen
  have HP1 := hideP2 hp1
  have HB1 := hideP2 hb1
  clear ho1 hp1 hb1
  go_wp2_with fail
  refine (HR.out w1).mono ?_
  rintro e w2 ⟨v2, rfl, ho2, hb2⟩
  obtain ⟨a2, c2, rfl, hp2⟩ := own_pr ho2 hlen
  have HSm := hideP2 (sameLevels_s w2 a1 a2 c1 c2 L (HP1.out.keepB hb2 (Nat.le_refl _)) hp2)
  have HB2 : Hid (Below w.heap.size w w2) := HB1.out.trans (hb2.mono HB1.out.size)
  clear ho2 hp2 hb2
  go_wp2_with fail
  refine HSm.out.mono ?_
  rintro e w3 ⟨rfl, hb3⟩
  have HB3 : Hid (Below w.heap.size w w3) := HB2.out.trans (hb3.mono HB2.out.size)
  clear hb3
  go_wp2_with fail
  go_ret2
  exact ⟨_, rfl, HB3.out⟩

set_option maxHeartbeats 1000000 in
theorem Ranks_of (l : Bs) (w : World) (hmax : l.length ≤ maxLen) (hf : Folw w) (hL : Calls Tryz.prog 14 #[.string ⟨l.toArray⟩, .bool false] w fun e w' => LoadIs l w w' e) :
    Calls Tryz.prog 4 #[.string ⟨l.toArray⟩] w fun e w' => e = .returned (.bool true) ∧ Below w.heap.size w w' := by
  have hp : l.length ≤ 4000 → PureT 4001 l ∧ PureC l := fun h => pure_both h (by decide)
  have hlines : l.length ≤ 4000 → formB l < 0 → (readB l).2.2 = false := fun h1 h2 => by
    cases hr : (readB l).2.2 with
    | false => rfl
    | true => have := (hp h1).1.fails hr; omega
  have HLd := hideP2 (loaded_s l w hL (fun w' hb => by
    have h1 := RefCheck_any l w' hmax (hf.below hb) (fun h1 h2 => ⟨_, (hp h1).2.lines (hlines h1 h2)⟩)
    rw [chk_same hp] at h1
    exact RLoad_s l w' _ _ h1))
  by_cases hk : (chkP l).1 = 0
  · have hl4 : l.length ≤ 4000 := by
      rcases Nat.lt_or_ge 4000 l.length with h | h
      · unfold chkP at hk; rw [if_pos h] at hk; exact absurd (show (1 : Int) = 0 from hk) (by decide)
      · exact h
    have hrd : (readB l).2.2 = false := by
      cases hr : (readB l).2.2 with
      | false => rfl
      | true => unfold chkP at hk; rw [if_neg (by omega), hr] at hk; exact absurd (show (2 : Int) = 0 from hk) (by decide)
    have hck : (checkL (readB l).1).1 = 0 := by unfold chkP at hk; rw [if_neg (by omega), hrd] at hk; exact hk
    obtain ⟨h8, hr⟩ := errP_calm hck
    have hh8 : (headsB (readB l).1).length ≤ 8 := by
      have := (heads_inv (readB l).1 [] List.nodup_nil).2.2
      unfold headsB; simp at this; omega
    have HLv := hideP2 (fun w' b => leveled_s l w' b (readB l).1 hl4 ((hp hl4).2.lines hrd) hh8 hr)
    have HK := hideP2 hk
    clear hmax hf hL hp hlines hk hl4 hrd hck h8 hr hh8
    go_enter Tryz.func4, Tryz.ntmps4
    go_wp2_with fail
    refine HLd.out.mono ?_
    rintro e w1 ⟨pv, rfl, hb1, -, hbv⟩
    obtain ⟨b, rfl, hbw⟩ := hbv HK.out
    have HB1 := hideP2 hb1
    have HBv := hideP2 hbw
    clear hb1 hbv hbw
    go_wp2_with fail
    refine (HLv.out w1 b HBv.out).mono ?_
    rintro e w2 ⟨v, rfl, hb2⟩
    have HB2 : Hid (Below w.heap.size w w2) := HB1.out.trans (hb2.mono HB1.out.size)
    clear hb2
    go_wp2_with fail
    go_ret
    exact ⟨rfl, HB2.out⟩
  · have HK := hideP2 hk
    clear hmax hf hL hp hlines hk
    go_enter Tryz.func4, Tryz.ntmps4
    go_wp2_with fail
    refine HLd.out.mono ?_
    rintro e w1 ⟨pv, rfl, hb1, hn, -⟩
    obtain rfl := hn HK.out
    have HB1 := hideP2 hb1
    clear hb1 hn
    go_wp2_with fail
    go_ret
    exact ⟨rfl, HB1.out⟩
end Go.Proofs.YtdohhghfohpgjaaGreatDoor

/- What Load of the program gives of a text (it makes no difference yet whether strictly). -/
namespace Go.Proofs.YtdohhghfohpgjaaGreatDoor
open Go.RowKit

theorem lvlB_len (ls : List PLine) : (lvlB ls).length ≤ (headsB ls).length := by
  have key : ∀ (S : List Nat) (hd : List Bs) (i : Nat) (acc : List (Bs × Nat)), (lvlG S hd i acc).length ≤ acc.length + hd.length := by
    intro S hd
    induction hd with
    | nil => intro i acc; simp [lvlG]
    | cons n r ih => intro i acc; rw [lvlG]; have := ih (i + 1) (if i < 8 then acc ++ [(n, S.getD i 0)] else acc); split at this <;> simp at this ⊢ <;> split <;> omega
  have := key (levelsB (namG (headsB ls) ls gZ)) (headsB ls) 0 []
  unfold lvlB
  simpa using this
theorem headsB_len (ls : List PLine) : (headsB ls).length ≤ ls.length := by
  have key : ∀ (ls : List PLine) (acc : List Bs), (headsG ls acc).length ≤ acc.length + ls.length := by
    intro ls
    induction ls with
    | nil => intro acc; simp [headsG]
    | cons x r ih => intro acc; rw [headsG]; have := ih (if x.kind = 3 ∧ findN acc x.conc < 0 then acc ++ [x.conc] else acc); split at this <;> simp at this ⊢ <;> split <;> omega
  have := key ls []
  unfold headsB
  simpa using this
/-- A text of its own: bytes of it, and a text of these. -/
theorem conv_there (w : World) (s : Bs) : ∃ wc cap, (convert 9 85 (.string ⟨s.toArray⟩)).run Tryz.prog w = .ok (.slice (some ⟨w.heap.size, 0, none⟩) s.length cap) wc ∧ (convert 85 9 (.slice (some ⟨w.heap.size, 0, none⟩) s.length cap)).run Tryz.prog wc = .ok (.string ⟨s.toArray⟩) wc ∧ Below w.heap.size w wc := by
  have h1 := run_bytes_of_string (P := Tryz.prog) w 9 85 5 ⟨s.toArray⟩ Tryz.underlying9 Tryz.underlying85 Tryz.underlying5
  have hsz : (⟨s.toArray⟩ : ByteArray).size = s.length := by simp [ByteArray.size]
  rw [hsz] at h1
  generalize grownCap w s.length 0 5 = cap at h1
  refine ⟨_, cap, h1, ?_, ?_⟩
  · refine run_convert_bytes_back (P := Tryz.prog) _ 85 9 5 ⟨w.heap.size, 0, none⟩ cap s Tryz.underlying85 Tryz.underlying5 Tryz.underlying9 (fun j hj => ?_)
    have h2 := cell_row (hb_end w.drew (.cells (bytesRow ⟨s.toArray⟩ cap) 5 ((bytesRow ⟨s.toArray⟩ cap).size, (bytesRow ⟨s.toArray⟩ cap).size + 1))) j
    have h3 : (bytesRow ⟨s.toArray⟩ cap)[j]? = some (.int .u8 (s[j].toNat : Int)) := by
      unfold bytesRow
      rw [Array.getElem?_append_left (by simpa using hj)]
      simp [hj]
    rw [h3] at h2
    have e : (⟨w.heap.size, 0, none⟩ : Addr).add j = ⟨w.heap.size, j, none⟩ := by simp [Addr.add]; omega
    rw [e]
    exact h2
  · exact (below_drewN (Below.refl w.heap.size w) 1).alloc (Nat.le_refl _) _

/-- A row of names with levels, in a block of its own. -/
def LvRow (w : World) (a : Option Addr) (L : List (Bs × Nat)) : Prop := L.length = 0 ∨ ∃ g cur, a = some ⟨g, 0, none⟩ ∧ w.heap[g]? = some (.cells cur 87 (0, 0)) ∧ ∀ i, i < L.length → cur[i * 2]? = some (.string ⟨(L.getD i ([], 0)).1.toArray⟩) ∧ cur[i * 2 + 1]? = some (.int .i64 (((L.getD i ([], 0)).2 : Nat) : Int))
theorem own_lvRow {w : World} {B : Nat} {v : Value} {L : List (Bs × Nat)} (h : w.ownsRow B 87 2 v L.length (lvC L)) : ∃ a c, v = .slice a L.length c ∧ LvRow w a L ∧ (∀ g, a = some ⟨g, 0, none⟩ → B ≤ g) := by
  rcases h.2 with ⟨h1, h2⟩ | ⟨g, cap, cur, h1, hB, h3, _, _, _, h7⟩
  · exact ⟨none, 0, by rw [h1, h2], .inl h2, fun g hg => by cases hg⟩
  · exact ⟨some ⟨g, 0, none⟩, cap, h1, .inr ⟨g, cur, rfl, h3, fun i hi => ⟨(cell_row h3 _).symm.trans (cell_take2 h3 (n := L.length * 2) h7 (lvC_get L i hi).1), (cell_row h3 _).symm.trans (cell_take2 h3 (n := L.length * 2) h7 (lvC_get L i hi).2)⟩⟩, fun g' hg => by
      obtain rfl : g = g' := by simpa using hg
      exact hB⟩
theorem LvRow.below {w w' : World} {a : Option Addr} {L : List (Bs × Nat)} (h : LvRow w a L) (hb : Below w.heap.size w w') : LvRow w' a L := by
  rcases h with h | ⟨g, cur, h1, h2, h3⟩
  · exact .inl h
  · exact .inr ⟨g, cur, h1, by rw [hb.block g (hlt_of h2)]; exact h2, h3⟩
theorem LvRow.prV {w : World} {a : Option Addr} {L : List (Bs × Nat)} (h : LvRow w a L) (hf : L.length ≤ 10000) : PrV w a L := by
  rcases h with h | ⟨g, cur, h1, h2, h3⟩
  · exact ⟨fun h0 => by omega, hf⟩
  · exact ⟨fun _ => ⟨g, h1, fun i hi => ⟨(cell_row h2 _).trans (h3 i hi).1, (cell_row h2 _).trans (h3 i hi).2⟩⟩, hf⟩
/-- A name that is written where it stood changes nothing. -/
theorem LvRow.set {w : World} {g i : Nat} {L : List (Bs × Nat)} (h : LvRow w (some ⟨g, 0, none⟩) L) (hi : i < L.length) : LvRow (w.setCell ⟨g, i * 2, none⟩ (.string ⟨(L.getD i ([], 0)).1.toArray⟩)) (some ⟨g, 0, none⟩) L := by
  rcases h with h | ⟨g', cur, h1, h2, h3⟩
  · exact .inl h
  · obtain rfl : g = g' := by simpa using h1
    refine .inr ⟨g, cur, rfl, ?_, h3⟩
    rw [setCell_eq_setRow w g (i * 2) _ _ _ _ h2, setRow_heap w g cur _ _ _ h2]
    congr 2
    apply Array.ext_getElem?
    intro j
    rw [Array.getElem?_setIfInBounds]
    split
    · rename_i e
      subst e
      have := (h3 i hi).1
      split
      · exact this.symm
      · rename_i hsz; rw [Array.getElem?_eq_none (by omega)] at this; cases this
    · rfl
theorem LvRow.free {w : World} {g k : Nat} {L : List (Bs × Nat)} (h : LvRow w (some ⟨g, 0, none⟩) L) (h0 : 0 < L.length) : w.frozen? ⟨g, k, none⟩ = false := by
  rcases h with h | ⟨g', cur, h1, h2, h3⟩
  · omega
  · obtain rfl : g = g' := by simpa using h1
    simp [World.frozen?, h2]

set_option maxHeartbeats 1000000 in
theorem StLoad_err (l : Bs) (w : World) (k : Int) (hk : k = 1 ∨ k = 2) (p : Int) (hR : Calls Tryz.prog 30 #[.string ⟨l.toArray⟩] w fun e w' => e = .returned (readV (.slice none 0 0) k p) ∧ Below w.heap.size w w') :
    Calls Tryz.prog 14 #[.string ⟨l.toArray⟩, .bool false] w fun e w' => e = .returned (.tuple #[.pointer none, .int .i64 k]) ∧ Below w.heap.size w w' := by
  have HR := hideP2 hR
  have e1 : (k != 0) = true := by rcases hk with rfl | rfl <;> rfl
  clear hR hk
  go_enter Tryz.func14, Tryz.ntmps14
  go_wp2_with fail
  refine HR.out.mono ?_
  rintro e w1 ⟨rfl, hb⟩
  have HB := hideP2 hb
  have hs := hb.size
  clear hb HR
  unfold readV
  go_wp2_with fail
  go_quiet (fail)
  go_wp2_with fail
  go_ret2
  exact ⟨rfl, below_drewN (HB.out.alloc hs _) _⟩

theorem ret_pv {v : Value} {a b : Int} (h : a = b) : Ending.returned (.tuple #[v, .int .i64 a]) = .returned (.tuple #[v, .int .i64 b]) := by rw [h]

set_option maxHeartbeats 4000000 in
theorem StLoad_any (l : Bs) (w : World) (hmax : l.length ≤ maxLen) (hg : l.length ≤ 4000 → (readB l).2.2 = false → ∀ x ∈ (readB l).1, GoodP x) (hm : l.length ≤ 4000 → (readB l).1.length ≤ 10000) :
    Calls Tryz.prog 14 #[.string ⟨l.toArray⟩, .bool false] w fun e w' => LoadIs l w w' e := by
  by_cases hl : 4000 < l.length
  · have ec : chkP l = (1, 0) := by unfold chkP; rw [if_pos hl]
    refine (StLoad_err l w 1 (.inl rfl) 0 (BookRead_long l w hmax hl)).mono ?_
    rintro e w' ⟨h1, h2⟩
    refine ⟨_, ?_, h2, fun _ => rfl, fun h => ?_⟩
    · rw [ec]; exact h1
    · rw [ec] at h; exact absurd (show (1 : Int) = 0 from h) (by decide)
  · have hR := BookRead_any l w (by omega)
    have hg := hg (by omega)
    have hm := hm (by omega)
    have hv : (lvlB (readB l).1).length ≤ 10000 := Nat.le_trans (lvlB_len _) (Nat.le_trans (headsB_len _) hm)
    cases hf : (readB l).2.2
    · have ec : chkP l = checkL (readB l).1 := by unfold chkP; rw [if_neg hl, hf]
      have HLI : Hid (∀ w' e, (∃ pv, e = .returned (.tuple #[pv, .int .i64 (checkL (readB l).1).1]) ∧ Below w.heap.size w w' ∧ ((checkL (readB l).1).1 ≠ 0 → pv = .pointer none) ∧ ((checkL (readB l).1).1 = 0 → ∃ b, pv = .pointer (some ⟨b, 0, none⟩) ∧ BaseV w' b (lvlB (readB l).1))) → LoadIs l w w' e) := fun w' e' h => by unfold LoadIs; rw [ec]; exact h
      refine Calls.mono (R := fun e w' => ∃ pv, e = .returned (.tuple #[pv, .int .i64 (checkL (readB l).1).1]) ∧ Below w.heap.size w w' ∧ ((checkL (readB l).1).1 ≠ 0 → pv = .pointer none) ∧ ((checkL (readB l).1).1 = 0 → ∃ b, pv = .pointer (some ⟨b, 0, none⟩) ∧ BaseV w' b (lvlB (readB l).1))) ?_ (fun e' w' h => HLI.out w' e' h)
      have hg := hg hf
      have HR := hideP2 hR
      have HRI : Hid (∀ w' e, ReadIs w w' l e → ∃ lv ls, e = .returned (readV lv 0 0) ∧ ls.map Prod.fst = (readB l).1 ∧ LinesM w' w.heap.size lv ls) := by
        intro w' e h; unfold ReadIs at h; rw [hf] at h; exact h
      clear HLI ec
      generalize (readB l).1 = F at *
      have HG := hideP2 hg
      have HMn := hideP2 hm
      have HVn := hideP2 hv
      clear hR hg hm hf hv
      generalize hck : checkL F = ck at *
      have HCk := hideP2 hck
      clear hck
      obtain ⟨ck1, ck2⟩ := ck
      obtain ⟨L, hL⟩ : ∃ L, L = lvlB F := ⟨_, rfl⟩
      have HLl := hideP2 hL
      rw [← hL] at HVn ⊢
      have hLn2 : L.length ≤ 10000 := HVn.out
      clear hL HVn
      go_enter Tryz.func14, Tryz.ntmps14
      go_wp2_with fail
      refine HR.out.mono ?_
      rintro e w1 ⟨hri, hb⟩
      obtain ⟨lv, ls, rfl, hmap, hlin⟩ := HRI.out _ _ hri
      have HB := hideP2 hb
      have hs := hb.size
      have hLn : ls.length ≤ 10000 := by have h9 := congrArg List.length hmap; rw [List.length_map] at h9; rw [h9]; exact HMn.out
      obtain ⟨la, lc, rfl, hlc, hlv⟩ := lin_of hlin (fun x hx => HG.out _ (by rw [← hmap]; exact List.mem_map.2 ⟨x, hx, rfl⟩)) hLn
      have HCl : Hid (∀ o, Calls Tryz.prog 32 #[.slice la ls.length lc] (w1.alloc o) fun e w' => e = .returned (faultV (ck1, ck2)) ∧ Below (w1.alloc o).heap.size (w1.alloc o) w') := fun o => by
        have := Lines_s (w1.alloc o) la lc ls hlc (hlv.below ((Below.refl _ _).alloc (Nat.le_refl _) o) (Nat.le_refl _))
        rw [show fs ls = F from hmap, HCk.out] at this
        exact this
      have HRg : Hid (∀ w', Below w1.heap.size w1 w' → Calls Tryz.prog 33 #[.slice la ls.length lc] w' fun e w'' => ∃ v, e = .returned v ∧ w''.ownsRow w'.heap.size 87 2 v L.length (lvC L) ∧ Below w'.heap.size w' w'') := fun w' hb => by
        have := LLevels_s w' la lc ls (hlv.below hb (Nat.le_refl _))
        rw [show fs ls = F from hmap, ← HLl.out] at this
        exact this
      clear hb hri hlin hlv hmap HR HRI HG HMn HCk HLl
      unfold readV
      go_wp2_with fail
      refine (HCl.out _).mono ?_
      rintro e w2 ⟨rfl, hb2⟩
      have HBr : Hid (∀ o, Below w1.heap.size w1 ((w2.alloc o))) := fun o => by
        have h1 := ((Below.refl w1.heap.size w1).alloc (Nat.le_refl _) _).trans (hb2.mono (by simp))
        exact h1.alloc h1.size o
      have q2 : w2.cell? ⟨w1.heap.size, 0, none⟩ = some (.slice la ls.length lc) := by
        rw [hb2.cell (p := ⟨w1.heap.size, 0, none⟩) (lt_end _ _)]; exact (cell_row (hb_end _ _) 0).trans rfl
      have hlt2 : w1.heap.size < w2.heap.size := Nat.lt_of_lt_of_le (lt_end _ _) hb2.size
      have HB2 : Hid (Below w.heap.size w w2) := (HB.out.alloc hs _).trans (hb2.mono (by simp; omega))
      have hs2 := HB2.out.size
      clear HCl hb2
      unfold faultV
      by_cases k0 : ck1 = 0
      · subst k0
        go_wp2_with fail
        refine (HRg.out _ (HBr.out _)).mono ?_
        rintro e w3 ⟨v3, rfl, hown3, hb3⟩
        obtain ⟨va, vc, rfl, hrow, hge⟩ := own_lvRow hown3
        have HB3 : Hid (Below w.heap.size w w3) := (HB2.out.alloc hs2 _).trans (hb3.mono (by simp; omega))
        have HRow := hideP2 hrow
        have HGe : Hid (∀ g, va = some ⟨g, 0, none⟩ → w.heap.size ≤ g) := fun g hg => Nat.le_trans (by simp; omega) (hge g hg)
        clear hb3 hown3 hrow hge
        go_wp2_with fail
        go_loopw [30] (fun iv wr => ∃ (i : Nat), i ≤ L.length ∧ iv = .int .i64 i ∧ Hid (LvRow wr va L) ∧ Hid (Below w.heap.size w wr)) (fun iv _ => L.length - (intOf iv).toNat)
        case atStart => exact ⟨0, Nat.zero_le _, rfl, HRow, HB3⟩
        case round =>
          obtain ⟨i, hi, rfl, HRi, HBi⟩ := hrel
          have hszi := HBi.out.size
          by_cases hlt : i < L.length
          · obtain ⟨g, cur, rfl, -, -⟩ : ∃ g cur, va = some ⟨g, 0, none⟩ ∧ wr.heap[g]? = some (.cells cur 87 (0, 0)) ∧ True := by
              rcases HRi.out with h | ⟨g, cur, h1, h2, _⟩
              · omega
              · exact ⟨g, cur, h1, h2, trivial⟩
            obtain ⟨g', hg', hcs⟩ := (HRi.out.prV hLn2).blk (by omega)
            obtain rfl : g = g' := by simpa using hg'
            have hc := (hcs i hlt).1
            have hgl := cell_ltG hc
            obtain ⟨wc, cap, kc1, kc2, hbc⟩ := conv_there wr (L.getD i ([], 0)).1
            have HRc := hideP2 (HRi.out.below hbc)
            have hc' : wc.cell? ⟨g, i * 2, none⟩ = some (.string ⟨(L.getD i ([], 0)).1.toArray⟩) := by rw [hbc.cell (p := ⟨g, i * 2, none⟩) hgl]; exact hc
            have hfz := HRc.out.free (k := i * 2) (by omega)
            have HSt := hideP2 (HRc.out.set hlt)
            have HBc : Hid (Below w.heap.size w wc) := HBi.out.trans (hbc.mono hszi)
            have HBs : Hid (∀ v, Below w.heap.size w (wc.setCell ⟨g, i * 2, none⟩ v)) := fun v => HBc.out.setCell (p := ⟨g, i * 2, none⟩) (HGe.out g rfl) v
            clear hcs hg' hbc
            generalize (L.getD i ([], 0)).1 = s at *
            go_wp2_with fail
            go_roundw
            case rel => exact ⟨i + 1, by omega, by go_num, HSt, hideP2 (HBs.out _)⟩
            case measure => simp [intOf]; omega
          · have HPr : Hid (∀ o, PrV (wr.alloc o) va L) := fun o => (HRi.out.prV hLn2).keepB ((Below.refl _ _).alloc (Nat.le_refl _) o) (Nat.le_refl _)
            go_wp2_with fail
            go_ret2
            exact ⟨_, rfl, HBi.out.alloc hszi _, wr.heap.size, rfl, ⟨(cell_row (hb_end _ _) 0).trans rfl, va, vc, (cell_row (hb_end _ _) 1).trans rfl, HPr.out _⟩⟩
      · have b0 : (ck1 != 0) = true := by simpa using k0
        have HK := hideP2 k0
        clear k0
        go_wp2_with fail
        go_quiet (fail)
        go_wp2_with fail
        go_ret2
        exact ⟨_, rfl, below_drewN (HB2.out.alloc hs2 _) _, fun _ => rfl, fun h => absurd h HK.out⟩
    · have ec : chkP l = (2, ((cur (toP l) (readB l).2.1).p : Int)) := by unfold chkP; rw [if_neg hl, hf]
      refine (StLoad_err l w 2 (.inr rfl) ((cur (toP l) (readB l).2.1).p : Int) (hR.mono ?_)).mono ?_
      · rintro e w' ⟨h1, h2⟩
        unfold ReadIs at h1
        rw [hf] at h1
        exact ⟨h1, h2⟩
      · rintro e w' ⟨h1, h2⟩
        refine ⟨_, ?_, h2, fun _ => rfl, fun h => ?_⟩
        · rw [ec]; exact h1
        · rw [ec] at h; exact absurd (show (2 : Int) = 0 from h) (by decide)
end Go.Proofs.YtdohhghfohpgjaaGreatDoor
