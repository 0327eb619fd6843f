/- A ring that the program tells is one of the document's. -/
import Derived.Test.YtnbpdffdnphbeaaDoorRgLinks
import Derived.Test.YtnbpdffdnphbeaaDoorStCheck
namespace Go.Proofs.YtnbpdffdnphbeaaDoor

/-- A ring, as the document asks for one: a step from each name to the next and from the last to the first, no name twice. -/
structure DocRing (us : List Toks) (rules : Bool) (R : List Bs) : Prop where
  pos : 0 < R.length
  few : R.length ≤ 8
  step : ∀ i, i < R.length → stepR us rules (R.getD i []) (R.getD ((i + 1) % R.length) []) = true
  once : ∀ i j, j < i → i < R.length → R.getD j [] ≠ R.getD i []

theorem lt_of {x : PLine} : ∀ {ls : List PLine} {us : List Toks}, AllLT ls us → x ∈ ls → ∃ u, LT x u := by
  intro ls
  induction ls with
  | nil => intro us _ h; simp at h
  | cons y r ih =>
    intro us hA h
    cases us with
    | nil => exact absurd hA id
    | cons u us =>
      rcases List.mem_cons.1 h with rfl | h
      · exact ⟨u, hA.1⟩
      · exact ih hA.2 h
theorem heads_ne {ls : List PLine} {us : List Toks} (hA : AllLT ls us) (b : Nat) (hb : b < (headsB ls).length) : (headsB ls).getD b [] ≠ [] := by
  obtain ⟨-, hmem, -⟩ := heads_inv ls [] List.nodup_nil
  intro e
  have h1 : (headsB ls).getD b [] ∈ headsB ls := by simp [List.getD, hb]
  rw [e] at h1
  have h2 := (hmem []).1 h1
  rcases h2 with h2 | h2
  · simp at h2
  · obtain ⟨x, hx, hc⟩ := List.any_eq_true.1 h2
    unfold isC at hc
    rw [Bool.and_eq_true, decide_eq_true_iff, decide_eq_true_iff] at hc
    obtain ⟨u, hu⟩ := lt_of hA hx
    obtain ⟨w, hw⟩ := hu.rule (hu.k3.1 hc.1)
    exact hw.ne hc.2
theorem arr_heads {ls : List PLine} {us : List Toks} (hA : AllLT ls us) {a b : Nat} (h : arr (namG (headsB ls) ls gZ) a b) : a < (headsB ls).length ∧ b < (headsB ls).length ∧ stepR us false ((headsB ls).getD a []) ((headsB ls).getD b []) = true := by
  obtain ⟨ha, hb, hg⟩ := h
  obtain ⟨hn, -, -⟩ := heads_inv ls [] List.nodup_nil
  rw [namG_get _ _ ha hb _ gZ_len, gZ_get, Bool.false_or] at hg
  have e1 : ls.any (arN (headsB ls) a b) = (decide (a < (headsB ls).length) && (decide (b < (headsB ls).length) && ls.any (nmX ((headsB ls).getD a []) ((headsB ls).getD b [])))) := by
    rw [← any_and, ← any_and]
    congr 1
    funext x
    exact ar_nm hn (heads_ne hA b) x
  rw [e1, Bool.and_eq_true, Bool.and_eq_true, decide_eq_true_iff, decide_eq_true_iff] at hg
  refine ⟨hg.1, hg.2.1, ?_⟩
  unfold stepR namesR
  simp only
  rw [← any_same hA (fun x u hx => (nm_same hx _ _).symm)]
  exact hg.2.2
theorem arr_labs {ls : List PLine} {us : List Toks} (hA : AllLT ls us) (hn : (labsB ls).Nodup) {a b : Nat} (h : arr (ordG (labsB ls) ls gZ) a b) : a < (labsB ls).length ∧ b < (labsB ls).length ∧ stepR us true ((labsB ls).getD a []) ((labsB ls).getD b []) = true := by
  obtain ⟨ha, hb, hg⟩ := h
  rw [ordG_get _ _ ha hb _ gZ_len, gZ_get, Bool.false_or] at hg
  have e1 : ls.any (arO (labsB ls) a b) = (decide (a < (labsB ls).length) && (decide (b < (labsB ls).length) && ls.any (ovX ((labsB ls).getD a []) ((labsB ls).getD b [])))) := by
    rw [← any_and, ← any_and]
    congr 1
    funext x
    exact ar_ov hn x
  rw [e1, Bool.and_eq_true, Bool.and_eq_true, decide_eq_true_iff, decide_eq_true_iff] at hg
  refine ⟨hg.1, hg.2.1, ?_⟩
  unfold stepR overR
  simp only
  rw [← any_same hA (fun x u hx => (ov_same hx _ _).symm)]
  exact hg.2.2

theorem pickG_map (names : List Bs) (P : List Nat) : (∀ p ∈ P, p < names.length) → ∀ acc, pickG names P acc = acc ++ P.map (fun p => names.getD p []) := by
  induction P with
  | nil => intro _ acc; simp [pickG]
  | cons p r ih => intro h acc; rw [pickG, if_pos (h p (by simp)), ih (fun q hq => h q (by simp [hq]))]; simp
theorem nodup_getD {names : List Bs} (hn : names.Nodup) {a b : Nat} (ha : a < names.length) (hb : b < names.length) (e : names.getD a [] = names.getD b []) : a = b := by
  have h1 := (find_iff hn (names.getD b []) a).2 ⟨ha, e⟩
  have h2 := (find_iff hn (names.getD b []) b).2 ⟨hb, rfl⟩
  omega
theorem doc_of {us : List Toks} {rules : Bool} {G : List Bool} {names : List Bs} {P : List Nat} (hn : names.Nodup) (hr : IsRing G P) (ha : ∀ a b, arr G a b → a < names.length ∧ b < names.length ∧ stepR us rules (names.getD a []) (names.getD b []) = true) : DocRing us rules (pickB names P) := by
  have hlt : ∀ i, i < P.length → P.getD i 0 < names.length := fun i hi => (ha _ _ (hr.arrow i hi)).1
  have hmem : ∀ p ∈ P, p < names.length := fun p hp => by
    obtain ⟨i, hi, rfl⟩ := List.getElem_of_mem hp
    have := hlt i hi
    simpa [List.getD, hi] using this
  have e : pickB names P = P.map (fun p => names.getD p []) := by unfold pickB; rw [pickG_map names P hmem, List.nil_append]
  rw [e]
  have hget : ∀ i, i < P.length → (P.map (fun p => names.getD p [])).getD i [] = names.getD (P.getD i 0) [] := fun i hi => by simp [List.getD, hi]
  have hpos := hr.pos
  have hfew := hr.few
  refine ⟨by rw [List.length_map]; exact hpos, by rw [List.length_map]; exact hfew, fun i hi => ?_, fun i j hji hi => ?_⟩
  · rw [List.length_map] at hi ⊢
    rw [hget i hi, hget _ (Nat.mod_lt _ hpos)]
    exact (ha _ _ (hr.arrow i hi)).2.2
  · rw [List.length_map] at hi
    rw [hget i hi, hget j (by omega)]
    intro he
    exact hr.once i j hji hi (nodup_getD hn (hlt j (by omega)) (hlt i hi) he)

theorem inpE_lt (ls : List PLine) (i : Nat) : inpE ls i < 7 := by unfold inpE; split <;> decide
theorem errP_lt (ls : List PLine) (i : Nat) : errP ls i < 7 := by
  have h := inpE_lt ls i
  unfold errP
  split
  · unfold numE; split
    · split <;> decide
    · exact h
  · split
    · exact h
    · split
      · unfold ruleE; split <;> decide
      · split
        · unfold overE; split
          · decide
          · split <;> decide
        · decide

theorem ring_doc {ls : List PLine} {us : List Toks} (hA : AllLT ls us) (h : (checkL ls).1 = 7) : DocRing us (decide ((checkL ls).2 = 1)) (ringL ls) := by
  revert h
  unfold checkL
  cases hm : manyG ls ls.length 0 with
  | some i => intro h; exact absurd (show (3 : Int) = 7 from h) (by decide)
  | none =>
    simp only
    unfold errsP
    cases he : errG ls ls.length 0 with
    | some i => intro h; have h1 : errP ls i = 7 := h; have h2 := errP_lt ls i; omega
    | none =>
      simp only
      have h2 := fun i (hi : i < ls.length) => errG_none ls.length 0 he i (Nat.zero_le _) (by omega)
      have hn : (labsB ls).Nodup := by
        refine labs_nodup ls (fun i hi hk => ?_)
        have := h2 i hi
        unfold errP at this
        rw [if_neg (by rw [hk]; decide), if_neg (by rw [hk]; decide), if_pos hk] at this
        unfold ruleE at this
        split at this
        · cases this
        · rename_i hh
          cases hx : hasL (ls.take i) 3 (lA ls i).name with
          | false => rfl
          | true => rw [hx] at hh; exact absurd rfl hh
      obtain ⟨hhn, -, -⟩ := heads_inv ls [] List.nodup_nil
      unfold ringsP
      by_cases k1 : ringB (namG (headsB ls) ls gZ) = true
      · rw [if_pos k1]
        intro _
        have k1' : loopB8 (chainsB (namG (headsB ls) ls gZ)) < 8 := by unfold ringB at k1; exact of_decide_eq_true k1
        have hr := ringPts_on (by rw [namG_len]; exact gZ_len) k1'
        have e : ringL ls = pickB (headsB ls) (ringPts (namG (headsB ls) ls gZ)) := by unfold ringL; rw [if_pos hr.pos]
        rw [e]
        exact doc_of hhn hr (fun a b h => arr_heads hA h)
      · rw [if_neg k1]
        by_cases k2 : ringB (ordG (labsB ls) ls gZ) = true
        · rw [if_pos k2]
          intro _
          have k1' : ¬ loopB8 (chainsB (namG (headsB ls) ls gZ)) < 8 := by unfold ringB at k1; exact fun h => k1 (decide_eq_true h)
          have k2' : loopB8 (chainsB (ordG (labsB ls) ls gZ)) < 8 := by unfold ringB at k2; exact of_decide_eq_true k2
          have hr := ringPts_on (by rw [ordG_len]; exact gZ_len) k2'
          have e : ringL ls = pickB (labsB ls) (ringPts (ordG (labsB ls) ls gZ)) := by unfold ringL; rw [ringPts_off k1', if_neg (by decide)]
          rw [e]
          exact doc_of hn hr (fun a b h => arr_labs hA hn h)
        · rw [if_neg k2]
          intro h; exact absurd (show (0 : Int) = 7 from h) (by decide)
end Go.Proofs.YtnbpdffdnphbeaaDoor

/- What Ringed of the document's answer gives of a ring that the document asks for: true. -/
namespace Go.Proofs.YtnbpdffdnphbeaaDoor
open Go.RowKit

/-- What may stand beside an answer of Check. -/
structure MayRing (us : List Toks) (k p e : Int) (R : List Bs) : Prop where
  calm : k = 0 → e = 9 ∧ R.length = 0
  same : k ≠ 0 → k ≠ 7 → e = k ∧ R.length = 0
  ring : k = 7 → e = 0 ∧ DocRing us (decide (p = 1)) R

set_option maxHeartbeats 4000000 in
theorem Ringed_any (l : Bs) (w : World) (a : Option Addr) (c : Nat) (R : List Bs) (e : Int) (hmax : l.length ≤ maxLen) (hf : Folw w) (hA : l.length ≤ 4000 → formB l < 0 → ∃ ls, AllLT ls (usOf l)) (hS : StrV w a R) (hM : MayRing (usOf l) (chkR l).1 (chkR l).2 e R) :
    Calls Tryd.prog 12 #[.string ⟨l.toArray⟩, .slice a R.length c, .int .i64 e] w fun e w' => e = .returned (.bool true) ∧ Below w.heap.size w w' := by
  have HC := hideP2 (RefCheck_any l w hmax hf hA)
  have H4 : Hid ((chkR l).1 = 7 → l.length ≤ 4000 ∧ formB l < 0) := fun h => by
    unfold chkR at h
    split at h
    · exact absurd (show (1 : Int) = 7 from h) (by decide)
    · split at h
      · exact absurd (show (2 : Int) = 7 from h) (by decide)
      · omega
  have HA := hideP2 hA
  have HL : Hid (l.length ≤ 4000 → ∀ w : World, Calls Tryd.prog 16 #[.string ⟨l.toArray⟩] w fun e w' => ∃ a c, e = .returned (.slice a (usOf l).length c) ∧ RowL w' a (usOf l) ∧ Below w.heap.size w w') := fun hl4 w => by
    refine (Lines_any l w hl4).mono ?_
    rintro e w' ⟨v, rfl, h1, h2⟩
    obtain ⟨a, c, rfl, h3⟩ := rowL_of h1 (Nat.le_trans (toksAt_len l 0) hl4)
    exact ⟨a, c, rfl, h3, h2⟩
  have HM := hideP2 hM
  have HS := hideP2 hS
  generalize usOf l = us at *
  generalize formB l = fm at *
  generalize chkR l = T at *
  obtain ⟨k, p⟩ := T
  simp only at HC H4 HM
  clear hmax hf hA hS hM
  by_cases k0 : k = 0
  · subst k0
    obtain ⟨rfl, hR0⟩ := HM.out.calm rfl
    have i0 : (R.length : Int) = 0 := by omega
    rw [hR0]
    clear HM HS HL HA H4
    go_enter Tryd.func12, Tryd.ntmps12
    go_wp2_with fail
    refine HC.out.mono ?_
    rintro e w1 ⟨rfl, hb1⟩
    have HB1 := hideP2 hb1
    clear hb1
    go_wp2_with fail
    go_ret
    exact ⟨rfl, HB1.out⟩
  · by_cases k7 : k = 7
    · subst k7
      obtain ⟨rfl, hD⟩ := HM.out.ring rfl
      obtain ⟨hl4, hfm⟩ := H4.out rfl
      obtain ⟨ls, hAA⟩ := HA.out hl4 hfm
      have HAA := hideP2 hAA
      have HLn := hideP2 (HL.out hl4)
      have HD := hideP2 hD
      have hpos := hD.pos
      have hfew := hD.few
      have bz : ((R.length : Int) == 0) = false := by rw [beq_eq_false_iff_ne]; omega
      have HP1 : Hid (((p == 1) : Bool) = decide (p = 1)) := by unfold Hid; by_cases h : p = 1 <;> simp [h]
      clear HM HA HL H4 hD hAA k0
      go_enter Tryd.func12, Tryd.ntmps12
      go_wp2_with fail
      refine HC.out.mono ?_
      rintro e w1 ⟨rfl, hb1⟩
      have HB1 := hideP2 hb1
      clear hb1
      go_wp2_with fail
      refine (HLn.out _).mono ?_
      rintro e w2 ⟨la, lc, rfl, hrow, hb2⟩
      have HB2 : Hid (Below w.heap.size w w2) := HB1.out.trans (hb2.mono HB1.out.size)
      have hs2 := HB2.out.size
      have HRw := hideP2 hrow
      have HS2 := hideP2 (HS.out.keepB HB2.out (Nat.le_refl _))
      clear hb2 hrow HS HB1 HLn
      go_wp2_with fail
      go_loopw [10] (fun iv wr => ∃ (i : Nat), i ≤ R.length ∧ iv = .int .i64 i ∧ Hid (Below w2.heap.size w2 wr)) (fun iv _ => R.length - (intOf iv).toNat)
      case atStart => exact ⟨0, Nat.zero_le _, rfl, hideP2 (Below.refl _ _)⟩
      case round =>
        obtain ⟨i, hi, rfl, HB⟩ := hrel
        by_cases hlt : i < R.length
        · obtain ⟨g, rfl, hcs⟩ := (HS2.out.keepB HB.out (Nat.le_refl _)).blk hpos
          have hkl : (i + 1) % R.length < R.length := Nat.mod_lt _ hpos
          have hci := hcs i hlt
          have hck := hcs _ hkl
          have hst := HD.out.step i hlt
          have hmod : ((i : Int) + 1).tmod (R.length : Int) = (((i + 1) % R.length : Nat) : Int) := by
            rw [show ((i : Int) + 1) = ((i + 1 : Nat) : Int) by omega]; rfl
          have HSt : Hid (∀ n, Calls Tryd.prog 25 #[.slice la us.length lc, .bool (p == 1), .string ⟨(R.getD i []).toArray⟩, .string ⟨(R.getD ((i + 1) % R.length) []).toArray⟩] (wr.drewN n) fun e w' => e = .returned (.bool true) ∧ w' = wr.drewN n) := fun n => by
            have := step_s (wr.drewN n) la lc ls us (p == 1) (R.getD i []) (R.getD ((i + 1) % R.length) []) (HRw.out.below (below_drewN HB.out n)) HAA.out
            rw [HP1.out, hst] at this
            rw [HP1.out]; exact this
          have HCs := hideP2 hcs
          have HOn := hideP2 (fun j hj => HD.out.once i j hj hlt)
          clear hcs hst
          generalize (i + 1) % R.length = kk at *
          generalize hsi : R.getD i [] = si at *
          generalize R.getD kk [] = sk at *
          have HSi := hideP2 hsi
          clear hsi
          go_wp2_with fail
          go_quiet (first
            | (go_at_call 25; refine Calls.quiet_of_same (HSt.out _)))
          rename_i nq
          obtain ⟨wm, hwm⟩ : ∃ wm, wm = wr.drewN nq := ⟨_, rfl⟩
          have HBm : Hid (Below w2.heap.size w2 wm) := by rw [hwm]; exact below_drewN HB.out nq
          rw [← hwm]
          clear hwm
          go_wp2_with fail
          go_loopw [13] (fun jv wr => ∃ (j : Nat), j ≤ i ∧ jv = .int .i64 j ∧ Hid (Below w2.heap.size w2 wr)) (fun jv _ => i - (intOf jv).toNat)
          case atStart => exact ⟨0, Nat.zero_le _, rfl, HBm⟩
          case round =>
            obtain ⟨j, hj, rfl, HBj⟩ := hrel
            by_cases hltj : j < i
            · obtain ⟨g2, hg2, hcs2⟩ := (HS2.out.keepB HBj.out (Nat.le_refl _)).blk hpos
              obtain rfl : g = g2 := by simpa using hg2
              have hcj := hcs2 j (by omega)
              have hci2 := hcs2 i hlt
              rw [HSi.out] at hci2
              have hne := HOn.out j hltj
              have hjr : j < R.length := by omega
              clear hcs2 hg2
              generalize R.getD j [] = sj at *
              have b1 : (sj == si) = false := by simpa using hne
              clear hne
              go_wp2_with fail
              go_quiet (fail)
              go_wp2_with fail
              go_roundw
              case rel => exact ⟨j + 1, by omega, by go_num, hideP2 (below_drewN HBj.out _)⟩
              case measure => simp [intOf]; omega
            · go_wp2_with fail
              go_roundw
              case rel => exact ⟨i + 1, by omega, by go_num, HBj⟩
              case measure => simp [intOf]; omega
        · go_wp2_with fail
          go_ret
          exact ⟨rfl, HB2.out.trans (HB.out.mono hs2)⟩
    · obtain ⟨rfl, hR0⟩ := HM.out.same k0 k7
      have i0 : (R.length : Int) = 0 := by omega
      have b0 : (e == 0) = false := by simpa using k0
      have b7 : (e != 7) = true := by simpa using k7
      rw [hR0]
      clear HM HS HL HA H4 k0 k7
      go_enter Tryd.func12, Tryd.ntmps12
      go_wp2_with fail
      refine HC.out.mono ?_
      rintro e w1 ⟨rfl, hb1⟩
      have HB1 := hideP2 hb1
      clear hb1
      go_wp2_with fail
      go_ret
      exact ⟨rfl, HB1.out⟩
end Go.Proofs.YtnbpdffdnphbeaaDoor
