/- A ring that the program tells is one of the document's. -/
import Derived.Test.YtnbpdffdnphbeaaGreatDoorRgLinks
import Derived.Test.YtnbpdffdnphbeaaGreatDoorStCheck
import Derived.Test.YtnbpdffdnphbeaaGreatDoorPWalk
namespace Go.Proofs.YtnbpdffdnphbeaaGreatDoor

/-- A ring, as the document asks for one: a step from each name to the next and from the last to the first, no name twice. -/
structure DocRing (us : List Toks) (rules : Bool) (R : List Bs) : Prop where
  pos : 0 < R.length
  few : R.length ≤ 8
  step : ∀ i, i < R.length → stepR us rules (R.getD i []) (R.getD ((i + 1) % R.length) []) = true
  once : ∀ i j, j < i → i < R.length → R.getD j [] ≠ R.getD i []

theorem lt_of {x : PLine} : ∀ {ls : List PLine} {us : List Toks}, AllLT ls us → x ∈ ls → ∃ u, LT x u := by
  intro ls
  induction ls with
  | nil => intro us _ h; simp at h
  | cons y r ih =>
    intro us hA h
    cases us with
    | nil => exact absurd hA id
    | cons u us =>
      rcases List.mem_cons.1 h with rfl | h
      · exact ⟨u, hA.1⟩
      · exact ih hA.2 h
theorem heads_ne {ls : List PLine} {us : List Toks} (hA : AllLT ls us) (b : Nat) (hb : b < (headsB ls).length) : (headsB ls).getD b [] ≠ [] := by
  obtain ⟨-, hmem, -⟩ := heads_inv ls [] List.nodup_nil
  intro e
  have h1 : (headsB ls).getD b [] ∈ headsB ls := by simp [List.getD, hb]
  rw [e] at h1
  have h2 := (hmem []).1 h1
  rcases h2 with h2 | h2
  · simp at h2
  · obtain ⟨x, hx, hc⟩ := List.any_eq_true.1 h2
    unfold isC at hc
    rw [Bool.and_eq_true, decide_eq_true_iff, decide_eq_true_iff] at hc
    obtain ⟨u, hu⟩ := lt_of hA hx
    obtain ⟨w, hw⟩ := hu.rule (hu.k3.1 hc.1)
    exact hw.ne hc.2
theorem arr_heads {ls : List PLine} {us : List Toks} (hA : AllLT ls us) {a b : Nat} (h : arr (namG (headsB ls) ls gZ) a b) : a < (headsB ls).length ∧ b < (headsB ls).length ∧ stepR us false ((headsB ls).getD a []) ((headsB ls).getD b []) = true := by
  obtain ⟨ha, hb, hg⟩ := h
  obtain ⟨hn, -, -⟩ := heads_inv ls [] List.nodup_nil
  rw [namG_get _ _ ha hb _ gZ_len, gZ_get, Bool.false_or] at hg
  have e1 : ls.any (arN (headsB ls) a b) = (decide (a < (headsB ls).length) && (decide (b < (headsB ls).length) && ls.any (nmX ((headsB ls).getD a []) ((headsB ls).getD b [])))) := by
    rw [← any_and, ← any_and]
    congr 1
    funext x
    exact ar_nm hn (heads_ne hA b) x
  rw [e1, Bool.and_eq_true, Bool.and_eq_true, decide_eq_true_iff, decide_eq_true_iff] at hg
  refine ⟨hg.1, hg.2.1, ?_⟩
  unfold stepR namesR
  simp only
  rw [← any_same hA (fun x u hx => (nm_same hx _ _).symm)]
  exact hg.2.2
theorem arr_labs {ls : List PLine} {us : List Toks} (hA : AllLT ls us) (hn : (labsB ls).Nodup) {a b : Nat} (h : arr (ordG (labsB ls) ls gZ) a b) : a < (labsB ls).length ∧ b < (labsB ls).length ∧ stepR us true ((labsB ls).getD a []) ((labsB ls).getD b []) = true := by
  obtain ⟨ha, hb, hg⟩ := h
  rw [ordG_get _ _ ha hb _ gZ_len, gZ_get, Bool.false_or] at hg
  have e1 : ls.any (arO (labsB ls) a b) = (decide (a < (labsB ls).length) && (decide (b < (labsB ls).length) && ls.any (ovX ((labsB ls).getD a []) ((labsB ls).getD b [])))) := by
    rw [← any_and, ← any_and]
    congr 1
    funext x
    exact ar_ov hn x
  rw [e1, Bool.and_eq_true, Bool.and_eq_true, decide_eq_true_iff, decide_eq_true_iff] at hg
  refine ⟨hg.1, hg.2.1, ?_⟩
  unfold stepR overR
  simp only
  rw [← any_same hA (fun x u hx => (ov_same hx _ _).symm)]
  exact hg.2.2

theorem pickG_map (names : List Bs) (P : List Nat) : (∀ p ∈ P, p < names.length) → ∀ acc, pickG names P acc = acc ++ P.map (fun p => names.getD p []) := by
  induction P with
  | nil => intro _ acc; simp [pickG]
  | cons p r ih => intro h acc; rw [pickG, if_pos (h p (by simp)), ih (fun q hq => h q (by simp [hq]))]; simp
theorem nodup_getD {names : List Bs} (hn : names.Nodup) {a b : Nat} (ha : a < names.length) (hb : b < names.length) (e : names.getD a [] = names.getD b []) : a = b := by
  have h1 := (find_iff hn (names.getD b []) a).2 ⟨ha, e⟩
  have h2 := (find_iff hn (names.getD b []) b).2 ⟨hb, rfl⟩
  omega
theorem doc_of {us : List Toks} {rules : Bool} {G : List Bool} {names : List Bs} {P : List Nat} (hn : names.Nodup) (hr : IsRing G P) (ha : ∀ a b, arr G a b → a < names.length ∧ b < names.length ∧ stepR us rules (names.getD a []) (names.getD b []) = true) : DocRing us rules (pickB names P) := by
  have hlt : ∀ i, i < P.length → P.getD i 0 < names.length := fun i hi => (ha _ _ (hr.arrow i hi)).1
  have hmem : ∀ p ∈ P, p < names.length := fun p hp => by
    obtain ⟨i, hi, rfl⟩ := List.getElem_of_mem hp
    have := hlt i hi
    simpa [List.getD, hi] using this
  have e : pickB names P = P.map (fun p => names.getD p []) := by unfold pickB; rw [pickG_map names P hmem, List.nil_append]
  rw [e]
  have hget : ∀ i, i < P.length → (P.map (fun p => names.getD p [])).getD i [] = names.getD (P.getD i 0) [] := fun i hi => by simp [List.getD, hi]
  have hpos := hr.pos
  have hfew := hr.few
  refine ⟨by rw [List.length_map]; exact hpos, by rw [List.length_map]; exact hfew, fun i hi => ?_, fun i j hji hi => ?_⟩
  · rw [List.length_map] at hi ⊢
    rw [hget i hi, hget _ (Nat.mod_lt _ hpos)]
    exact (ha _ _ (hr.arrow i hi)).2.2
  · rw [List.length_map] at hi
    rw [hget i hi, hget j (by omega)]
    intro he
    exact hr.once i j hji hi (nodup_getD hn (hlt j (by omega)) (hlt i hi) he)

theorem inpE_lt (ls : List PLine) (i : Nat) : inpE ls i < 7 := by unfold inpE; split <;> decide
theorem errP_lt (ls : List PLine) (i : Nat) : errP ls i < 7 := by
  have h := inpE_lt ls i
  unfold errP
  split
  · unfold numE; split
    · split <;> decide
    · exact h
  · split
    · exact h
    · split
      · unfold ruleE; split <;> decide
      · split
        · unfold overE; split
          · decide
          · split <;> decide
        · decide

theorem ring_doc {ls : List PLine} {us : List Toks} (hA : AllLT ls us) (h : (checkL ls).1 = 7) : DocRing us (decide ((checkL ls).2 = 1)) (ringL ls) := by
  revert h
  unfold checkL
  cases hm : manyG ls ls.length 0 with
  | some i => intro h; exact absurd (show (3 : Int) = 7 from h) (by decide)
  | none =>
    simp only
    unfold errsP
    cases he : errG ls ls.length 0 with
    | some i => intro h; have h1 : errP ls i = 7 := h; have h2 := errP_lt ls i; omega
    | none =>
      simp only
      have h2 := fun i (hi : i < ls.length) => errG_none ls.length 0 he i (Nat.zero_le _) (by omega)
      have hn : (labsB ls).Nodup := by
        refine labs_nodup ls (fun i hi hk => ?_)
        have := h2 i hi
        unfold errP at this
        rw [if_neg (by rw [hk]; decide), if_neg (by rw [hk]; decide), if_pos hk] at this
        unfold ruleE at this
        split at this
        · cases this
        · rename_i hh
          cases hx : hasL (ls.take i) 3 (lA ls i).name with
          | false => rfl
          | true => rw [hx] at hh; exact absurd rfl hh
      obtain ⟨hhn, -, -⟩ := heads_inv ls [] List.nodup_nil
      unfold ringsP
      by_cases k1 : ringB (namG (headsB ls) ls gZ) = true
      · rw [if_pos k1]
        intro _
        have k1' : loopB8 (chainsB (namG (headsB ls) ls gZ)) < 8 := by unfold ringB at k1; exact of_decide_eq_true k1
        have hr := ringPts_on (by rw [namG_len]; exact gZ_len) k1'
        have e : ringL ls = pickB (headsB ls) (ringPts (namG (headsB ls) ls gZ)) := by unfold ringL; rw [if_pos hr.pos]
        rw [e]
        exact doc_of hhn hr (fun a b h => arr_heads hA h)
      · rw [if_neg k1]
        by_cases k2 : ringB (ordG (labsB ls) ls gZ) = true
        · rw [if_pos k2]
          intro _
          have k1' : ¬ loopB8 (chainsB (namG (headsB ls) ls gZ)) < 8 := by unfold ringB at k1; exact fun h => k1 (decide_eq_true h)
          have k2' : loopB8 (chainsB (ordG (labsB ls) ls gZ)) < 8 := by unfold ringB at k2; exact of_decide_eq_true k2
          have hr := ringPts_on (by rw [ordG_len]; exact gZ_len) k2'
          have e : ringL ls = pickB (labsB ls) (ringPts (ordG (labsB ls) ls gZ)) := by unfold ringL; rw [ringPts_off k1', if_neg (by decide)]
          rw [e]
          exact doc_of hn hr (fun a b h => arr_labs hA hn h)
        · rw [if_neg k2]
          intro h; exact absurd (show (0 : Int) = 7 from h) (by decide)
end Go.Proofs.YtnbpdffdnphbeaaGreatDoor

/- What level of the document's answer gives: the level of a conclusion. -/
namespace Go.Proofs.YtnbpdffdnphbeaaGreatDoor
open Go.RowKit

theorem gA_heads {ls : List PLine} {us : List Toks} (hA : AllLT ls us) {a b : Nat} (ha : a < (headsB ls).length) (hb : b < (headsB ls).length) (ha8 : a < 8) (hb8 : b < 8) : gA (namG (headsB ls) ls gZ) a b = namesR us ((headsB ls).getD a []) ((headsB ls).getD b []) := by
  obtain ⟨hn, -, -⟩ := heads_inv ls [] List.nodup_nil
  rw [namG_get _ _ ha8 hb8 _ gZ_len, gZ_get, Bool.false_or]
  have e1 : ls.any (arN (headsB ls) a b) = (decide (a < (headsB ls).length) && (decide (b < (headsB ls).length) && ls.any (nmX ((headsB ls).getD a []) ((headsB ls).getD b [])))) := by
    rw [← any_and, ← any_and]
    congr 1
    funext x
    exact ar_nm hn (heads_ne hA b) x
  rw [e1, decide_eq_true ha, decide_eq_true hb, Bool.true_and, Bool.true_and]
  unfold namesR
  exact any_same hA (fun x u hx => (nm_same hx _ _).symm)
theorem levG_le (G : List Bool) (a : Nat) : levG G a ≤ 7 := lv_le G 7 a
theorem lev_heads {ls : List PLine} {us : List Toks} (hA : AllLT ls us) (h8 : (headsB ls).length ≤ 8) (hr : ringB (namG (headsB ls) ls gZ) = false) (i : Nat) (hi : i < 8) : mxG (gA (namG (headsB ls) ls gZ) i) (levG (namG (headsB ls) ls gZ)) (headsB ls).length 0 0 = levG (namG (headsB ls) ls gZ) i := by
  have hl : (namG (headsB ls) ls gZ).length = 64 := by rw [namG_len]; exact gZ_len
  rw [← lev_fix hl hr i hi]
  have := mx_app (gA (namG (headsB ls) ls gZ) i) (levG (namG (headsB ls) ls gZ)) (headsB ls).length (8 - (headsB ls).length) 0 0 (fun z h1 h2 => by
    cases hg : gA (namG (headsB ls) ls gZ) i z with
    | false => rfl
    | true => have := (arr_heads hA ⟨hi, by omega, hg⟩).2.1; omega)
  rw [show (headsB ls).length + (8 - (headsB ls).length) = 8 by omega] at this
  exact this.symm

set_option maxHeartbeats 2000000 in
theorem level_s (ls : List PLine) (us : List Toks) (hA : AllLT ls us) (h8 : (headsB ls).length ≤ 8) (hr : ringB (namG (headsB ls) ls gZ) = false) (m : Nat) : ∀ (i : Nat), i < (headsB ls).length → levG (namG (headsB ls) ls gZ) i ≤ m → ∀ (w : World) (a : Option Addr) (c : Nat) (b : Option Addr) (d : Nat), RowL w a us → StrV w b (headsB ls) →
    Calls Tryz.prog 65 #[.slice a us.length c, .slice b (headsB ls).length d, .string ⟨((headsB ls).getD i []).toArray⟩] w fun e w' => e = .returned (.int .i64 (levG (namG (headsB ls) ls gZ) i : Nat)) ∧ w' = w := by
  induction m with
  | zero =>
    intro i hi hm w a c b d hrow hstr
    have hz : levG (namG (headsB ls) ls gZ) i = 0 := by omega
    have HNo : Hid (∀ k, k < (headsB ls).length → namesR us ((headsB ls).getD i []) ((headsB ls).getD k []) = false) := fun k hk => by
      cases hg : namesR us ((headsB ls).getD i []) ((headsB ls).getD k []) with
      | false => rfl
      | true =>
        have hl : (namG (headsB ls) ls gZ).length = 64 := by rw [namG_len]; exact gZ_len
        have := lev_less hl hr (a := i) (b := k) (by omega) (by omega) (by rw [gA_heads hA hi hk (by omega) (by omega)]; exact hg)
        omega
    rw [hz]
    have HNm := hideP2 (fun x y => Names_s w a c ls us x y hrow hA)
    have HS := hideP2 hstr
    generalize headsB ls = names at *
    clear hA hr hrow hstr hm hz
    generalize names.getD i [] = nm at *
    go_enter Tryz.func65, Tryz.ntmps65
    go_wp2_with fail
    go_loop [7, 8] (fun nv iv => ∃ (k : Nat), k ≤ names.length ∧ nv = .int .i64 0 ∧ iv = .int .i64 k) (fun _ iv => names.length - (intOf iv).toNat)
    case atStart => exact ⟨0, Nat.zero_le _, rfl, rfl⟩
    case round =>
      obtain ⟨k, hk, rfl, rfl⟩ := hrel
      by_cases hlt : k < names.length
      · obtain ⟨g, rfl, hcs⟩ := HS.out.blk (by omega)
        have hc := hcs k hlt
        have HN1 := hideP2 (HNm.out nm (names.getD k []))
        rw [HNo.out k hlt] at HN1
        clear hcs
        generalize names.getD k [] = s at *
        go_wp2_with fail
        refine HN1.out.mono ?_
        rintro e w1 ⟨rfl, hw⟩; obtain rfl := hw.symm
        go_wp2_with fail
        go_round
        case rel => exact ⟨k + 1, by omega, rfl, by go_num⟩
        case measure => simp [intOf]; omega
      · go_wp2_with fail
        go_ret
        exact ⟨rfl, rfl⟩
  | succ m ih =>
    intro i hi hm w a c b d hrow hstr
    have hfix := lev_heads hA h8 hr i (by omega)
    have hl : (namG (headsB ls) ls gZ).length = 64 := by rw [namG_len]; exact gZ_len
    have HRec : Hid (∀ k, k < (headsB ls).length → gA (namG (headsB ls) ls gZ) i k = true → Calls Tryz.prog 65 #[.slice a us.length c, .slice b (headsB ls).length d, .string ⟨((headsB ls).getD k []).toArray⟩] w fun e w' => e = .returned (.int .i64 (levG (namG (headsB ls) ls gZ) k : Nat)) ∧ w' = w) := fun k hk hg => by
      have := lev_less hl hr (a := i) (b := k) (by omega) (by omega) hg
      exact ih k hk (by omega) w a c b d hrow hstr
    have HNm : Hid (∀ k, k < (headsB ls).length → Calls Tryz.prog 111 #[.slice a us.length c, .string ⟨((headsB ls).getD i []).toArray⟩, .string ⟨((headsB ls).getD k []).toArray⟩] w fun e w' => e = .returned (.bool (gA (namG (headsB ls) ls gZ) i k)) ∧ w' = w) := fun k hk => by
      rw [gA_heads hA hi hk (by omega) (by omega)]
      exact Names_s w a c ls us _ _ hrow hA
    have HS := hideP2 hstr
    have HFx := hideP2 hfix
    have HLe := hideP2 (levG_le (namG (headsB ls) ls gZ))
    generalize levG (namG (headsB ls) ls gZ) = L at *
    generalize gA (namG (headsB ls) ls gZ) i = p at *
    generalize headsB ls = names at *
    clear hA hr hrow hstr hm hfix hl ih
    generalize names.getD i [] = nm at *
    go_enter Tryz.func65, Tryz.ntmps65
    go_wp2_with fail
    go_loop [7, 8] (fun nv iv => ∃ (k acc : Nat), k ≤ names.length ∧ acc ≤ 8 ∧ nv = .int .i64 acc ∧ iv = .int .i64 k ∧ Hid (mxG p L (names.length - k) k acc = L i)) (fun _ iv => names.length - (intOf iv).toNat)
    case atStart => exact ⟨0, 0, Nat.zero_le _, Nat.zero_le _, rfl, rfl, HFx⟩
    case round =>
      obtain ⟨k, acc, hk, hacc, rfl, rfl, HE⟩ := hrel
      by_cases hlt : k < names.length
      · obtain ⟨g, rfl, hcs⟩ := HS.out.blk (by omega)
        have hc := hcs k hlt
        have HN1 := hideP2 (HNm.out k hlt)
        have HR1 := hideP2 (HRec.out k hlt)
        have hle := HLe.out k
        have hE := HE.out
        rw [show names.length - k = (names.length - (k + 1)) + 1 by omega, mxG] at hE
        have HE2 := hideP2 hE
        clear hcs HE hE
        generalize names.getD k [] = s at *
        generalize p k = z at *
        generalize L k = lk at *
        cases z
        · have HE3 : Hid (mxG p L (names.length - (k + 1)) (k + 1) acc = L i) := HE2.out
          clear HE2 HR1
          go_wp2_with fail
          refine HN1.out.mono ?_
          rintro e w1 ⟨rfl, hw⟩; obtain rfl := hw.symm
          go_wp2_with fail
          go_round
          case rel => exact ⟨k + 1, acc, by omega, hacc, rfl, by go_num, HE3⟩
          case measure => simp [intOf]; omega
        · have HR2 := hideP2 (HR1.out rfl)
          clear HR1
          by_cases k1 : acc ≤ lk
          · have HE3 : Hid (mxG p L (names.length - (k + 1)) (k + 1) (lk + 1) = L i) := by have := HE2.out; rw [decide_eq_true k1] at this; exact this
            have i1 : (acc : Int) < (lk : Int) + 1 := by omega
            clear HE2
            go_wp2_with fail
            refine HN1.out.mono ?_
            rintro e w1 ⟨rfl, hw⟩; obtain rfl := hw.symm
            go_wp2_with fail
            refine HR2.out.mono ?_
            rintro e w1 ⟨rfl, hw⟩; obtain rfl := hw.symm
            go_wp2_with fail
            go_round
            case rel => exact ⟨k + 1, lk + 1, by omega, by omega, by go_num, by go_num, HE3⟩
            case measure => simp [intOf]; omega
          · have HE3 : Hid (mxG p L (names.length - (k + 1)) (k + 1) acc = L i) := by have := HE2.out; rw [decide_eq_false k1] at this; exact this
            have i1 : ¬ (acc : Int) < (lk : Int) + 1 := by omega
            clear HE2
            go_wp2_with fail
            refine HN1.out.mono ?_
            rintro e w1 ⟨rfl, hw⟩; obtain rfl := hw.symm
            go_wp2_with fail
            refine HR2.out.mono ?_
            rintro e w1 ⟨rfl, hw⟩; obtain rfl := hw.symm
            go_wp2_with fail
            go_round
            case rel => exact ⟨k + 1, acc, by omega, hacc, rfl, by go_num, HE3⟩
            case measure => simp [intOf]; omega
      · have HE3 : Hid (acc = L i) := by have := HE.out; rw [show names.length - k = 0 by omega] at this; exact this
        clear HE
        go_wp2_with fail
        go_ret
        exact ⟨ret_int (by rw [HE3.out]), rfl⟩
end Go.Proofs.YtnbpdffdnphbeaaGreatDoor

/- What Levels and Load of the document's answer give, and that the same levels are told the same. -/
namespace Go.Proofs.YtnbpdffdnphbeaaGreatDoor
open Go.RowKit

/-- The document's levels of lines. -/
def docLv (ls : List PLine) : List (Bs × Nat) := (List.range (headsB ls).length).map fun i => ((headsB ls).getD i [], levG (namG (headsB ls) ls gZ) i)
theorem lvlG_map (S : List Nat) (hd : List Bs) : ∀ i acc, i + hd.length ≤ 8 → lvlG S hd i acc = acc ++ (List.range hd.length).map (fun j => (hd.getD j [], S.getD (i + j) 0)) := by
  induction hd with
  | nil => intro i acc _; simp [lvlG]
  | cons n r ih =>
    intro i acc h
    simp only [List.length_cons] at h
    rw [lvlG, if_pos (by omega), ih (i + 1) _ (by omega), List.length_cons, List.range_succ_eq_map, List.map_cons, List.map_map, List.append_assoc]
    congr 1
    simp only [List.singleton_append, List.getD_cons_zero, Nat.add_zero, List.cons.injEq, true_and]
    refine List.map_congr_left (fun j _ => ?_)
    simp only [Function.comp, Nat.succ_eq_add_one, List.getD_cons_succ]
    rw [show i + 1 + j = i + (j + 1) by omega]
theorem lvl_same (ls : List PLine) (h8 : (headsB ls).length ≤ 8) (hr : ringB (namG (headsB ls) ls gZ) = false) : lvlB ls = docLv ls := by
  unfold lvlB docLv
  rw [lvlG_map _ _ 0 [] (by omega), List.nil_append]
  refine List.map_congr_left (fun j hj => ?_)
  have hj8 : j < 8 := by have := List.mem_range.1 hj; omega
  rw [Nat.zero_add, levels_lev (by rw [namG_len]; exact gZ_len) hr j hj8]
theorem docLv_len (ls : List PLine) : (docLv ls).length = (headsB ls).length := by simp [docLv]

theorem docLv_take (ls : List PLine) (i : Nat) (hi : i < (headsB ls).length) : (docLv ls).take (i + 1) = (docLv ls).take i ++ [((headsB ls).getD i [], levG (namG (headsB ls) ls gZ) i)] := by
  have h : (docLv ls)[i]? = some ((headsB ls).getD i [], levG (namG (headsB ls) ls gZ) i) := by
    unfold docLv
    generalize levG (namG (headsB ls) ls gZ) = L
    rw [List.getElem?_map, List.getElem?_range hi, Option.map_some]
  rw [List.take_add_one, h, Option.toList_some]

theorem lvC_get (L : List (Bs × Nat)) : ∀ i, i < L.length → (lvC L)[i * 2]? = some (.string ⟨(L.getD i ([], 0)).1.toArray⟩) ∧ (lvC L)[i * 2 + 1]? = some (.int .i64 (((L.getD i ([], 0)).2 : Nat) : Int)) := by
  induction L with
  | nil => intro i h; simp at h
  | cons x r ih =>
    intro i h
    have e : lvC (x :: r) = .string ⟨x.1.toArray⟩ :: .int .i64 (x.2 : Nat) :: lvC r := by simp [lvC]
    rw [e]
    cases i with
    | zero => simp [List.getD]
    | succ i =>
      have := ih i (by simpa using h)
      rw [show (i + 1) * 2 = i * 2 + 1 + 1 by omega]
      simp only [List.getElem?_cons_succ, List.getD_cons_succ]
      exact this
/-- Names with levels lie in memory, behind a slice's pointer. -/
structure PrV (w : World) (a : Option Addr) (L : List (Bs × Nat)) : Prop where
  blk : 0 < L.length → ∃ g, a = some ⟨g, 0, none⟩ ∧ ∀ i, i < L.length → w.cell? ⟨g, i * 2, none⟩ = some (.string ⟨(L.getD i ([], 0)).1.toArray⟩) ∧ w.cell? ⟨g, i * 2 + 1, none⟩ = some (.int .i64 (((L.getD i ([], 0)).2 : Nat) : Int))
  few : L.length ≤ 10000
theorem own_pr {w : World} {B : Nat} {v : Value} {L : List (Bs × Nat)} (h : w.ownsRow B 122 2 v L.length (lvC L)) (hf : L.length ≤ 10000) : ∃ a c, v = .slice a L.length c ∧ PrV w a L := by
  rcases h.2 with ⟨h1, h2⟩ | ⟨g, cap, cur, h1, _, h3, _, _, _, h7⟩
  · exact ⟨none, 0, by rw [h1, h2], ⟨fun h0 => by omega, hf⟩⟩
  · exact ⟨some ⟨g, 0, none⟩, cap, h1, ⟨fun _ => ⟨g, rfl, fun i hi => ⟨cell_take2 h3 (n := L.length * 2) h7 (lvC_get L i hi).1, cell_take2 h3 (n := L.length * 2) h7 (lvC_get L i hi).2⟩⟩, hf⟩⟩
theorem PrV.keepB {w w' : World} {B : Nat} {a : Option Addr} {L : List (Bs × Nat)} (h : PrV w a L) (hb : Below B w w') (hB : w.heap.size ≤ B) : PrV w' a L :=
  ⟨fun h0 => let ⟨g, e, p⟩ := h.blk h0; ⟨g, e, fun j hj => ⟨by rw [hb.cell (p := ⟨g, j * 2, none⟩) (Nat.lt_of_lt_of_le (cell_ltG (p j hj).1) hB)]; exact (p j hj).1, by rw [hb.cell (p := ⟨g, j * 2 + 1, none⟩) (Nat.lt_of_lt_of_le (cell_ltG (p j hj).1) hB)]; exact (p j hj).2⟩⟩, h.few⟩

set_option maxHeartbeats 2000000 in
theorem sameLevels_s (w : World) (a b : Option Addr) (c d : Nat) (L : List (Bs × Nat)) (h1 : PrV w a L) (h2 : PrV w b L) :
    Calls Tryz.prog 30 #[.slice a L.length c, .slice b L.length d] w fun e w' => e = .returned (.bool true) ∧ Below w.heap.size w w' := by
  have H1 := hideP2 h1
  have H2 := hideP2 h2
  have hfew := h1.few
  clear h1 h2
  go_enter Tryz.func30, Tryz.ntmps30
  go_wp2_with fail
  go_loopw [5] (fun iv wr => ∃ (i : Nat), i ≤ L.length ∧ iv = .int .i64 i ∧ Hid (Below w.heap.size w wr)) (fun iv _ => L.length - (intOf iv).toNat)
  case atStart => exact ⟨0, Nat.zero_le _, rfl, hideP2 (Below.refl _ _)⟩
  case round =>
    obtain ⟨i, hi, rfl, HB⟩ := hrel
    by_cases hlt : i < L.length
    · obtain ⟨g1, rfl, hc1⟩ := (H1.out.keepB HB.out (Nat.le_refl _)).blk (by omega)
      obtain ⟨g2, rfl, hc2⟩ := (H2.out.keepB HB.out (Nat.le_refl _)).blk (by omega)
      obtain ⟨c1, c2⟩ := hc1 i hlt
      obtain ⟨c3, c4⟩ := hc2 i hlt
      clear hc1 hc2
      generalize L.getD i ([], 0) = x at *
      obtain ⟨s, n⟩ := x
      simp only at c1 c2 c3 c4
      go_wp2_with fail
      go_quiet (fail)
      go_wp2_with fail
      go_roundw
      case rel => exact ⟨i + 1, by omega, by go_num, hideP2 (below_drewN HB.out _)⟩
      case measure => simp [intOf]; omega
    · go_wp2_with fail
      go_ret
      exact ⟨rfl, HB.out⟩

set_option maxHeartbeats 2000000 in
theorem RLevels_s (l : Bs) (w : World) (hl4 : l.length ≤ 4000) (ls : List PLine) (hA : AllLT ls (usOf l)) (h8 : (headsB ls).length ≤ 8) (hr : ringB (namG (headsB ls) ls gZ) = false) :
    Calls Tryz.prog 29 #[.string ⟨l.toArray⟩] w fun e w' => ∃ v, e = .returned v ∧ w'.ownsRow w.heap.size 122 2 v (docLv ls).length (lvC (docLv ls)) ∧ Below w.heap.size w w' := by
  obtain ⟨i0, hi0, hz0, hz1, hz2⟩ := info_parts infoLev
  have HL : Hid (∀ w : World, Calls Tryz.prog 63 #[.string ⟨l.toArray⟩] w fun e w' => ∃ a c, e = .returned (.slice a (usOf l).length c) ∧ RowL w' a (usOf l) ∧ Below w.heap.size w w') := fun w => by
    refine (Lines_any l w hl4).mono ?_
    rintro e w' ⟨v, rfl, h1, h2⟩
    obtain ⟨a, c, rfl, h3⟩ := rowL_of h1 (Nat.le_trans (toksAt_len l 0) hl4)
    exact ⟨a, c, rfl, h3, h2⟩
  generalize usOf l = us at *
  have HH := hideP2 (fun w a c (h : RowL w a us) => Heads_s w a c ls us h hA)
  rw [heads_same hA] at HH
  have HLv := hideP2 (fun i hi w a c b d => level_s ls us hA h8 hr (levG (namG (headsB ls) ls gZ) i) i hi (Nat.le_refl _) w a c b d)
  have HD : Hid (∀ i, i < (headsB ls).length → (docLv ls).take (i + 1) = (docLv ls).take i ++ [((headsB ls).getD i [], levG (namG (headsB ls) ls gZ) i)]) := fun i hi => docLv_take ls i hi
  have HDl := hideP2 (docLv_len ls)
  generalize docLv ls = D at *
  generalize levG (namG (headsB ls) ls gZ) = Lv at *
  generalize headsB ls = hd at *
  clear hA hr hl4
  obtain ⟨B, hB⟩ : ∃ B, B = w.heap.size := ⟨_, rfl⟩
  have HB0 := hideP2 hB
  clear hB
  go_enter Tryz.func29, Tryz.ntmps29
  go_wp2_with fail
  refine (HL.out _).mono ?_
  rintro e w1 ⟨la, lc, rfl, hrow, hb1⟩
  have HRw := hideP2 hrow
  have HB1 := hideP2 hb1
  clear hrow hb1
  go_wp2_with fail
  refine (HH.out w1 la lc HRw.out).mono ?_
  rintro e w2 ⟨v2, rfl, hown2, hrest⟩
  have hb2 : Below w1.heap.size w1 w2 := by first | exact hrest | exact hrest.2 | exact hrest.2.2
  obtain ⟨na, nc, rfl, hsv⟩ := own_str hown2 (by omega)
  have HSv := hideP2 hsv
  have HR2 := hideP2 (HRw.out.below hb2)
  have HB2 : Hid (Below w.heap.size w w2) := HB1.out.trans (hb2.mono HB1.out.size)
  clear hown2 hrest hsv hb2 HRw HB1
  go_wp2_with fail
  go_loopw [5, 6] (fun ov iv wr => ∃ (i : Nat), i ≤ hd.length ∧ iv = .int .i64 i ∧ Hid (wr.ownsRow w2.heap.size 122 2 ov i (lvC (D.take i))) ∧ Hid (Below w2.heap.size w2 wr)) (fun _ iv _ => hd.length - (intOf iv).toNat)
  case atStart => exact ⟨0, Nat.zero_le _, rfl, hideP2 ⟨rfl, .inl ⟨rfl, rfl⟩⟩, hideP2 (Below.refl _ _)⟩
  case round =>
    obtain ⟨i, hi, rfl, HO, HB⟩ := hrel
    have hszr : w2.heap.size ≤ wr.heap.size := HB.out.size
    by_cases hlt : i < hd.length
    · obtain ⟨g, rfl, hcs⟩ := (HSv.out.keepB HB.out (Nat.le_refl _)).blk (by omega)
      have hc := hcs i hlt
      have HCl := hideP2 (HLv.out i hlt wr la lc (some ⟨g, 0, none⟩) nc (HR2.out.below HB.out) (HSv.out.keepB HB.out (Nat.le_refl _)))
      have HDi := hideP2 (HD.out i hlt)
      obtain ⟨oa, oc, rfl⟩ := own_sliceN HO.out
      clear hcs
      generalize hd.getD i [] = s at *
      generalize Lv i = sv at *
      go_wp2_with fail
      refine HCl.out.mono ?_
      rintro e w3 ⟨rfl, hw⟩; obtain rfl := hw.symm
      go_wp2_with (at_builtin; refine wpList_append_own _ rfl _ _ 26 rfl w2.heap.size 122 i0 _ 2 24 Tryz.underlying26 hi0 hz0 hz1 hz2 rfl (by decide) _ _ _ rfl (HO.out.alloc _) ⟨wr.heap.size, 0, none⟩ 1 1 [.string ⟨s.toArray⟩, .int .i64 (sv : Nat)] rfl rfl ?c1 ?c2 ?c3 ?c4 ?c5 ?_)
      case c1 => exact news_cells _ _ _ _ rfl
      case c2 => intro u hu; simp at hu; rcases hu with rfl | rfl <;> rfl
      case c3 => unfold maxLen; omega
      case c4 => omega
      case c5 => simp; omega
      intro v' w5 hown1 hgrow _
      have HB5 : Hid (Below w2.heap.size w2 w5) := (HB.out.alloc hszr _).grown hgrow (by simp; omega) (own_block_le HO.out)
      have HO5 : Hid (w5.ownsRow w2.heap.size 122 2 v' (i + 1) (lvC (D.take (i + 1)))) := by unfold Hid; rw [HDi.out, lvC_snoc]; exact hown1
      clear hgrow hown1
      go_wp2_with fail
      go_roundw
      case rel => exact ⟨i + 1, by omega, by go_num, HO5, HB5⟩
      case measure => simp [intOf]; omega
    · obtain rfl : i = hd.length := by omega
      have hsz2 : w.heap.size ≤ w2.heap.size := HB2.out.size
      go_wp2_with fail
      go_ret
      refine ⟨_, rfl, ?_, HB2.out.trans (HB.out.mono hsz2)⟩
      have h1 := HO.out
      rw [← HDl.out, List.take_length] at h1
      exact owns_base2 h1 hsz2

set_option maxHeartbeats 1000000 in
theorem RLoad_s (l : Bs) (w : World) (k p : Int) (hC : Calls Tryz.prog 39 #[.string ⟨l.toArray⟩] w fun e w' => e = .returned (.tuple #[.int .i64 k, .int .i64 p]) ∧ Below w.heap.size w w') :
    Calls Tryz.prog 27 #[.string ⟨l.toArray⟩, .bool false] w fun e w' => e = .returned (.int .i64 k) ∧ Below w.heap.size w w' := by
  have HC := hideP2 hC
  clear hC
  by_cases hk : k = 0
  · subst hk
    go_enter Tryz.func27, Tryz.ntmps27
    go_wp2_with fail
    refine HC.out.mono ?_
    rintro e w1 ⟨rfl, hb⟩
    have HB := hideP2 hb
    clear hb
    go_wp2_with fail
    go_ret
    exact ⟨rfl, HB.out⟩
  · have b0 : (k != 0) = true := by simpa using hk
    clear hk
    go_enter Tryz.func27, Tryz.ntmps27
    go_wp2_with fail
    refine HC.out.mono ?_
    rintro e w1 ⟨rfl, hb⟩
    have HB := hideP2 hb
    clear hb
    go_wp2_with fail
    go_ret
    exact ⟨rfl, HB.out⟩
end Go.Proofs.YtnbpdffdnphbeaaGreatDoor
