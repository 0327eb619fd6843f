/- What word and strewn of statutekeep give. -/
import Derived.Test.YtnbpdffdnphbeaaGreatDoorFLines
namespace Go.Proofs.YtnbpdffdnphbeaaGreatDoor
open Go.RowKit

/-- Is a token a word or a number? -/
def isW (s : Bs) : Bool := (decide (97 ≤ (s.getD 0 0).toNat) && decide ((s.getD 0 0).toNat ≤ 122)) || (decide (48 ≤ (s.getD 0 0).toNat) && decide ((s.getD 0 0).toNat ≤ 57))
set_option maxHeartbeats 1000000 in
theorem fIsW_s (w : World) (s : Bs) (h : s ≠ []) : Calls Tryz.prog 59 #[.string ⟨s.toArray⟩] w fun e w' => e = .returned (.bool (isW s)) ∧ w' = w := by
  obtain ⟨c, r, rfl⟩ : ∃ c r, s = c :: r := by cases s with | nil => exact absurd rfl h | cons c r => exact ⟨c, r, rfl⟩
  have hc : isW (c :: r) = ((decide (97 ≤ c.toNat) && decide (c.toNat ≤ 122)) || (decide (48 ≤ c.toNat) && decide (c.toNat ≤ 57))) := rfl
  rw [hc]
  clear hc h
  have hlen : (0 : Int) < ((r.length : Int) + 1) := by omega
  have hx : ∀ h : 0 < (⟨(c :: r).toArray⟩ : ByteArray).size, ((⟨(c :: r).toArray⟩ : ByteArray)[0]'h) = c := fun _ => rfl
  by_cases k1 : 97 ≤ c.toNat
  · have i1 : (97 : Int) ≤ (c.toNat : Int) := by omega
    by_cases k2 : c.toNat ≤ 122
    · have i2 : (c.toNat : Int) ≤ 122 := by omega
      rw [decide_eq_true k1, decide_eq_true k2]
      go_enter Tryz.func59, Tryz.ntmps59
      go_wp2_with fail
      go_ret
      exact ⟨rfl, rfl⟩
    · have i2 : ¬ (c.toNat : Int) ≤ 122 := by omega
      have k3 : 48 ≤ c.toNat := by omega
      have i3 : (48 : Int) ≤ (c.toNat : Int) := by omega
      have k4 : ¬ c.toNat ≤ 57 := by omega
      have i4 : ¬ (c.toNat : Int) ≤ 57 := by omega
      rw [decide_eq_true k1, decide_eq_false k2, decide_eq_true k3, decide_eq_false k4]
      go_enter Tryz.func59, Tryz.ntmps59
      go_wp2_with fail
      go_ret
      exact ⟨rfl, rfl⟩
  · have i1 : ¬ (97 : Int) ≤ (c.toNat : Int) := by omega
    by_cases k3 : 48 ≤ c.toNat
    · have i3 : (48 : Int) ≤ (c.toNat : Int) := by omega
      by_cases k4 : c.toNat ≤ 57
      · have i4 : (c.toNat : Int) ≤ 57 := by omega
        rw [decide_eq_false k1, decide_eq_true k3, decide_eq_true k4]
        go_enter Tryz.func59, Tryz.ntmps59
        go_wp2_with fail
        go_ret
        exact ⟨rfl, rfl⟩
      · have i4 : ¬ (c.toNat : Int) ≤ 57 := by omega
        rw [decide_eq_false k1, decide_eq_true k3, decide_eq_false k4]
        go_enter Tryz.func59, Tryz.ntmps59
        go_wp2_with fail
        go_ret
        exact ⟨rfl, rfl⟩
    · have i3 : ¬ (48 : Int) ≤ (c.toNat : Int) := by omega
      rw [decide_eq_false k1, decide_eq_false k3]
      go_enter Tryz.func59, Tryz.ntmps59
      go_wp2_with fail
      go_ret
      exact ⟨rfl, rfl⟩

/-- What may stand between two tokens. -/
def GapOk (p x g : Bs) : Prop := (g = [] ∧ ¬ (isW p = true ∧ isW x = true)) ∨ g = [32] ∨ g = [10] ∨ g = [32, 10, 32]
def catG : List Bs → List Bs → Bs
  | g :: gs, x :: xs => g ++ x ++ catG gs xs
  | _, _ => []
theorem catG_snoc (g x : Bs) : ∀ (gs xs : List Bs), gs.length = xs.length → catG (gs ++ [g]) (xs ++ [x]) = catG gs xs ++ (g ++ x) := by
  intro gs
  induction gs with
  | nil => intro xs h; cases xs with | nil => simp [catG] | cons _ _ => cases h
  | cons a r ih => intro xs h; cases xs with
    | nil => cases h
    | cons b xs => simp only [List.cons_append, catG]; rw [ih xs (by simpa using h)]; simp
/-- A text: tokens strewn, each behind a gap; the last token. -/
structure Str (ws : List Bs) (s last : Bs) (gs : List Bs) : Prop where
  len : gs.length = ws.length
  txt : s = catG gs ws
  lst : last = ([[59]] ++ ws).getD ws.length []
  gap : ∀ i, i < ws.length → GapOk (([[59]] ++ ws).getD i []) (ws.getD i []) (gs.getD i [])
  few : s.length ≤ ws.length * 24
theorem str_nil : Str [] [] [59] [] := ⟨rfl, rfl, rfl, fun i hi => absurd hi (by simp), Nat.le_refl _⟩
theorem Str.snoc {ws : List Bs} {s last g x : Bs} {gs : List Bs} (h : Str ws s last gs) (hg : GapOk last x g) (hx : x.length ≤ 21) : Str (ws ++ [x]) (s ++ (g ++ x)) x (gs ++ [g]) := by
  have hl := h.len
  refine ⟨by simp [hl], by rw [catG_snoc _ _ _ _ hl, ← h.txt], by simp [List.getD], fun i hi => ?_, ?_⟩
  · by_cases hlt : i < ws.length
    · have := h.gap i hlt
      have e1 : ([[59]] ++ (ws ++ [x])).getD i [] = ([[59]] ++ ws).getD i [] := by
        rw [← List.append_assoc, List.getD_eq_getElem?_getD, List.getD_eq_getElem?_getD, List.getElem?_append_left (by simp; omega)]
      have e2 : (ws ++ [x]).getD i [] = ws.getD i [] := by rw [List.getD_eq_getElem?_getD, List.getD_eq_getElem?_getD, List.getElem?_append_left hlt]
      have e3 : (gs ++ [g]).getD i [] = gs.getD i [] := by rw [List.getD_eq_getElem?_getD, List.getD_eq_getElem?_getD, List.getElem?_append_left (by omega)]
      rw [e1, e2, e3]; exact this
    · obtain rfl : i = ws.length := by simp at hi; omega
      have e1 : ([[59]] ++ (ws ++ [x])).getD ws.length [] = last := by
        rw [h.lst, ← List.append_assoc, List.getD_eq_getElem?_getD, List.getD_eq_getElem?_getD, List.getElem?_append_left (by simp)]
      have e2 : (ws ++ [x]).getD ws.length [] = x := by simp [List.getD]
      have e3 : (gs ++ [g]).getD ws.length [] = g := by rw [← hl]; simp [List.getD]
      rw [e1, e2, e3]; exact hg
  · have h1 := h.few
    have h2 : g.length ≤ 3 := by rcases hg with ⟨rfl, -⟩ | rfl | rfl | rfl <;> simp
    simp only [List.length_append, List.length_cons, List.length_nil]
    omega
theorem flat_take_succ (L : List (List Bs)) (i : Nat) (h : i < L.length) : (L.take (i + 1)).flatten = (L.take i).flatten ++ L.getD i [] := by
  rw [List.take_add_one, List.flatten_append, List.getElem?_eq_getElem h]
  simp [List.getD, h]
theorem take_succ_getD (ws : List Bs) (k : Nat) (h : k < ws.length) : ws.take (k + 1) = ws.take k ++ [ws.getD k []] := by
  rw [List.take_add_one]
  simp [List.getD, h]

set_option maxRecDepth 100000 in
set_option maxHeartbeats 2000000 in
theorem fStrewn_s (w : World) (a ga : Option Addr) (c gn gc : Nat) (L : List (List Bs)) (h : OutV w a L) (hS : ShortF L) (hne : ∀ ws ∈ L, ∀ x ∈ ws, x ≠ []) (hG : RawE w ga gn) :
    Calls Tryz.prog 23 #[.slice a L.length c, .slice ga gn gc] w fun e w' => ∃ s last gs, e = .returned (.string ⟨s.toArray⟩) ∧ Str L.flatten s last gs ∧ w' = w := by
  have HO := hideP2 h
  have HS := hideP2 hS
  have hfew := hS.few
  have HNe := hideP2 hne
  have HG := hideP2 hG
  have hgn := hG.few
  unfold maxLen at hgn
  have HPk := hideP2 fPick_s
  have HT0 : Hid (∀ i, (L.take i).flatten.length ≤ i * 100) := fun i => by
    induction i with
    | zero => simp
    | succ i ih =>
      by_cases hi : i < L.length
      · rw [flat_take_succ L i hi, List.length_append]; have := hS.line i hi; omega
      · rw [List.take_of_length_le (by omega)] at ih ⊢; omega
  clear h hS hne hG
  go_enter Tryz.func23, Tryz.ntmps23
  go_wp2_with fail
  go_loop [5, 6, 7, 8] (fun sv lv gv iv => ∃ (i : Nat) (s last : Bs) (gs : List Bs), i ≤ L.length ∧ sv = .string ⟨s.toArray⟩ ∧ lv = .string ⟨last.toArray⟩ ∧ gv = .int .i64 (((L.take i).flatten.length : Nat) : Int) ∧ iv = .int .i64 (i : Int) ∧ Hid (last ≠ []) ∧ Hid (Str (L.take i).flatten s last gs)) (fun _ _ _ iv => L.length - (intOf iv).toNat)
  case atStart => exact ⟨0, [], [59], [], Nat.zero_le _, rfl, rfl, rfl, rfl, hideP2 (by simp), hideP2 str_nil⟩
  case round =>
    obtain ⟨i, s, last, gs, hi, rfl, rfl, rfl, rfl, HLn, HSt⟩ := hrel
    by_cases hlt : i < L.length
    · obtain ⟨g, la, lc, rfl, hc, hws⟩ := HO.out.line i hlt
      have hl100 := HS.out.line i hlt
      have HT : Hid (∀ k, k < (L.getD i []).length → ((L.getD i []).getD k []).length ≤ 21) := fun k hk => HS.out.word i k hlt hk
      have HNw : Hid (∀ k, k < (L.getD i []).length → (L.getD i []).getD k [] ≠ []) := fun k hk => HNe.out _ (gd_mem [] hlt) _ (gd_mem [] hk)
      have HFs := hideP2 (flat_take_succ L i hlt)
      have hb0 := HT0.out i
      generalize L.getD i [] = ws at *
      generalize (L.take i).flatten = W0 at *
      have HW := hideP2 hws
      have ii : (i : Int) < (L.length : Int) := by omega
      clear hws
      go_wp2_with fail
      go_loop [5, 6, 7, 9] (fun sv lv gv kv => ∃ (k : Nat) (s last : Bs) (gs : List Bs), k ≤ ws.length ∧ sv = .string ⟨s.toArray⟩ ∧ lv = .string ⟨last.toArray⟩ ∧ gv = .int .i64 (((W0.length + k : Nat) : Nat) : Int) ∧ kv = .int .i64 (k : Int) ∧ Hid (last ≠ []) ∧ Hid (Str (W0 ++ ws.take k) s last gs)) (fun _ _ _ kv => ws.length - (intOf kv).toNat)
      case atStart => exact ⟨0, s, last, gs, Nat.zero_le _, rfl, rfl, rfl, rfl, HLn, by rw [List.take_zero, List.append_nil]; exact HSt⟩
      case round =>
        clear HSt HLn
        obtain ⟨k, s, last, gs, hk, rfl, rfl, rfl, rfl, HLn, HSt⟩ := hrel
        by_cases hkl : k < ws.length
        · obtain ⟨gl, rfl, hcw⟩ := HW.out k hkl
          have hx := HT.out k hkl
          have hxn := HNw.out k hkl
          have HTk := hideP2 (take_succ_getD ws k hkl)
          generalize ws.getD k [] = x at *
          have kk : (k : Int) < (ws.length : Int) := by omega
          have HXn := hideP2 hxn
          clear hxn
          have hlen := HSt.out.few
          have hwl : (W0 ++ ws.take k).length ≤ 10000 := by rw [List.length_append, List.length_take]; omega
          have hsl : s.length ≤ 240000 := by omega
          have hW0 : W0.length ≤ 10000 := by omega
          go_upto_if 36 with fail
          go_cut [11] from 34 to 44 (fun v11 wx => ∃ r : Nat, v11 = .int .i64 (r : Int) ∧ Hid (r < 4) ∧ wx = w)
          case first =>
            by_cases hg0 : gn = 0
            · subst hg0
              go_wp2_with fail
              go_meet
              exact ⟨0, rfl, hideP2 (by decide), rfl⟩
            · have g1 : 0 < gn := by omega
              have g2 : (0 : Int) < (gn : Int) := by omega
              have n0 : ((gn : Int) == 0) = false := by rw [beq_eq_false_iff_ne]; omega
              obtain ⟨d, hd⟩ : ∃ d : Nat, ((W0.length : Int) + (k : Int)) % (gn : Int) = (d : Int) := ⟨(((W0.length : Int) + (k : Int)) % (gn : Int)).toNat, by have := Int.emod_nonneg ((W0.length : Int) + (k : Int)) (show (gn : Int) ≠ 0 by omega); omega⟩
              have hdl : d < gn := by have := Int.emod_lt_of_pos ((W0.length : Int) + (k : Int)) g2; omega
              have hdl2 : (d : Int) < (gn : Int) := by omega
              obtain ⟨gg, go, z, rfl, cz, hz⟩ := HG.out.at hdl
              have HPw := hideP2 (HPk.out w z 4 hz (by decide) (by decide))
              clear hg0
              go_wp2_with fail
              refine HPw.out.mono ?_
              rintro e w2 ⟨r, rfl, hr, hw⟩; obtain rfl := hw.symm
              go_wp2_with fail
              go_meet
              exact ⟨r, rfl, hideP2 (by omega), rfl⟩
          case rest =>
            obtain ⟨r, rfl, Hr, rfl⟩ := hcut
            have hWi := fIsW_s wc last HLn.out
            have hXi := fIsW_s wc x HXn.out
            have HWi := hideP2 hWi
            have HXi := hideP2 hXi
            clear hWi hXi
            go_upto_block 4 with fail
            go_cut [5] from 34 to 69 (fun v5 wx => ∃ gp, v5 = .string ⟨(s ++ gp).toArray⟩ ∧ Hid (gp.length ≤ 3) ∧ Hid (GapOk last x gp) ∧ wx = wc)
            case first =>
              have hr4 : r = 0 ∨ r = 1 ∨ r = 2 ∨ r = 3 := by have := Hr.out; omega
              rcases hr4 with rfl | rfl | rfl | rfl
              · cases hw1 : isW last
                · have HGo : Hid (GapOk last x []) := .inl ⟨rfl, fun q => by rw [hw1] at q; exact absurd q.1 (by simp)⟩
                  rw [hw1] at HWi
                  clear hw1
                  go_wp2_with fail
                  refine HWi.out.mono ?_
                  rintro e w5 ⟨rfl, hw⟩; obtain rfl := hw.symm
                  go_wp2_with fail
                  go_meet
                  exact ⟨[], by rw [List.append_nil], hideP2 (by decide), HGo, rfl⟩
                · rw [hw1] at HWi
                  cases hw2 : isW x
                  · have HGo : Hid (GapOk last x []) := .inl ⟨rfl, fun q => by rw [hw2] at q; exact absurd q.2 (by simp)⟩
                    rw [hw2] at HXi
                    clear hw1 hw2
                    go_wp2_with fail
                    refine HWi.out.mono ?_
                    rintro e w5 ⟨rfl, hw⟩; obtain rfl := hw.symm
                    go_wp2_with fail
                    refine HXi.out.mono ?_
                    rintro e w5 ⟨rfl, hw⟩; obtain rfl := hw.symm
                    go_wp2_with fail
                    go_meet
                    exact ⟨[], by rw [List.append_nil], hideP2 (by decide), HGo, rfl⟩
                  · have HGo : Hid (GapOk last x [32]) := .inr (.inl rfl)
                    rw [hw2] at HXi
                    clear hw1 hw2
                    go_wp2_with fail
                    refine HWi.out.mono ?_
                    rintro e w5 ⟨rfl, hw⟩; obtain rfl := hw.symm
                    go_wp2_with fail
                    refine HXi.out.mono ?_
                    rintro e w5 ⟨rfl, hw⟩; obtain rfl := hw.symm
                    go_wp2_with fail
                    go_meet
                    exact ⟨[32], by rw [← cat_mk], hideP2 (by decide), HGo, rfl⟩
              · go_wp2_with fail
                go_meet
                exact ⟨[32], by rw [← cat_mk], hideP2 (by decide), hideP2 (.inr (.inl rfl)), rfl⟩
              · go_wp2_with fail
                go_meet
                exact ⟨[10], by rw [← cat_mk], hideP2 (by decide), hideP2 (.inr (.inr (.inl rfl))), rfl⟩
              · go_wp2_with fail
                go_meet
                exact ⟨[32, 10, 32], by rw [← cat_mk], hideP2 (by decide), hideP2 (.inr (.inr (.inr rfl))), rfl⟩
            case rest =>
              obtain ⟨gp, rfl, Hgl, HGo, rfl⟩ := hcut
              have hgl := Hgl.out
              have HS2 : Hid (Str (W0 ++ ws.take (k + 1)) (s ++ (gp ++ x)) x (gs ++ [gp])) := by
                unfold Hid
                rw [HTk.out, ← List.append_assoc]
                exact HSt.out.snoc HGo.out hx
              clear HSt
              go_wp2_with fail
              go_round
              case rel => exact ⟨k + 1, s ++ (gp ++ x), x, gs ++ [gp], by omega, by rw [← List.append_assoc, ← cat_mk (s ++ gp) x, ← cat_mk s gp], rfl, by go_num, by go_num, HXn, HS2⟩
              case measure => simp [intOf]; omega
        · obtain rfl : ws.length = k := by omega
          have kk : ¬ (ws.length : Int) < (ws.length : Int) := by omega
          have HS2 : Hid (Str (L.take (i + 1)).flatten s last gs) := by
            have h1 := HSt.out
            rw [List.take_length] at h1
            unfold Hid; rw [HFs.out]; exact h1
          have HLe : Hid ((L.take (i + 1)).flatten.length = W0.length + ws.length) := by unfold Hid; rw [HFs.out, List.length_append]
          clear HSt
          go_wp2_with fail
          go_round
          case rel => exact ⟨i + 1, s, last, gs, by omega, rfl, rfl, by rw [HLe.out], by go_num, HLn, HS2⟩
          case measure => simp [intOf]; omega
    · have ii : ¬ (i : Int) < (L.length : Int) := by omega
      have HQ : Hid (Str L.flatten s last gs) := by
        have h1 := HSt.out
        rw [List.take_of_length_le (by omega)] at h1
        exact h1
      clear HSt
      go_wp2_with fail
      go_ret
      first | exact ⟨s, last, gs, rfl, HQ.out, rfl⟩ | exact ⟨s, rfl, last, gs, HQ.out, rfl⟩ | exact ⟨s, rfl, ⟨last, gs, HQ.out⟩, rfl⟩
end Go.Proofs.YtnbpdffdnphbeaaGreatDoor

/- The law Spaced answers true where Tidy and Check answer as they should of a frame's texts. -/
namespace Go.Proofs.YtnbpdffdnphbeaaGreatDoor
open Go.RowKit

/-- What Tidy and Check must give of a frame's texts. -/
structure SpOk (w : World) (s t : Bs) : Prop where
  tidy : Calls Tryz.prog 24 #[.string ⟨s.toArray⟩] w fun e w' => e = .returned (.tuple #[.string ⟨t.toArray⟩, .int .i64 0]) ∧ Below w.heap.size w w'
  chk : Calls Tryz.prog 25 #[.string ⟨s.toArray⟩] w fun e w' => e = .returned (.tuple #[.int .i64 0, .int .i64 0]) ∧ Below w.heap.size w w'

set_option maxRecDepth 100000 in
set_option maxHeartbeats 1000000 in
theorem Spaced_of (w : World) (la wa ra ga : Option Addr) (ln lc wn wk rn rc gn gc : Nat) (hd : Nat → Int) (hL : RawE w la ln) (hW : RawE w wa wn) (hR : RawR w ra rn hd) (hG : RawE w ga gn) (hT : TabK w)
    (hne : ∀ M, MadeOk M → ∀ l ∈ linesW M true, ∀ x ∈ l, x ≠ [])
    (hP : ∀ M, MadeOk M → ∀ s last gs, Str (linesW M true).flatten s last gs → ∀ w', Below w.heap.size w w' → SpOk w' s (wrB (linesW M false)))
    (hQ : ∀ M, MadeOk M → ∀ w', Below w.heap.size w w' → SpOk w' (wrB (linesW M false)) (wrB (linesW M false))) :
    Calls Tryz.prog 9 #[.agg #[.slice la ln lc, .slice wa wn wk, .slice ra rn rc], .slice ga gn gc] w fun e w' => e = .returned (.bool true) ∧ Below w.heap.size w w' := by
  have HBd := hideP2 (fun w' (hb : Below w.heap.size w w') => fBuild_s w' la wa ra ln lc wn wk rn rc hd (hL.below hb) (hW.below hb) (hR.below hb))
  have HTb := hideP2 (fun w' (hb : Below w.heap.size w w') => hT.below hb)
  have HGb := hideP2 (fun w' (hb : Below w.heap.size w w') => hG.below hb)
  have HNe := hideP2 hne
  have HP := hideP2 hP
  have HQ := hideP2 hQ
  clear hL hW hR hG hT hne hP hQ
  go_enter Tryz.func9, Tryz.ntmps9
  go_wp2_with fail
  have HB0 : Hid (Below w.heap.size w (w.alloc (.cells #[.slice la ln lc, .slice wa wn wk, .slice ra rn rc] 62))) := (Below.refl _ _).alloc (Nat.le_refl _) _
  generalize w.alloc (.cells #[.slice la ln lc, .slice wa wn wk, .slice ra rn rc] 62) = w0 at *
  refine (HBd.out w0 HB0.out).mono ?_
  rintro e w1 ⟨g, M, rfl, hO, hM, hb1⟩
  have HB1 : Hid (Below w.heap.size w w1) := HB0.out.trans (hb1.mono HB0.out.size)
  have HO := hideP2 hO
  have HM := hideP2 hM
  have HTx := hideP2 (fText_s w1 g M hM hO (HTb.out w1 HB1.out))
  have HP1 := hideP2 (HP.out M hO)
  have HQ1 := hideP2 (HQ.out M hO)
  have HLn := hideP2 (fun w' (hb : Below w1.heap.size w1 w') => fLines_s w' g M true (hM.below hb) hO (HTb.out w' (HB1.out.trans (hb.mono HB1.out.size))))
  have HSt := hideP2 (fun w' a c (h : OutV w' a (linesW M true)) (hb : Below w.heap.size w w') => fStrewn_s w' a ga c gn gc (linesW M true) h (lines_short hO true) (HNe.out M hO) (HGb.out w' hb))
  clear hO hM hb1
  generalize wrB (linesW M false) = td at *
  generalize linesW M true = LL at *
  have t1 : (td == td) = true := by simp
  have t2 : (td != td) = false := by simp
  go_wp2_with fail
  refine HTx.out.mono ?_
  rintro e w2 ⟨rfl, hb2⟩
  have HB2 : Hid (Below w.heap.size w w2) := HB1.out.trans (hb2.mono HB1.out.size)
  have HLw := hideP2 (HLn.out w2 hb2)
  clear hb2 HTx
  go_wp2_with fail
  refine HLw.out.mono ?_
  rintro e w3 ⟨v, vs, rfl, hS⟩
  obtain ⟨a, c, rfl, hc⟩ := own_celT hS.own
  have HB3 : Hid (Below w.heap.size w w3) := HB2.out.trans (hS.bel.mono HB2.out.size)
  have HSw := hideP2 (HSt.out w3 a c ⟨vs, hc, hS.ins⟩ HB3.out)
  clear hS hc HLw HSt
  go_wp2_with fail
  refine HSw.out.mono ?_
  rintro e w4 ⟨s, last, gs, rfl, hs, hw⟩; obtain rfl := hw.symm
  have HPs := hideP2 (fun w' hb => HP1.out s last gs hs w' hb)
  clear hs HSw HP1
  go_wp2_with fail
  refine (HPs.out _ HB3.out).tidy.mono ?_
  rintro e w5 ⟨rfl, hb5⟩
  have HB5 : Hid (Below w.heap.size w w5) := HB3.out.trans (hb5.mono HB3.out.size)
  clear hb5
  go_wp2_with fail
  refine (HQ1.out _ HB5.out).tidy.mono ?_
  rintro e w6 ⟨rfl, hb6⟩
  have HB6 : Hid (Below w.heap.size w w6) := HB5.out.trans (hb6.mono HB5.out.size)
  clear hb6
  go_wp2_with fail
  refine (HPs.out _ HB6.out).chk.mono ?_
  rintro e w7 ⟨rfl, hb7⟩
  have HB7 : Hid (Below w.heap.size w w7) := HB6.out.trans (hb7.mono HB6.out.size)
  clear hb7
  go_wp2_with fail
  refine (HQ1.out _ HB7.out).chk.mono ?_
  rintro e w8 ⟨rfl, hb8⟩
  have HB8 : Hid (Below w.heap.size w w8) := HB7.out.trans (hb8.mono HB7.out.size)
  clear hb8
  go_wp2_with fail
  go_ret
  exact ⟨rfl, HB8.out⟩
end Go.Proofs.YtnbpdffdnphbeaaGreatDoor
