/- Plain facts: which words the document's lists of words hold. -/
import Derived.Test.YtnbpdffdnphbeaaGreatDoorPtok
namespace Go.Proofs.YtnbpdffdnphbeaaGreatDoor

def wordsG (l : Bs) : Nat → Nat → Nat → List Bs
  | 0, _, _ => []
  | n + 1, a, i => if i = l.length ∨ l.getD i 0 = 32 then (l.drop a).take (i - a) :: wordsG l n (i + 1) (i + 1) else wordsG l n a (i + 1)

theorem amG_words (l s : Bs) (n : Nat) : ∀ a i, amG l s n a i = decide (s ∈ wordsG l n a i) := by
  induction n with
  | zero => intro a i; simp [amG, wordsG]
  | succ n ih =>
    intro a i
    rw [amG, wordsG]
    split
    · rw [ih]
      split
      · rename_i h; simp [h]
      · rename_i h
        have h2 : ¬ s = (l.drop a).take (i - a) := fun e => h e.symm
        simp [h2]
    · exact ih _ _

theorem among_iff (l s : Bs) : amongB l s = decide (s ∈ wordsG l (l.length + 1) 0 0) := amG_words l s _ 0 0

theorem words_two : wordsG twoMarks (twoMarks.length + 1) 0 0 = [[46, 46], [60, 61], [33, 61], [62, 61]] := by decide
theorem words_kept : wordsG keptWords (keptWords.length + 1) 0 0 = keptL := by decide
theorem words_marks : wordsG allMarks (allMarks.length + 1) 0 0 = markL := by decide

theorem among_kept (s : Bs) : amongB keptWords s = isKeptB s := by
  rw [among_iff, words_kept, isKeptB, ← List.elem_eq_contains, List.elem_eq_mem]
theorem among_marks (s : Bs) : amongB allMarks s = isMarkB s := by
  rw [among_iff, words_marks, isMarkB, ← List.elem_eq_contains, List.elem_eq_mem]
theorem among_two (s : Bs) (h : s.length = 2) : amongB twoMarks s = isMarkB s := by
  rw [among_iff, words_two, isMarkB, ← List.elem_eq_contains, List.elem_eq_mem]
  congr 1
  simp only [markL, List.mem_cons, List.not_mem_nil, or_false, eq_iff_iff]
  constructor
  · rintro (rfl | rfl | rfl | rfl) <;> decide
  · rintro (rfl | rfl | rfl | rfl | rfl | rfl | rfl | rfl | rfl | rfl | rfl | rfl | rfl | rfl) <;> first | (exfalso; revert h; decide) | decide

end Go.Proofs.YtnbpdffdnphbeaaGreatDoor

/- What mark, tokenAt and Read of the program give: the tokens of a text, and one behind them. -/
namespace Go.Proofs.YtnbpdffdnphbeaaGreatDoor
open Go.RowKit

set_option maxHeartbeats 1000000 in
theorem mark_any (l : Bs) (p : Nat) (w : World) (hl : l.length ≤ 4000) (hp : p < l.length) (hk : so (l.getD p 0) = 0) :
    Calls Tryz.prog 210 #[.string ⟨l.toArray⟩, .int .i64 p] w fun e w' => e = .returned (tokV (pkind ((l.drop p).take (lenB (l.drop p)))) ((l.drop p).take (lenB (l.drop p))) (pval ((l.drop p).take (lenB (l.drop p)))) p) ∧ Below w.heap.size w w' := by
  have hh : ∀ n, 1 ≤ n → so (((l.drop p).take n).getD 0 0) = 0 := by
    intro n hn1; simp only [List.getD, List.getElem?_take, List.getElem?_drop, Nat.add_zero]; rw [if_pos (by omega)]; exact hk
  have hpk : ∀ n, 1 ≤ n → pkind ((l.drop p).take n) = if isMarkB ((l.drop p).take n) = true then 4 else 1 := by
    intro n hn; unfold pkind; rw [if_neg (by rw [hh n hn]; decide), if_neg (by rw [hh n hn]; decide)]
  have hpv : ∀ n, 1 ≤ n → pval ((l.drop p).take n) = 0 := by
    intro n hn; unfold pval; rw [if_neg]; rw [hpk n hn]; split <;> decide
  have hlen : lenB (l.drop p) = if twoB (l.drop p) = true then 2 else 1 := by unfold lenB; rw [getD_drop, Nat.add_zero, if_pos hk]
  have htwo : twoB (l.drop p) = (decide (p + 2 ≤ l.length) && isMarkB ((l.drop p).take 2)) := by
    unfold twoB
    by_cases h2 : p + 2 ≤ l.length
    · rw [among_two _ (by rw [List.length_take, List.length_drop]; omega)]; congr 1; simp; omega
    · have : ¬ 1 < (l.drop p).length := by rw [List.length_drop]; omega
      simp [h2]; intro; omega
  obtain ⟨t2, ht2⟩ : ∃ t, (l.drop p).take 2 = t := ⟨_, rfl⟩
  obtain ⟨t1, ht1⟩ : ∃ t, (l.drop p).take 1 = t := ⟨_, rfl⟩
  have hx2 : (ByteArray.mk l.toArray).extract p (p + 2) = ⟨t2.toArray⟩ := by rw [ByteArray.extract_mk, ← ht2, show p + 2 - p = 2 by omega]
  have hx1 : (ByteArray.mk l.toArray).extract p (p + 1) = ⟨t1.toArray⟩ := by rw [ByteArray.extract_mk, ← ht1, show p + 1 - p = 1 by omega]
  have one : isMarkB t1 = true ∨ isMarkB t1 = false := by cases isMarkB t1 <;> simp
  by_cases h2 : p + 2 ≤ l.length
  · cases hm2 : isMarkB t2
    · have hl1 : lenB (l.drop p) = 1 := by rw [hlen, htwo, ht2, hm2]; simp
      rw [hl1, hpv 1 (by omega), hpk 1 (by omega), ht1]
      have HM2 := hideP2 hm2
      clear hh hpk hpv hlen htwo ht2 ht1 hl1 hm2 hk
      rcases one with hm1 | hm1
      · rw [hm1]; have HM1 := hideP2 hm1; clear hm1
        go_enter Tryz.func210, Tryz.ntmps210
        go_wp2_with fail
        refine (isMark_is t2 false HM2.out _).mono ?_; rintro e w' ⟨rfl, hw⟩; obtain rfl := hw.symm
        go_wp2_with fail
        refine (isMark_is t1 true HM1.out _).mono ?_; rintro e w' ⟨rfl, hw⟩; obtain rfl := hw.symm
        go_wp2_with fail
        refine bodyPost_ret (v := tokV 4 t1 0 p) (by simp [results, Tryz.results210, go_sem, tokV]) rfl ⟨rfl, ?_⟩
        exact (Below.refl _ _).alloc (Nat.le_refl _) _
      · rw [hm1]; have HM1 := hideP2 hm1; clear hm1
        go_enter Tryz.func210, Tryz.ntmps210
        go_wp2_with fail
        refine (isMark_is t2 false HM2.out _).mono ?_; rintro e w' ⟨rfl, hw⟩; obtain rfl := hw.symm
        go_wp2_with fail
        refine (isMark_is t1 false HM1.out _).mono ?_; rintro e w' ⟨rfl, hw⟩; obtain rfl := hw.symm
        go_wp2_with fail
        refine bodyPost_ret (v := tokV 1 t1 0 p) (by simp [results, Tryz.results210, go_sem, tokV]) rfl ⟨rfl, ?_⟩
        exact (Below.refl _ _).alloc (Nat.le_refl _) _
    · have hl1 : lenB (l.drop p) = 2 := by rw [hlen, htwo, ht2, hm2]; simp [h2]
      rw [hl1, hpv 2 (by omega), hpk 2 (by omega), ht2, hm2]
      have HM2 := hideP2 hm2
      clear hh hpk hpv hlen htwo ht2 ht1 hl1 hm2 hk one
      go_enter Tryz.func210, Tryz.ntmps210
      go_wp2_with fail
      refine (isMark_is t2 true HM2.out _).mono ?_; rintro e w' ⟨rfl, hw⟩; obtain rfl := hw.symm
      go_wp2_with fail
      refine bodyPost_ret (v := tokV 4 t2 0 p) (by simp [results, Tryz.results210, go_sem, tokV]) rfl ⟨rfl, ?_⟩
      exact (Below.refl _ _).alloc (Nat.le_refl _) _
  · have hl1 : lenB (l.drop p) = 1 := by rw [hlen, htwo]; simp [h2]
    rw [hl1, hpv 1 (by omega), hpk 1 (by omega), ht1]
    clear hh hpk hpv hlen htwo ht2 ht1 hl1 hk hx2
    rcases one with hm1 | hm1
    · rw [hm1]; have HM1 := hideP2 hm1; clear hm1
      go_enter Tryz.func210, Tryz.ntmps210
      go_wp2_with fail
      refine (isMark_is t1 true HM1.out _).mono ?_; rintro e w' ⟨rfl, hw⟩; obtain rfl := hw.symm
      go_wp2_with fail
      refine bodyPost_ret (v := tokV 4 t1 0 p) (by simp [results, Tryz.results210, go_sem, tokV]) rfl ⟨rfl, ?_⟩
      exact (Below.refl _ _).alloc (Nat.le_refl _) _
    · rw [hm1]; have HM1 := hideP2 hm1; clear hm1
      go_enter Tryz.func210, Tryz.ntmps210
      go_wp2_with fail
      refine (isMark_is t1 false HM1.out _).mono ?_; rintro e w' ⟨rfl, hw⟩; obtain rfl := hw.symm
      go_wp2_with fail
      refine bodyPost_ret (v := tokV 1 t1 0 p) (by simp [results, Tryz.results210, go_sem, tokV]) rfl ⟨rfl, ?_⟩
      exact (Below.refl _ _).alloc (Nat.le_refl _) _

theorem bcell {W w1 : World} (hb : Below W.heap.size W w1) : (∀ b o, b < W.heap.size → w1.cell? ⟨b, o, none⟩ = W.cell? ⟨b, o, none⟩) ∧ (∀ b o, b < W.heap.size → w1.frozen? ⟨b, o, none⟩ = W.frozen? ⟨b, o, none⟩) :=
  ⟨fun b o h => hb.cell (p := ⟨b, o, none⟩) h, fun b o h => hb.frozen (p := ⟨b, o, none⟩) h⟩

theorem so_cases (c : UInt8) : so c = 0 ∨ so c = 1 ∨ so c = 2 ∨ so c = 3 := by
  unfold so sortI; split <;> (try split) <;> (try split) <;> simp

set_option maxHeartbeats 1000000 in
theorem tokenAt_any (l : Bs) (p : Nat) (w : World) (hl : l.length ≤ 4000) (hp : p < l.length) (hk : ¬ so (l.getD p 0) = 3) :
    Calls Tryz.prog 147 #[.string ⟨l.toArray⟩, .int .i64 p] w fun e w' => e = .returned (tokV (pkind ((l.drop p).take (lenB (l.drop p)))) ((l.drop p).take (lenB (l.drop p))) (pval ((l.drop p).take (lenB (l.drop p)))) p) ∧ Below w.heap.size w w' := by
  have hw := fun w h => word_any l p w hl hp h
  have hnu := fun w h => number_any l p w hl hp h
  have hm := fun w h => mark_any l p w hl hp h
  generalize (l.drop p).take (lenB (l.drop p)) = t at *
  generalize pkind t = k at *
  generalize pval t = v at *
  have HL := hideP2 (fun b => at_letter (l := l) (b := b) (i := p))
  have HD := hideP2 (fun b => at_digit (l := l) (b := b) (i := p))
  rcases so_cases (l.getD p 0) with h | h | h | h
  · have HM := hideP2 (fun w => hm w h)
    have h1 := HL.out false (by rw [h]; rfl)
    have h2 := HD.out false (by rw [h]; rfl)
    have H1 := hideP2 h1
    have H2 := hideP2 h2
    clear hw hnu hm HL HD h hk h1 h2
    go_enter Tryz.func147, Tryz.ntmps147
    go_wp2_with fail
    refine (isLetter_is _ false (H1.out _) _).mono ?_; rintro e w' ⟨rfl, hw⟩; obtain rfl := hw.symm
    go_wp2_with fail
    refine (isDigit_is _ false (H2.out _) _).mono ?_; rintro e w' ⟨rfl, hw⟩; obtain rfl := hw.symm
    go_wp2_with fail
    refine (HM.out _).mono ?_; rintro e w2 ⟨rfl, hb⟩
    obtain ⟨hc, hf⟩ := bcell hb
    have HB := hideP2 hb
    clear hb
    unfold tokV
    go_wp2_with fail
    refine bodyPost_ret (v := tokV k t v p) (by simp [results, Tryz.results147, go_sem, tokV, hc]) rfl ⟨rfl, ?_⟩
    exact (((((((Below.refl _ _).alloc (Nat.le_refl _) _).trans (HB.out.mono (by simp))).setCell (Nat.le_refl _) _).setCell (Nat.le_refl _) _).setCell (Nat.le_refl _) _).setCell (Nat.le_refl _) _)
  · have HM := hideP2 (fun w => hw w h)
    have h1 := HL.out true (by rw [h]; rfl)
    have h2 := HD.out false (by rw [h]; rfl)
    have H1 := hideP2 h1
    clear hw hnu hm HL HD h hk h1 h2
    go_enter Tryz.func147, Tryz.ntmps147
    go_wp2_with fail
    refine (isLetter_is _ true (H1.out _) _).mono ?_; rintro e w' ⟨rfl, hw⟩; obtain rfl := hw.symm
    go_wp2_with fail
    refine (HM.out _).mono ?_; rintro e w2 ⟨rfl, hb⟩
    obtain ⟨hc, hf⟩ := bcell hb
    have HB := hideP2 hb
    clear hb
    unfold tokV
    go_wp2_with fail
    refine bodyPost_ret (v := tokV k t v p) (by simp [results, Tryz.results147, go_sem, tokV, hc]) rfl ⟨rfl, ?_⟩
    exact (((((((Below.refl _ _).alloc (Nat.le_refl _) _).trans (HB.out.mono (by simp))).setCell (Nat.le_refl _) _).setCell (Nat.le_refl _) _).setCell (Nat.le_refl _) _).setCell (Nat.le_refl _) _)
  · have HM := hideP2 (fun w => hnu w h)
    have h1 := HL.out false (by rw [h]; rfl)
    have h2 := HD.out true (by rw [h]; rfl)
    have H1 := hideP2 h1
    have H2 := hideP2 h2
    clear hw hnu hm HL HD h hk h1 h2
    go_enter Tryz.func147, Tryz.ntmps147
    go_wp2_with fail
    refine (isLetter_is _ false (H1.out _) _).mono ?_; rintro e w' ⟨rfl, hw⟩; obtain rfl := hw.symm
    go_wp2_with fail
    refine (isDigit_is _ true (H2.out _) _).mono ?_; rintro e w' ⟨rfl, hw⟩; obtain rfl := hw.symm
    go_wp2_with fail
    refine (HM.out _).mono ?_; rintro e w2 ⟨rfl, hb⟩
    obtain ⟨hc, hf⟩ := bcell hb
    have HB := hideP2 hb
    clear hb
    unfold tokV
    go_wp2_with fail
    refine bodyPost_ret (v := tokV k t v p) (by simp [results, Tryz.results147, go_sem, tokV, hc]) rfl ⟨rfl, ?_⟩
    exact (((((((Below.refl _ _).alloc (Nat.le_refl _) _).trans (HB.out.mono (by simp))).setCell (Nat.le_refl _) _).setCell (Nat.le_refl _) _).setCell (Nat.le_refl _) _).setCell (Nat.le_refl _) _)
  · exact absurd h hk

theorem isBlank_is (c : Int) (b : Bool) (h : blankI c = b) (w : World) :
    Calls Tryz.prog 146 #[.int .u8 c] w fun e w' => e = .returned (.bool b) ∧ w' = w := by subst h; exact isBlank_any c w
theorem blank_so (c : UInt8) : blankI (c.toNat : Int) = decide (so c = 3) := by
  unfold blankI so sortI
  by_cases h : (c.toNat : Int) = 32 ∨ (c.toNat : Int) = 10
  · rw [if_neg (by omega), if_neg (by omega), if_pos h]; simpa using h
  · rw [if_neg h]
    have : ¬ (if (97 : Int) ≤ c.toNat ∧ (c.toNat : Int) ≤ 122 then (1 : Int) else if (48 : Int) ≤ c.toNat ∧ (c.toNat : Int) ≤ 57 then 2 else 0) = 3 := by split <;> (try split) <;> decide
    simp only [this, decide_false, Bool.or_eq_false_iff, beq_eq_false_iff_ne]; omega
theorem at_blank {l : Bs} {b : Bool} {i : Nat} (h : decide (so (l.getD i 0) = 3) = b) : ∀ h : i < (ByteArray.mk l.toArray).size, blankI (((ByteArray.mk l.toArray)[i]'h).toNat : Int) = b := by
  intro h0; rw [idx_mk, blank_so, h]

theorem owns_below {w w' : World} {B : Nat} {e : TypeId} {size : Nat} {v : Value} {n : Nat} {xs : List Value} (h : w.ownsRow B e size v n xs) (hb : Below w.heap.size w w') : w'.ownsRow B e size v n xs := by
  refine ⟨h.1, ?_⟩
  rcases h.2 with h1 | ⟨g, cap, cur, h1, h2, h3, r⟩
  · exact .inl h1
  · refine .inr ⟨g, cap, cur, h1, h2, ?_, r⟩
    have hg : g < w.heap.size := by
      rcases Nat.lt_or_ge g w.heap.size with h | h
      · exact h
      · rw [Array.getElem?_eq_none h] at h3; cases h3
    rw [hb.block g hg]; exact h3

theorem infoPtok : (Tryz.prog.info? 237).map (fun i => (i.zero, i.size, i.bytes)) = some (some (.agg #[.int .i64 0, .string ⟨#[]⟩, .int .i64 0, .int .i64 0]), 4, 40) := by kernel_rfl

theorem own_block_lt {w : World} {B : Nat} {e : TypeId} {size : Nat} {v : Value} {n : Nat} {xs : List Value} (hown : w.ownsRow B e size v n xs) : ∀ k, v.ownBlock = some k → B ≤ k ∧ k < w.heap.size := by
  intro k hk
  rcases hown.2 with ⟨h1, _⟩ | ⟨g, cap, cur, h1, h2, h3, _⟩
  · rw [h1] at hk; simp [Value.ownBlock] at hk
  · rw [h1] at hk; simp [Value.ownBlock] at hk
    subst hk
    refine ⟨h2, ?_⟩
    rcases Nat.lt_or_ge g w.heap.size with h | h
    · exact h
    · rw [Array.getElem?_eq_none h] at h3; cases h3

end Go.Proofs.YtnbpdffdnphbeaaGreatDoor

/- What Read of the program gives: the tokens of a text in a row of its own, and one behind them. -/
namespace Go.Proofs.YtnbpdffdnphbeaaGreatDoor
open Go.RowKit

theorem news_cellsH (w : World) (cs : Array Value) (T : TypeId) (l : List Value) (h : cs.toList = l) {H : Nat} (hH : w.heap.size = H) :
    ∀ j u, l[j]? = some u → (w.alloc (.cells cs T)).cell? ((⟨H, 0, none⟩ : Addr).add j) = some u := by
  subst hH; exact news_cells w cs T l h

theorem own_block_le2 {w : World} {B : Nat} {e : TypeId} {size : Nat} {v : Value} {n : Nat} {xs : List Value} (hown : w.ownsRow B e size v n xs) : ∀ k, v.ownBlock = some k → B ≤ k :=
  fun k hk => (own_block_lt hown k hk).1

set_option maxHeartbeats 1000000 in
theorem Read_any (l : Bs) (w : World) (hl : l.length ≤ 4000) :
    Calls Tryz.prog 100 #[.string ⟨l.toArray⟩] w fun e w' => ∃ v, e = .returned v ∧ w'.ownsRow w.heap.size 237 4 v ((toksAt l 0).length + 1) (flatP (toksAt l 0) ++ endTok l.length) ∧ Below w.heap.size w w' := by
  obtain ⟨i0, hi0, hz0, hz1, hz2⟩ := info_parts infoPtok
  obtain ⟨B, hB⟩ : ∃ B, B = w.heap.size := ⟨_, rfl⟩
  have HB : Hid (B = w.heap.size) := hB
  rw [← hB]
  clear hB
  go_enter Tryz.func100, Tryz.ntmps100
  go_wp2_with fail
  have h0 : (w.alloc (.cells #[] 237)).ownsRow B 237 4 (.slice (some ⟨w.heap.size, 0, none⟩) 0 0) 0 (flatP []) :=
    ⟨rfl, .inr ⟨w.heap.size, 0, #[], rfl, by rw [HB.out]; exact Nat.le_refl _, heap_alloc_new w _, Nat.le_refl _, by simp [maxLen], rfl, rfl⟩⟩
  have hb0 : Below B w (w.alloc (.cells #[] 237)) := (Below.refl _ _).alloc (by rw [HB.out]; exact Nat.le_refl _) _
  have H0 := hideP2 h0
  have HB0 := hideP2 hb0
  clear h0 hb0
  go_loopw [3, 4] (fun lv av wr => ∃ (p : Nat) (ts : Toks), p ≤ l.length ∧ av = .int .i64 p ∧ wr.ownsRow B 237 4 lv ts.length (flatP ts) ∧ Below B w wr ∧ Hid (ts ++ toksAt l p = toksAt l 0)) (fun _ av _ => l.length - (intOf av).toNat)
  case atStart => exact ⟨0, [], Nat.zero_le _, rfl, H0.out, HB0.out, rfl⟩
  case round =>
    obtain ⟨p, ts, hp, rfl, hown, hbel, hH⟩ := hrel
    clear H0 HB0
    have hBw : B ≤ wr.heap.size := by have h5 := hbel.size; have h6 := HB.out; omega
    have hts0 : ts.length ≤ 4000 := by
      have h1 := congrArg List.length hH.out; have h2 := toksAt_len l 0; simp only [List.length_append] at h1; omega
    by_cases hlt : p < l.length
    · by_cases hk : so (l.getD p 0) = 3
      · have HF : Hid (ts ++ toksAt l (p + 1) = toksAt l 0) := by have := hH.out; rw [toksAt_blank hlt hk] at this; exact this
        have HQ := hideP2 (at_blank (b := true) (by rw [hk]; rfl) : ∀ h : p < (ByteArray.mk l.toArray).size, blankI (((ByteArray.mk l.toArray)[p]'h).toNat : Int) = true)
        clear hk hH
        go_wp2_with (go_at_call 146; refine (isBlank_is _ true (HQ.out _) _).mono ?_; rintro e w' ⟨rfl, hw⟩; obtain rfl := hw.symm)
        go_roundw
        case rel => exact ⟨p + 1, ts, by omega, by go_num, hown, hbel, HF.out⟩
        case measure => simp [intOf]; omega
      · have HQ := hideP2 (at_blank (b := false) (by simp only [hk, decide_false]) : ∀ h : p < (ByteArray.mk l.toArray).size, blankI (((ByteArray.mk l.toArray)[p]'h).toNat : Int) = false)
        have HTk := hideP2 (fun w => tokenAt_any l p w hl hlt hk)
        have hF := hH.out
        rw [toksAt_tok hlt hk] at hF
        have hn1 := lenB_pos (l.drop p)
        have hn2 := lenB_le (l := l.drop p) (by rw [List.length_drop]; omega)
        rw [List.length_drop] at hn2
        have htl : ((l.drop p).take (lenB (l.drop p))).length = lenB (l.drop p) := by rw [List.length_take, List.length_drop]; omega
        generalize (l.drop p).take (lenB (l.drop p)) = t at *
        generalize lenB (l.drop p) = n at *
        have HF : Hid ((ts ++ [(p, t)]) ++ toksAt l (p + n) = toksAt l 0) := by rw [Hid, List.append_assoc]; exact hF
        have hpt : ptok (p, t) = [.int .i64 (pkind t), .string ⟨t.toArray⟩, .int .i64 (pval t), .int .i64 p] := rfl
        generalize hkk : pkind t = k at *
        generalize hvv : pval t = v at *
        have HPT := hideP2 hpt
        clear hk hH hF hkk hvv hpt
        subst htl
        go_wp2_with fail
        refine (isBlank_is _ false (HQ.out _) _).mono ?_; rintro e w' ⟨rfl, hw⟩; obtain rfl := hw.symm
        go_wp2_with fail
        refine (HTk.out _).mono ?_; rintro e w2 ⟨rfl, hb2⟩
        have hown2 := owns_below hown hb2
        have hbel2 := hbel.trans (hb2.mono hBw)
        have HG := hideP2 (own_block_lt hown)
        have hsz2 := hb2.size
        clear hown hbel hb2 HQ HTk
        unfold tokV
        go_wp2_with (at_builtin; refine wpList_append_own _ rfl _ _ 225 rfl B 237 i0 _ 4 40 Tryz.underlying225 hi0 hz0 hz1 hz2 rfl (by decide) _ _ _ rfl ((hown2.alloc _).alloc _) ⟨w2.heap.size + 1, 0, none⟩ 1 1 (ptok (p, t)) rfl rfl ?c1 ?c2 ?c3 ?c4 ?c5 ?_)
        case c1 => rw [HPT.out]; exact news_cellsH _ _ _ _ rfl (by simp)
        case c2 => rw [HPT.out]; intro u hu; simp at hu; rcases hu with rfl | rfl | rfl | rfl <;> rfl
        case c3 => unfold maxLen; omega
        case c4 => omega
        case c5 => simp; omega
        intro v' w3 hown3 hgrow _
        have hcell : w3.cell? ⟨w2.heap.size, 1, none⟩ = some (.string ⟨t.toArray⟩) := by
          rw [hgrow.cell_far ⟨w2.heap.size, 1, none⟩ (by simp; omega) (by
            intro h
            have h2 := (HG.out w2.heap.size h.symm).2
            omega)]
          simp [World.cell?_alloc_past]
        have hbel3 : Below B w w3 := ((hbel2.alloc (by omega) _).alloc (by simp; omega) _).grown hgrow (by simp; omega) (fun k hk => (HG.out k hk).1)
        clear hown2 hbel2 hgrow HG
        go_wp2
        go_roundw
        case rel => exact ⟨p + t.length, ts ++ [(p, t)], by omega, by go_num, by rw [flatP_snoc]; simpa using hown3, hbel3, HF.out⟩
        case measure => simp [intOf]; omega
    · have HF : Hid (ts = toksAt l 0) := by have := hH.out; rw [toksAt_end hlt, List.append_nil] at this; exact this
      clear hH
      go_wp2_with (at_builtin; refine wpList_append_own _ rfl _ _ 225 rfl B 237 i0 _ 4 40 Tryz.underlying225 hi0 hz0 hz1 hz2 rfl (by decide) _ _ _ rfl (hown.alloc _) ⟨wr.heap.size, 0, none⟩ 1 1 (endTok l.length) rfl rfl ?c1 ?c2 ?c3 ?c4 ?c5 ?_)
      case c1 => exact news_cells _ _ _ _ rfl
      case c2 => intro u hu; simp [endTok] at hu; rcases hu with rfl | rfl | rfl | rfl <;> rfl
      case c3 => unfold maxLen; omega
      case c4 => omega
      case c5 => simp; omega
      intro v' w3 hown3 hgrow _
      have hbel3 : Below B w w3 := (hbel.alloc hBw _).grown hgrow (by simp; omega) (own_block_le2 hown)
      clear hown hbel hgrow
      go_wp2
      go_ret
      exact ⟨_, rfl, by rw [← HF.out]; exact hown3, hbel3⟩
end Go.Proofs.YtnbpdffdnphbeaaGreatDoor
