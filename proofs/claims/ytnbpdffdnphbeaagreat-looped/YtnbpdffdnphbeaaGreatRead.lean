/- What mark, tokenAt and Read of the program give: the tokens of a text, and one behind them. -/
import Derived.Test.YtnbpdffdnphbeaaGreatTok
namespace Go.Proofs.YtnbpdffdnphbeaaGreat
open Go.RowKit

set_option maxHeartbeats 1000000 in
theorem mark_any (l : Bs) (p : Nat) (w : World) (hl : l.length ≤ 4000) (hp : p < l.length) (hk : so (l.getD p 0) = 0) :
    Calls Tryz.prog 74 #[.string ⟨l.toArray⟩, .int .i64 p] w fun e w' => e = .returned (tokV (pkind ((l.drop p).take (lenB (l.drop p)))) ((l.drop p).take (lenB (l.drop p))) (pval ((l.drop p).take (lenB (l.drop p)))) p) ∧ Below w.heap.size w w' := by
  have hh : ∀ n, 1 ≤ n → so (((l.drop p).take n).getD 0 0) = 0 := by
    intro n hn1; simp only [List.getD, List.getElem?_take, List.getElem?_drop, Nat.add_zero]; rw [if_pos (by omega)]; exact hk
  have hpk : ∀ n, 1 ≤ n → pkind ((l.drop p).take n) = if isMarkB ((l.drop p).take n) = true then 4 else 1 := by
    intro n hn; unfold pkind; rw [if_neg (by rw [hh n hn]; decide), if_neg (by rw [hh n hn]; decide)]
  have hpv : ∀ n, 1 ≤ n → pval ((l.drop p).take n) = 0 := by
    intro n hn; unfold pval; rw [if_neg]; rw [hpk n hn]; split <;> decide
  have hlen : lenB (l.drop p) = if twoB (l.drop p) = true then 2 else 1 := by unfold lenB; rw [getD_drop, Nat.add_zero, if_pos hk]
  have htwo : twoB (l.drop p) = (decide (p + 2 ≤ l.length) && isMarkB ((l.drop p).take 2)) := by
    unfold twoB
    by_cases h2 : p + 2 ≤ l.length
    · rw [among_two _ (by rw [List.length_take, List.length_drop]; omega)]; congr 1; simp; omega
    · have : ¬ 1 < (l.drop p).length := by rw [List.length_drop]; omega
      simp [h2]; intro; omega
  obtain ⟨t2, ht2⟩ : ∃ t, (l.drop p).take 2 = t := ⟨_, rfl⟩
  obtain ⟨t1, ht1⟩ : ∃ t, (l.drop p).take 1 = t := ⟨_, rfl⟩
  have hx2 : (ByteArray.mk l.toArray).extract p (p + 2) = ⟨t2.toArray⟩ := by rw [ByteArray.extract_mk, ← ht2, show p + 2 - p = 2 by omega]
  have hx1 : (ByteArray.mk l.toArray).extract p (p + 1) = ⟨t1.toArray⟩ := by rw [ByteArray.extract_mk, ← ht1, show p + 1 - p = 1 by omega]
  have one : isMarkB t1 = true ∨ isMarkB t1 = false := by cases isMarkB t1 <;> simp
  by_cases h2 : p + 2 ≤ l.length
  · cases hm2 : isMarkB t2
    · have hl1 : lenB (l.drop p) = 1 := by rw [hlen, htwo, ht2, hm2]; simp
      rw [hl1, hpv 1 (by omega), hpk 1 (by omega), ht1]
      have HM2 := hideP2 hm2
      clear hh hpk hpv hlen htwo ht2 ht1 hl1 hm2 hk
      rcases one with hm1 | hm1
      · rw [hm1]; have HM1 := hideP2 hm1; clear hm1
        go_enter Tryz.func74, Tryz.ntmps74
        go_wp2_with fail
        refine (isMark_is t2 false HM2.out _).mono ?_; rintro e w' ⟨rfl, hw⟩; obtain rfl := hw.symm
        go_wp2_with fail
        refine (isMark_is t1 true HM1.out _).mono ?_; rintro e w' ⟨rfl, hw⟩; obtain rfl := hw.symm
        go_wp2_with fail
        refine bodyPost_ret (v := tokV 4 t1 0 p) (by simp [results, Tryz.results74, go_sem, tokV]) rfl ⟨rfl, ?_⟩
        exact (Below.refl _ _).alloc (Nat.le_refl _) _
      · rw [hm1]; have HM1 := hideP2 hm1; clear hm1
        go_enter Tryz.func74, Tryz.ntmps74
        go_wp2_with fail
        refine (isMark_is t2 false HM2.out _).mono ?_; rintro e w' ⟨rfl, hw⟩; obtain rfl := hw.symm
        go_wp2_with fail
        refine (isMark_is t1 false HM1.out _).mono ?_; rintro e w' ⟨rfl, hw⟩; obtain rfl := hw.symm
        go_wp2_with fail
        refine bodyPost_ret (v := tokV 1 t1 0 p) (by simp [results, Tryz.results74, go_sem, tokV]) rfl ⟨rfl, ?_⟩
        exact (Below.refl _ _).alloc (Nat.le_refl _) _
    · have hl1 : lenB (l.drop p) = 2 := by rw [hlen, htwo, ht2, hm2]; simp [h2]
      rw [hl1, hpv 2 (by omega), hpk 2 (by omega), ht2, hm2]
      have HM2 := hideP2 hm2
      clear hh hpk hpv hlen htwo ht2 ht1 hl1 hm2 hk one
      go_enter Tryz.func74, Tryz.ntmps74
      go_wp2_with fail
      refine (isMark_is t2 true HM2.out _).mono ?_; rintro e w' ⟨rfl, hw⟩; obtain rfl := hw.symm
      go_wp2_with fail
      refine bodyPost_ret (v := tokV 4 t2 0 p) (by simp [results, Tryz.results74, go_sem, tokV]) rfl ⟨rfl, ?_⟩
      exact (Below.refl _ _).alloc (Nat.le_refl _) _
  · have hl1 : lenB (l.drop p) = 1 := by rw [hlen, htwo]; simp [h2]
    rw [hl1, hpv 1 (by omega), hpk 1 (by omega), ht1]
    clear hh hpk hpv hlen htwo ht2 ht1 hl1 hk hx2
    rcases one with hm1 | hm1
    · rw [hm1]; have HM1 := hideP2 hm1; clear hm1
      go_enter Tryz.func74, Tryz.ntmps74
      go_wp2_with fail
      refine (isMark_is t1 true HM1.out _).mono ?_; rintro e w' ⟨rfl, hw⟩; obtain rfl := hw.symm
      go_wp2_with fail
      refine bodyPost_ret (v := tokV 4 t1 0 p) (by simp [results, Tryz.results74, go_sem, tokV]) rfl ⟨rfl, ?_⟩
      exact (Below.refl _ _).alloc (Nat.le_refl _) _
    · rw [hm1]; have HM1 := hideP2 hm1; clear hm1
      go_enter Tryz.func74, Tryz.ntmps74
      go_wp2_with fail
      refine (isMark_is t1 false HM1.out _).mono ?_; rintro e w' ⟨rfl, hw⟩; obtain rfl := hw.symm
      go_wp2_with fail
      refine bodyPost_ret (v := tokV 1 t1 0 p) (by simp [results, Tryz.results74, go_sem, tokV]) rfl ⟨rfl, ?_⟩
      exact (Below.refl _ _).alloc (Nat.le_refl _) _

theorem bcell {W w1 : World} (hb : Below W.heap.size W w1) : (∀ b o, b < W.heap.size → w1.cell? ⟨b, o, none⟩ = W.cell? ⟨b, o, none⟩) ∧ (∀ b o, b < W.heap.size → w1.frozen? ⟨b, o, none⟩ = W.frozen? ⟨b, o, none⟩) :=
  ⟨fun b o h => hb.cell (p := ⟨b, o, none⟩) h, fun b o h => hb.frozen (p := ⟨b, o, none⟩) h⟩

theorem so_cases (c : UInt8) : so c = 0 ∨ so c = 1 ∨ so c = 2 ∨ so c = 3 := by
  unfold so sortI; split <;> (try split) <;> (try split) <;> simp

set_option maxHeartbeats 1000000 in
theorem tokenAt_any (l : Bs) (p : Nat) (w : World) (hl : l.length ≤ 4000) (hp : p < l.length) (hk : ¬ so (l.getD p 0) = 3) :
    Calls Tryz.prog 40 #[.string ⟨l.toArray⟩, .int .i64 p] w fun e w' => e = .returned (tokV (pkind ((l.drop p).take (lenB (l.drop p)))) ((l.drop p).take (lenB (l.drop p))) (pval ((l.drop p).take (lenB (l.drop p)))) p) ∧ Below w.heap.size w w' := by
  have hw := fun w h => word_any l p w hl hp h
  have hnu := fun w h => number_any l p w hl hp h
  have hm := fun w h => mark_any l p w hl hp h
  generalize (l.drop p).take (lenB (l.drop p)) = t at *
  generalize pkind t = k at *
  generalize pval t = v at *
  have HL := hideP2 (fun b => at_letter (l := l) (b := b) (i := p))
  have HD := hideP2 (fun b => at_digit (l := l) (b := b) (i := p))
  rcases so_cases (l.getD p 0) with h | h | h | h
  · have HM := hideP2 (fun w => hm w h)
    have h1 := HL.out false (by rw [h]; rfl)
    have h2 := HD.out false (by rw [h]; rfl)
    have H1 := hideP2 h1
    have H2 := hideP2 h2
    clear hw hnu hm HL HD h hk h1 h2
    go_enter Tryz.func40, Tryz.ntmps40
    go_wp2_with fail
    refine (isLetter_is _ false (H1.out _) _).mono ?_; rintro e w' ⟨rfl, hw⟩; obtain rfl := hw.symm
    go_wp2_with fail
    refine (isDigit_is _ false (H2.out _) _).mono ?_; rintro e w' ⟨rfl, hw⟩; obtain rfl := hw.symm
    go_wp2_with fail
    refine (HM.out _).mono ?_; rintro e w2 ⟨rfl, hb⟩
    obtain ⟨hc, hf⟩ := bcell hb
    have HB := hideP2 hb
    clear hb
    unfold tokV
    go_wp2_with fail
    refine bodyPost_ret (v := tokV k t v p) (by simp [results, Tryz.results40, go_sem, tokV, hc]) rfl ⟨rfl, ?_⟩
    exact (((((((Below.refl _ _).alloc (Nat.le_refl _) _).trans (HB.out.mono (by simp))).setCell (Nat.le_refl _) _).setCell (Nat.le_refl _) _).setCell (Nat.le_refl _) _).setCell (Nat.le_refl _) _)
  · have HM := hideP2 (fun w => hw w h)
    have h1 := HL.out true (by rw [h]; rfl)
    have h2 := HD.out false (by rw [h]; rfl)
    have H1 := hideP2 h1
    clear hw hnu hm HL HD h hk h1 h2
    go_enter Tryz.func40, Tryz.ntmps40
    go_wp2_with fail
    refine (isLetter_is _ true (H1.out _) _).mono ?_; rintro e w' ⟨rfl, hw⟩; obtain rfl := hw.symm
    go_wp2_with fail
    refine (HM.out _).mono ?_; rintro e w2 ⟨rfl, hb⟩
    obtain ⟨hc, hf⟩ := bcell hb
    have HB := hideP2 hb
    clear hb
    unfold tokV
    go_wp2_with fail
    refine bodyPost_ret (v := tokV k t v p) (by simp [results, Tryz.results40, go_sem, tokV, hc]) rfl ⟨rfl, ?_⟩
    exact (((((((Below.refl _ _).alloc (Nat.le_refl _) _).trans (HB.out.mono (by simp))).setCell (Nat.le_refl _) _).setCell (Nat.le_refl _) _).setCell (Nat.le_refl _) _).setCell (Nat.le_refl _) _)
  · have HM := hideP2 (fun w => hnu w h)
    have h1 := HL.out false (by rw [h]; rfl)
    have h2 := HD.out true (by rw [h]; rfl)
    have H1 := hideP2 h1
    have H2 := hideP2 h2
    clear hw hnu hm HL HD h hk h1 h2
    go_enter Tryz.func40, Tryz.ntmps40
    go_wp2_with fail
    refine (isLetter_is _ false (H1.out _) _).mono ?_; rintro e w' ⟨rfl, hw⟩; obtain rfl := hw.symm
    go_wp2_with fail
    refine (isDigit_is _ true (H2.out _) _).mono ?_; rintro e w' ⟨rfl, hw⟩; obtain rfl := hw.symm
    go_wp2_with fail
    refine (HM.out _).mono ?_; rintro e w2 ⟨rfl, hb⟩
    obtain ⟨hc, hf⟩ := bcell hb
    have HB := hideP2 hb
    clear hb
    unfold tokV
    go_wp2_with fail
    refine bodyPost_ret (v := tokV k t v p) (by simp [results, Tryz.results40, go_sem, tokV, hc]) rfl ⟨rfl, ?_⟩
    exact (((((((Below.refl _ _).alloc (Nat.le_refl _) _).trans (HB.out.mono (by simp))).setCell (Nat.le_refl _) _).setCell (Nat.le_refl _) _).setCell (Nat.le_refl _) _).setCell (Nat.le_refl _) _)
  · exact absurd h hk

theorem isBlank_is (c : Int) (b : Bool) (h : blankI c = b) (w : World) :
    Calls Tryz.prog 39 #[.int .u8 c] w fun e w' => e = .returned (.bool b) ∧ w' = w := by subst h; exact isBlank_any c w
theorem blank_so (c : UInt8) : blankI (c.toNat : Int) = decide (so c = 3) := by
  unfold blankI so sortI
  by_cases h : (c.toNat : Int) = 32 ∨ (c.toNat : Int) = 10
  · rw [if_neg (by omega), if_neg (by omega), if_pos h]; simpa using h
  · rw [if_neg h]
    have : ¬ (if (97 : Int) ≤ c.toNat ∧ (c.toNat : Int) ≤ 122 then (1 : Int) else if (48 : Int) ≤ c.toNat ∧ (c.toNat : Int) ≤ 57 then 2 else 0) = 3 := by split <;> (try split) <;> decide
    simp only [this, decide_false, Bool.or_eq_false_iff, beq_eq_false_iff_ne]; omega
theorem at_blank {l : Bs} {b : Bool} {i : Nat} (h : decide (so (l.getD i 0) = 3) = b) : ∀ h : i < (ByteArray.mk l.toArray).size, blankI (((ByteArray.mk l.toArray)[i]'h).toNat : Int) = b := by
  intro h0; rw [idx_mk, blank_so, h]

theorem owns_below {w w' : World} {B : Nat} {e : TypeId} {size : Nat} {v : Value} {n : Nat} {xs : List Value} (h : w.ownsRow B e size v n xs) (hb : Below w.heap.size w w') : w'.ownsRow B e size v n xs := by
  refine ⟨h.1, ?_⟩
  rcases h.2 with h1 | ⟨g, cap, cur, h1, h2, h3, r⟩
  · exact .inl h1
  · refine .inr ⟨g, cap, cur, h1, h2, ?_, r⟩
    have hg : g < w.heap.size := by
      rcases Nat.lt_or_ge g w.heap.size with h | h
      · exact h
      · rw [Array.getElem?_eq_none h] at h3; cases h3
    rw [hb.block g hg]; exact h3

theorem infoPtok : (Tryz.prog.info? 86).map (fun i => (i.zero, i.size, i.bytes)) = some (some (.agg #[.int .i64 0, .string ⟨#[]⟩, .int .i64 0, .int .i64 0]), 4, 40) := by kernel_rfl

theorem own_block_lt {w : World} {B : Nat} {e : TypeId} {size : Nat} {v : Value} {n : Nat} {xs : List Value} (hown : w.ownsRow B e size v n xs) : ∀ k, v.ownBlock = some k → B ≤ k ∧ k < w.heap.size := by
  intro k hk
  rcases hown.2 with ⟨h1, _⟩ | ⟨g, cap, cur, h1, h2, h3, _⟩
  · rw [h1] at hk; simp [Value.ownBlock] at hk
  · rw [h1] at hk; simp [Value.ownBlock] at hk
    subst hk
    refine ⟨h2, ?_⟩
    rcases Nat.lt_or_ge g w.heap.size with h | h
    · exact h
    · rw [Array.getElem?_eq_none h] at h3; cases h3

end Go.Proofs.YtnbpdffdnphbeaaGreat
