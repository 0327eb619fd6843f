/- What Read of the program gives: the tokens of a text in a row of its own, and one behind them. -/
import Derived.Test.YtlfffodehppgbaaDoorRead
namespace Go.Proofs.YtlfffodehppgbaaDoor
open Go.RowKit

theorem news_cellsH (w : World) (cs : Array Value) (T : TypeId) (l : List Value) (h : cs.toList = l) {H : Nat} (hH : w.heap.size = H) :
    ∀ j u, l[j]? = some u → (w.alloc (.cells cs T)).cell? ((⟨H, 0, none⟩ : Addr).add j) = some u := by
  subst hH; exact news_cells w cs T l h

theorem own_block_le2 {w : World} {B : Nat} {e : TypeId} {size : Nat} {v : Value} {n : Nat} {xs : List Value} (hown : w.ownsRow B e size v n xs) : ∀ k, v.ownBlock = some k → B ≤ k :=
  fun k hk => (own_block_lt hown k hk).1

set_option maxHeartbeats 1000000 in
theorem Read_any (l : Bs) (w : World) (hl : l.length ≤ 4000) :
    Calls Tryd.prog 21 #[.string ⟨l.toArray⟩] w fun e w' => ∃ v, e = .returned v ∧ w'.ownsRow w.heap.size 64 4 v ((toksAt l 0).length + 1) (flatP (toksAt l 0) ++ endTok l.length) ∧ Below w.heap.size w w' := by
  obtain ⟨i0, hi0, hz0, hz1, hz2⟩ := info_parts infoPtok
  obtain ⟨B, hB⟩ : ∃ B, B = w.heap.size := ⟨_, rfl⟩
  have HB : Hid (B = w.heap.size) := hB
  rw [← hB]
  clear hB
  go_enter Tryd.func21, Tryd.ntmps21
  go_wp2_with fail
  have h0 : (w.alloc (.cells #[] 64)).ownsRow B 64 4 (.slice (some ⟨w.heap.size, 0, none⟩) 0 0) 0 (flatP []) :=
    ⟨rfl, .inr ⟨w.heap.size, 0, #[], rfl, by rw [HB.out]; exact Nat.le_refl _, heap_alloc_new w _, Nat.le_refl _, by simp [maxLen], rfl, rfl⟩⟩
  have hb0 : Below B w (w.alloc (.cells #[] 64)) := (Below.refl _ _).alloc (by rw [HB.out]; exact Nat.le_refl _) _
  have H0 := hideP2 h0
  have HB0 := hideP2 hb0
  clear h0 hb0
  go_loopw [3, 4] (fun lv av wr => ∃ (p : Nat) (ts : Toks), p ≤ l.length ∧ av = .int .i64 p ∧ wr.ownsRow B 64 4 lv ts.length (flatP ts) ∧ Below B w wr ∧ Hid (ts ++ toksAt l p = toksAt l 0)) (fun _ av _ => l.length - (intOf av).toNat)
  case atStart => exact ⟨0, [], Nat.zero_le _, rfl, H0.out, HB0.out, rfl⟩
  case round =>
    obtain ⟨p, ts, hp, rfl, hown, hbel, hH⟩ := hrel
    clear H0 HB0
    have hBw : B ≤ wr.heap.size := by have h5 := hbel.size; have h6 := HB.out; omega
    have hts0 : ts.length ≤ 4000 := by
      have h1 := congrArg List.length hH.out; have h2 := toksAt_len l 0; simp only [List.length_append] at h1; omega
    by_cases hlt : p < l.length
    · by_cases hk : so (l.getD p 0) = 3
      · have HF : Hid (ts ++ toksAt l (p + 1) = toksAt l 0) := by have := hH.out; rw [toksAt_blank hlt hk] at this; exact this
        have HQ := hideP2 (at_blank (b := true) (by rw [hk]; rfl) : ∀ h : p < (ByteArray.mk l.toArray).size, blankI (((ByteArray.mk l.toArray)[p]'h).toNat : Int) = true)
        clear hk hH
        go_wp2_with (go_at_call 41; refine (isBlank_is _ true (HQ.out _) _).mono ?_; rintro e w' ⟨rfl, hw⟩; obtain rfl := hw.symm)
        go_roundw
        case rel => exact ⟨p + 1, ts, by omega, by go_num, hown, hbel, HF.out⟩
        case measure => simp [intOf]; omega
      · have HQ := hideP2 (at_blank (b := false) (by simp only [hk, decide_false]) : ∀ h : p < (ByteArray.mk l.toArray).size, blankI (((ByteArray.mk l.toArray)[p]'h).toNat : Int) = false)
        have HTk := hideP2 (fun w => tokenAt_any l p w hl hlt hk)
        have hF := hH.out
        rw [toksAt_tok hlt hk] at hF
        have hn1 := lenB_pos (l.drop p)
        have hn2 := lenB_le (l := l.drop p) (by rw [List.length_drop]; omega)
        rw [List.length_drop] at hn2
        have htl : ((l.drop p).take (lenB (l.drop p))).length = lenB (l.drop p) := by rw [List.length_take, List.length_drop]; omega
        generalize (l.drop p).take (lenB (l.drop p)) = t at *
        generalize lenB (l.drop p) = n at *
        have HF : Hid ((ts ++ [(p, t)]) ++ toksAt l (p + n) = toksAt l 0) := by rw [Hid, List.append_assoc]; exact hF
        have hpt : ptok (p, t) = [.int .i64 (pkind t), .string ⟨t.toArray⟩, .int .i64 (pval t), .int .i64 p] := rfl
        generalize hkk : pkind t = k at *
        generalize hvv : pval t = v at *
        have HPT := hideP2 hpt
        clear hk hH hF hkk hvv hpt
        subst htl
        go_wp2_with fail
        refine (isBlank_is _ false (HQ.out _) _).mono ?_; rintro e w' ⟨rfl, hw⟩; obtain rfl := hw.symm
        go_wp2_with fail
        refine (HTk.out _).mono ?_; rintro e w2 ⟨rfl, hb2⟩
        have hown2 := owns_below hown hb2
        have hbel2 := hbel.trans (hb2.mono hBw)
        have HG := hideP2 (own_block_lt hown)
        have hsz2 := hb2.size
        clear hown hbel hb2 HQ HTk
        unfold tokV
        go_wp2_with (at_builtin; refine wpList_append_own _ rfl _ _ 51 rfl B 64 i0 _ 4 40 Tryd.underlying51 hi0 hz0 hz1 hz2 rfl (by decide) _ _ _ rfl ((hown2.alloc _).alloc _) ⟨w2.heap.size + 1, 0, none⟩ 1 1 (ptok (p, t)) rfl rfl ?c1 ?c2 ?c3 ?c4 ?c5 ?_)
        case c1 => rw [HPT.out]; exact news_cellsH _ _ _ _ rfl (by simp)
        case c2 => rw [HPT.out]; intro u hu; simp at hu; rcases hu with rfl | rfl | rfl | rfl <;> rfl
        case c3 => unfold maxLen; omega
        case c4 => omega
        case c5 => simp; omega
        intro v' w3 hown3 hgrow _
        have hcell : w3.cell? ⟨w2.heap.size, 1, none⟩ = some (.string ⟨t.toArray⟩) := by
          rw [hgrow.cell_far ⟨w2.heap.size, 1, none⟩ (by simp; omega) (by
            intro h
            have h2 := (HG.out w2.heap.size h.symm).2
            omega)]
          simp [World.cell?_alloc_past]
        have hbel3 : Below B w w3 := ((hbel2.alloc (by omega) _).alloc (by simp; omega) _).grown hgrow (by simp; omega) (fun k hk => (HG.out k hk).1)
        clear hown2 hbel2 hgrow HG
        go_wp2
        go_roundw
        case rel => exact ⟨p + t.length, ts ++ [(p, t)], by omega, by go_num, by rw [flatP_snoc]; simpa using hown3, hbel3, HF.out⟩
        case measure => simp [intOf]; omega
    · have HF : Hid (ts = toksAt l 0) := by have := hH.out; rw [toksAt_end hlt, List.append_nil] at this; exact this
      clear hH
      go_wp2_with (at_builtin; refine wpList_append_own _ rfl _ _ 51 rfl B 64 i0 _ 4 40 Tryd.underlying51 hi0 hz0 hz1 hz2 rfl (by decide) _ _ _ rfl (hown.alloc _) ⟨wr.heap.size, 0, none⟩ 1 1 (endTok l.length) rfl rfl ?c1 ?c2 ?c3 ?c4 ?c5 ?_)
      case c1 => exact news_cells _ _ _ _ rfl
      case c2 => intro u hu; simp [endTok] at hu; rcases hu with rfl | rfl | rfl | rfl <;> rfl
      case c3 => unfold maxLen; omega
      case c4 => omega
      case c5 => simp; omega
      intro v' w3 hown3 hgrow _
      have hbel3 : Below B w w3 := (hbel.alloc hBw _).grown hgrow (by simp; omega) (own_block_le2 hown)
      clear hown hbel hgrow
      go_wp2
      go_ret
      exact ⟨_, rfl, by rw [← HF.out]; exact hown3, hbel3⟩
end Go.Proofs.YtlfffodehppgbaaDoor
