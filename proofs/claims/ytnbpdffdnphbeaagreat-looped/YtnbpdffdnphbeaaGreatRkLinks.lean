/- The levels that the program's links tell of lines that lie in memory. -/
import Derived.Test.YtnbpdffdnphbeaaGreatRkGraph
namespace Go.Proofs.YtnbpdffdnphbeaaGreat
open Go.RowKit

def lvC (L : List (Bs × Nat)) : List Value := L.flatMap fun x => [.string ⟨x.1.toArray⟩, .int .i64 (x.2 : Nat)]
theorem lvC_snoc (L : List (Bs × Nat)) (x : Bs × Nat) : lvC (L ++ [x]) = lvC L ++ [.string ⟨x.1.toArray⟩, .int .i64 (x.2 : Nat)] := by simp [lvC]
theorem infoLev : (Tryz.prog.info? 128).map (fun i => (i.zero, i.size, i.bytes)) = some (some (.agg #[.string ⟨#[]⟩, .int .i64 0]), 2, 24) := by kernel_rfl
def lvlG (S : List Nat) : List Bs → Nat → List (Bs × Nat) → List (Bs × Nat)
  | [], _, acc => acc
  | n :: r, i, acc => lvlG S r (i + 1) (if i < 8 then acc ++ [(n, S.getD i 0)] else acc)
/-- The conclusions with their levels. -/
def lvlB (ls : List PLine) : List (Bs × Nat) := lvlG (levelsB (namG (headsB ls) ls gZ)) (headsB ls) 0 []
theorem lvlG_drop (S : List Nat) (hd : List Bs) (i : Nat) (acc : List (Bs × Nat)) (h : i < hd.length) : lvlG S (hd.drop i) i acc = lvlG S (hd.drop (i + 1)) (i + 1) (if i < 8 then acc ++ [(hd.getD i [], S.getD i 0)] else acc) := by
  rw [List.drop_eq_getElem_cons h, lvlG]; simp [List.getD, h]

/-- Names lie in a block of strings. -/
def StrB (w : World) (a : Option Addr) (names : List Bs) : Prop := names = [] ∨ ∃ g cs fz, a = some ⟨g, 0, none⟩ ∧ w.heap[g]? = some (.cells cs 9 fz) ∧ ∀ i, i < names.length → cs[i]? = some (.string ⟨(names.getD i []).toArray⟩)
theorem own_strB {w : World} {B : Nat} {v : Value} {names : List Bs} (h : w.ownsRow B 9 1 v names.length (strC names)) : ∃ a c, v = .slice a names.length c ∧ StrB w a names := by
  rcases h.2 with ⟨h1, h2⟩ | ⟨g, cap, cur, h1, _, h3, _, _, _, h7⟩
  · exact ⟨none, 0, by rw [h1, h2], .inl (List.eq_nil_of_length_eq_zero h2)⟩
  · exact ⟨some ⟨g, 0, none⟩, cap, h1, .inr ⟨g, cur, _, rfl, h3, fun i hi => (cell_row h3 i).symm.trans (cell_take2 h3 (n := names.length * 1) h7 (strC_get names i hi))⟩⟩
theorem own_sliceN {w : World} {B : Nat} {e : TypeId} {size : Nat} {v : Value} {n : Nat} {xs : List Value} (h : w.ownsRow B e size v n xs) : ∃ a c, v = .slice a n c := by
  rcases h.2 with ⟨h1, h2⟩ | ⟨g, cap, cur, h1, _⟩
  · exact ⟨none, 0, by rw [h1, h2]⟩
  · exact ⟨_, _, h1⟩
theorem hlt_of {w : World} {g : Nat} {o : Obj} (h : w.heap[g]? = some o) : g < w.heap.size := by
  rcases Nat.lt_or_ge g w.heap.size with h1 | h1
  · exact h1
  · rw [Array.getElem?_eq_none h1] at h; cases h
theorem StrB.new {w : World} {a : Option Addr} {names : List Bs} (h : StrB w a names) (o : Obj) : StrB (w.alloc o) a names := by
  rcases h with h | ⟨g, cs, fz, h1, h2, h3⟩
  · exact .inl h
  · exact .inr ⟨g, cs, fz, h1, hb_new h2, h3⟩
theorem StrB.grown {w w' : World} {a : Option Addr} {names : List Bs} {B : Nat} {v : Value} {n : Nat} {xs : List Value} (h : StrB w a names) (hown : w.ownsRow B 128 2 v n xs) (hg : w.grownBy w' v.ownBlock) : StrB w' a names := by
  rcases h with h | ⟨g, cs, fz, h1, h2, h3⟩
  · exact .inl h
  · refine .inr ⟨g, cs, fz, h1, ?_, h3⟩
    rw [hg.block g (hlt_of h2) (fun e => ?_)]
    · exact h2
    · rcases hown.2 with ⟨k1, _⟩ | ⟨g', cap, cur, k1, _, k3, _⟩
      · rw [k1] at e; simp [Value.ownBlock] at e
      · rw [k1] at e; simp [Value.ownBlock] at e
        subst e
        rw [h2] at k3
        simp at k3

set_option maxRecDepth 100000 in
set_option maxHeartbeats 2000000 in
theorem LLevels_s (w : World) (a : Option Addr) (c : Nat) (ls : List LX) (h : LinV w a ls) :
    Calls Tryz.prog 59 #[.slice a ls.length c] w fun e w' => ∃ v, e = .returned v ∧ w'.ownsRow w.heap.size 128 2 v (lvlB (fs ls)).length (lvC (lvlB (fs ls))) ∧ Below w.heap.size w w' := by
  obtain ⟨i0, hi0, hz0, hz1, hz2⟩ := info_parts infoLev
  have hfew := h.few
  have HNm := hideP2 (Naming_s w a c ls h)
  have HCn := hideP2 (fun w' (hb : Below w.heap.size w w') => conclusions_s w' a c ls (h.below hb (Nat.le_refl _)))
  have HGL : Hid ((namG (headsB (fs ls)) (fs ls) gZ).length = 64) := by unfold Hid; rw [namG_len]; exact gZ_len
  have HRr : Hid (lvlB (fs ls) = lvlG (levelsB (namG (headsB (fs ls)) (fs ls) gZ)) (headsB (fs ls)) 0 []) := rfl
  obtain ⟨B, hB⟩ : ∃ B, B = w.heap.size := ⟨_, rfl⟩
  have HB0 := hideP2 hB
  rw [← hB] at HCn HNm ⊢
  clear h hB
  generalize namG (headsB (fs ls)) (fs ls) gZ = Gn at *
  generalize headsB (fs ls) = hd at *
  generalize lvlB (fs ls) = ans at *
  have HLv := hideP2 (fun w' g (hg : GrM w' g Gn) => GLevels_s w' g Gn hg)
  have HSl := hideP2 (levelsB_len Gn)
  generalize levelsB Gn = S at *
  go_enter Tryz.func59, Tryz.ntmps59
  go_wp2_with fail
  refine HNm.out.mono ?_
  rintro e w1 ⟨rfl, hb1⟩
  have hs1 := hb1.size
  rw [← HB0.out] at hs1
  have HB1 := hideP2 hb1
  clear hb1
  go_wp2_with (refine wpList_store_row ?hgd 59 (.tmp 3) (.tmp 9) ?ho w1.heap.size (gC Gn) ?hx ?hy 59 (gC gZ) (hb_end w1 _) (gInfoC HGL.out) ?hold (gC_one Gn) ?_
               case ho => rfl
               case hgd => rfl
               case hx => rfl
               case hy => rfl
               case hold => rw [gC_size, gC_size, gZ_len, HGL.out])
  refine (HLv.out _ w1.heap.size ⟨setRow_heap _ _ (gC gZ) _ _ _ (hb_end w1 _), HGL.out⟩).mono ?_
  rintro e w2 ⟨rfl, hb2⟩
  have HBm : Hid (Below B w ((w1.alloc (.cells (gC gZ) 59 (0, 0))).setRow w1.heap.size (gC Gn))) := below_row (HB1.out.alloc hs1 _) hs1 _
  have HB2 : Hid (Below B w w2) := HBm.out.trans (hb2.mono (by have := HBm.out.size; rw [← HB0.out] at this; exact this))
  have hs2 := HB2.out.size
  rw [← HB0.out] at hs2
  clear hb2 HBm HB1
  have HBl : Hid (Below B w ((w2.alloc (.cells (lC lZ) 154 (0, 0))).setRow w2.heap.size (lC S))) := below_row (HB2.out.alloc hs2 _) hs2 _
  have HLm : Hid (LvM ((w2.alloc (.cells (lC lZ) 154 (0, 0))).setRow w2.heap.size (lC S)) w2.heap.size S) := ⟨setRow_heap _ _ (lC lZ) _ _ _ (hb_end w2 _), HSl.out⟩
  go_wp2_with (refine wpList_store_row ?hgd 154 (.tmp 4) (.tmp 10) ?ho w2.heap.size (lC S) ?hx ?hy 154 (lC lZ) (hb_end w2 _) (lInfoC HSl.out) ?hold (lC_one S) ?_
               case ho => rfl
               case hgd => rfl
               case hx => rfl
               case hy => rfl
               case hold => rw [lC_size, lC_size, HSl.out]; rfl)
  have hwl : ((w2.alloc (.cells (lC lZ) 154 (0, 0))).setRow w2.heap.size (lC S)).heap.size = w2.heap.size + 1 := by unfold World.setRow; simp
  have eZ : lC lZ = #[.int .i64 0, .int .i64 0, .int .i64 0, .int .i64 0, .int .i64 0, .int .i64 0, .int .i64 0, .int .i64 0] := rfl
  rw [eZ] at HBl HLm hwl
  clear eZ
  generalize (w2.alloc (.cells #[.int .i64 0, .int .i64 0, .int .i64 0, .int .i64 0, .int .i64 0, .int .i64 0, .int .i64 0, .int .i64 0] 154 (0, 0))).setRow w2.heap.size (lC S) = wL at *
  generalize w2.heap.size = lb at *
  have hsL := HBl.out.size
  rw [← HB0.out] at hsL
  have hlbL := HLm.out.lt
  have HO0 : Hid ((wL.alloc (.cells #[] 128)).ownsRow wL.heap.size 128 2 (.slice (some ⟨lb + 1, 0, none⟩) 0 0) 0 []) := by rw [← hwl]; exact ⟨rfl, .inr ⟨wL.heap.size, 0, #[], rfl, Nat.le_refl _, hb_end _ _, Nat.le_refl _, Nat.zero_le _, rfl, rfl⟩⟩
  refine (HCn.out _ (HBl.out.alloc hsL _)).mono ?_
  rintro e w4 ⟨v2, rfl, hown4, hl4, hb4⟩
  obtain ⟨na, nc, rfl, hsb⟩ := own_strB hown4
  have HO4 := hideP2 (owns_sameP HO0.out hb4)
  have HB4 : Hid (Below wL.heap.size wL w4) := ((Below.refl _ _).alloc (Nat.le_refl _) _).trans (hb4.mono (Nat.le_of_lt (lt_end _ _)))
  have HSb := hideP2 hsb
  have HR2 : Hid (lvlG S hd 0 [] = ans) := HRr.out.symm
  clear hown4 hb4 hsb HO0 HRr HB2
  go_wp2_with fail
  go_loopw [5, 15] (fun ov iv wr => ∃ (i : Nat) (acc : List (Bs × Nat)), i ≤ hd.length ∧ acc.length ≤ i ∧ iv = .int .i64 i ∧ Hid (wr.ownsRow wL.heap.size 128 2 ov acc.length (lvC acc)) ∧ Hid (Below wL.heap.size wL wr) ∧ Hid (StrB wr na hd) ∧ Hid (lvlG S (hd.drop i) i acc = ans)) (fun _ iv _ => hd.length - (intOf iv).toNat)
  case atStart => exact ⟨0, [], Nat.zero_le _, Nat.le_refl _, rfl, HO4, HB4, HSb, HR2⟩
  case round =>
    obtain ⟨i, acc, hi, hacc, rfl, HO, HBr, HSr, HE⟩ := hrel
    have hszr : wL.heap.size ≤ wr.heap.size := HBr.out.size
    by_cases hlt : i < hd.length
    · obtain ⟨g, cs, fz, rfl, hblk, hcs⟩ : ∃ g cs fz, na = some ⟨g, 0, none⟩ ∧ wr.heap[g]? = some (.cells cs 9 fz) ∧ ∀ i, i < hd.length → cs[i]? = some (.string ⟨(hd.getD i []).toArray⟩) := by
        rcases HSr.out with h | h
        · rw [h] at hlt; simp at hlt
        · exact h
      have hc := (cell_row hblk i).trans (hcs i hlt)
      have hE := HE.out
      rw [lvlG_drop S hd i acc hlt] at hE
      have HE2 := hideP2 hE
      obtain ⟨oa, oc, rfl⟩ := own_sliceN HO.out
      clear HE hE hcs hblk
      generalize hd.getD i [] = s at *
      by_cases k1 : i < 8
      · have hlv : wr.cell? ⟨lb, i, none⟩ = some (.int .i64 ((S.getD i 0 : Nat) : Int)) := by
          rw [HBr.out.cell (p := ⟨lb, i, none⟩) hlbL]; exact HLm.out.cell k1
        have HE3 : Hid (lvlG S (hd.drop (i + 1)) (i + 1) (acc ++ [(s, S.getD i 0)]) = ans) := by have := HE2.out; rw [if_pos k1] at this; exact this
        clear HE2
        generalize S.getD i 0 = sv at *
        go_wp2_with (at_builtin; refine wpList_append_own _ rfl _ _ 54 rfl wL.heap.size 128 i0 _ 2 24 Tryz.underlying54 hi0 hz0 hz1 hz2 rfl (by decide) _ _ _ rfl (HO.out.alloc _) ⟨wr.heap.size, 0, none⟩ 1 1 [.string ⟨s.toArray⟩, .int .i64 (sv : Nat)] rfl rfl ?c1 ?c2 ?c3 ?c4 ?c5 ?_)
        case c1 => exact news_cells _ _ _ _ rfl
        case c2 => intro u hu; simp at hu; rcases hu with rfl | rfl <;> rfl
        case c3 => unfold maxLen; omega
        case c4 => omega
        case c5 => simp; omega
        intro v' w5 hown1 hgrow _
        have HS5 : Hid (StrB w5 (some ⟨g, 0, none⟩) hd) := (HSr.out.new _).grown (HO.out.alloc _) hgrow
        have HB5 : Hid (Below wL.heap.size wL w5) := (HBr.out.alloc hszr _).grown hgrow (by simp; omega) (own_block_le HO.out)
        have HO5 : Hid (w5.ownsRow wL.heap.size 128 2 v' (acc ++ [(s, sv)]).length (lvC (acc ++ [(s, sv)]))) := by unfold Hid; rw [lvC_snoc, hwl]; simpa [hwl] using hown1
        clear hgrow hown1
        go_wp2_with fail
        go_roundw
        case rel => exact ⟨i + 1, acc ++ [(s, sv)], by omega, by simp; omega, by go_num, HO5, HB5, HS5, HE3⟩
        case measure => simp [intOf]; omega
      · have HE3 : Hid (lvlG S (hd.drop (i + 1)) (i + 1) acc = ans) := by have := HE2.out; rw [if_neg k1] at this; exact this
        have i1 : ¬ (i : Int) < 8 := by omega
        clear HE2
        go_wp2_with fail
        go_roundw
        case rel => exact ⟨i + 1, acc, by omega, by omega, by go_num, HO, HBr, HSr, HE3⟩
        case measure => simp [intOf]; omega
    · have HE3 : Hid (ans = acc) := by have := HE.out; rw [List.drop_eq_nil_of_le (by omega)] at this; exact this.symm
      clear HE
      go_wp2_with fail
      go_ret
      refine ⟨_, rfl, ?_, ?_⟩
      · rw [HE3.out]; exact owns_base2 HO.out hsL
      · exact HBl.out.trans (HBr.out.mono hsL)
end Go.Proofs.YtnbpdffdnphbeaaGreat
