/- A ring that the program's links tell of lines that lie in memory. -/
import Derived.Test.YtnbpdffdnphbeaaDoorPWalk
import Derived.Test.YtnbpdffdnphbeaaDoorStCheck
namespace Go.Proofs.YtnbpdffdnphbeaaDoor
open Go.RowKit

/-- The names of points. -/
def pickG (names : List Bs) : List Nat → List Bs → List Bs
  | [], acc => acc
  | p :: r, acc => pickG names r (if p < names.length then acc ++ [names.getD p []] else acc)
def pickB (names : List Bs) (pts : List Nat) : List Bs := pickG names pts []
def ringL (ls : List PLine) : List Bs :=
  if 0 < (ringPts (namG (headsB ls) ls gZ)).length then pickB (headsB ls) (ringPts (namG (headsB ls) ls gZ))
  else pickB (labsB ls) (ringPts (ordG (labsB ls) ls gZ))
theorem pickG_drop (names : List Bs) (pts : List Nat) (i : Nat) (acc : List Bs) (h : i < pts.length) : pickG names (pts.drop i) acc = pickG names (pts.drop (i + 1)) (if pts.getD i 0 < names.length then acc ++ [names.getD (pts.getD i 0) []] else acc) := by
  rw [List.drop_eq_getElem_cons h, pickG]; simp [List.getD, h]
theorem colG_len (f : Nat → Nat) (a n : Nat) : ∀ r x, r.length ≤ 8 → (colG f a n r x).length ≤ 8 := by
  induction n with
  | zero => intro r x h; exact h
  | succ n ih => intro r x h; rw [colG]; split
                 · rename_i hc; exact ih _ _ (by simp; omega)
                 · exact h
theorem ringPts_len (G : List Bool) : (ringPts G).length ≤ 8 := by
  unfold ringPts; split
  · exact Nat.zero_le _
  · exact colG_len _ _ 8 _ _ (by simp)
theorem cell_ltG {w : World} {g i : Nat} {v : Value} (h : w.cell? ⟨g, i, none⟩ = some v) : g < w.heap.size := by
  rcases Nat.lt_or_ge g w.heap.size with h1 | h1
  · exact h1
  · rw [World.cell?, Array.getElem?_eq_none (by simpa using h1)] at h; cases h
theorem StrV.keepB {w w' : World} {B : Nat} {a : Option Addr} {names : List Bs} (h : StrV w a names) (hb : Below B w w') (hB : w.heap.size ≤ B) : StrV w' a names :=
  ⟨fun h0 => let ⟨g, e, p⟩ := h.blk h0; ⟨g, e, fun j hj => by rw [hb.cell (p := ⟨g, j, none⟩) (Nat.lt_of_lt_of_le (cell_ltG (p j hj)) hB)]; exact p j hj⟩, h.few⟩
theorem IntV.below {w w' : World} {B : Nat} {a : Option Addr} {L : List Nat} (h : IntV w a L) (hb : Below B w w') (hB : w.heap.size ≤ B) : IntV w' a L :=
  ⟨fun h0 => let ⟨g, e, p⟩ := h.blk h0; ⟨g, e, fun j hj => by rw [hb.cell (p := ⟨g, j, none⟩) (Nat.lt_of_lt_of_le (cell_ltG (p j hj)) hB)]; exact p j hj⟩⟩

set_option maxHeartbeats 2000000 in
theorem pick_s (w : World) (a b : Option Addr) (c d : Nat) (names : List Bs) (pts : List Nat) (h : StrV w a names) (hp : IntV w b pts) (hf : pts.length ≤ 10000) :
    Calls Tryd.prog 47 #[.slice a names.length c, .slice b pts.length d] w fun e w' => ∃ v, e = .returned v ∧ w'.ownsRow w.heap.size 9 1 v (pickB names pts).length (strC (pickB names pts)) ∧ Below w.heap.size w w' := by
  obtain ⟨i0, hi0, hz0, hz1, hz2⟩ := info_parts infoStr
  have HS := hideP2 h
  have HP := hideP2 hp
  have hfew := h.few
  obtain ⟨B, hB⟩ : ∃ B, B = w.heap.size := ⟨_, rfl⟩
  have HB0 := hideP2 hB
  clear h hp hB
  go_enter Tryd.func47, Tryd.ntmps47
  go_wp2_with fail
  go_loopw [5, 11] (fun ov iv wr => ∃ (i : Nat) (acc : List Bs), i ≤ pts.length ∧ acc.length ≤ i ∧ iv = .int .i64 i ∧ Hid (wr.ownsRow B 9 1 ov acc.length (strC acc)) ∧ Hid (Below B w wr) ∧ Hid (pickG names (pts.drop i) acc = pickB names pts)) (fun _ iv _ => pts.length - (intOf iv).toNat)
  case atStart => exact ⟨0, [], Nat.zero_le _, Nat.le_refl _, rfl, hideP2 ⟨rfl, .inr ⟨w.heap.size, 0, #[], rfl, by rw [HB0.out]; exact Nat.le_refl _, hb_end _ _, Nat.le_refl _, Nat.zero_le _, rfl, rfl⟩⟩, hideP2 ((Below.refl _ _).alloc (by rw [HB0.out]; exact Nat.le_refl _) _), hideP2 rfl⟩
  case round =>
    obtain ⟨i, acc, hi, hacc, rfl, HO, HB, HE⟩ := hrel
    have hsz : B ≤ wr.heap.size := by have := HB.out.size; have h2 := HB0.out; omega
    by_cases hlt : i < pts.length
    · obtain ⟨gp, rfl, hcs⟩ := (HP.out.below HB.out (by rw [HB0.out]; exact Nat.le_refl _)).blk (by omega)
      have hc := hcs i hlt
      have hE := HE.out
      rw [pickG_drop names pts i acc hlt] at hE
      have HE2 := hideP2 hE
      obtain ⟨oa, oc, rfl, _⟩ := own_str HO.out (by omega)
      clear HE hE hcs
      generalize pts.getD i 0 = p at *
      have b0 : (0 : Int) ≤ (p : Int) := by omega
      by_cases k1 : p < names.length
      · obtain ⟨gn, rfl, hns⟩ := (HS.out.keepB HB.out (by rw [HB0.out]; exact Nat.le_refl _)).blk (by omega)
        have hn := hns p k1
        have HE3 : Hid (pickG names (pts.drop (i + 1)) (acc ++ [names.getD p []]) = pickB names pts) := by have := HE2.out; rw [if_pos k1] at this; exact this
        clear HE2 hns
        generalize names.getD p [] = s at *
        have b2 : (p : Int) < (names.length : Int) := by omega
        go_wp2_with (at_builtin; refine wpList_append_own _ rfl _ _ 33 rfl B 9 i0 _ 1 16 Tryd.underlying33 hi0 hz0 hz1 hz2 rfl (by decide) _ _ _ rfl (HO.out.alloc _) ⟨wr.heap.size, 0, none⟩ 1 1 [.string ⟨s.toArray⟩] rfl rfl ?c1 ?c2 ?c3 ?c4 ?c5 ?_)
        case c1 => exact news_cells _ _ _ _ rfl
        case c2 => intro u hu; simp at hu; subst hu; rfl
        case c3 => unfold maxLen; omega
        case c4 => omega
        case c5 => simp; omega
        intro v' w2 hown1 hgrow _
        have HB2 : Hid (Below B w w2) := (HB.out.alloc hsz _).grown hgrow (by simp; omega) (own_block_le HO.out)
        have HO2 : Hid (w2.ownsRow B 9 1 v' (acc ++ [s]).length (strC (acc ++ [s]))) := by unfold Hid; rw [strC_snoc]; simpa using hown1
        clear hgrow hown1
        go_wp2_with fail
        go_roundw
        case rel => exact ⟨i + 1, acc ++ [s], by omega, by simp; omega, by go_num, HO2, HB2, HE3⟩
        case measure => simp [intOf]; omega
      · have HE3 : Hid (pickG names (pts.drop (i + 1)) acc = pickB names pts) := by have := HE2.out; rw [if_neg k1] at this; exact this
        have b2 : ¬ (p : Int) < (names.length : Int) := by omega
        clear HE2
        go_wp2_with fail
        go_roundw
        case rel => exact ⟨i + 1, acc, by omega, by omega, by go_num, HO, HB, HE3⟩
        case measure => simp [intOf]; omega
    · have HE3 : Hid (pickB names pts = acc) := by have := HE.out; rw [List.drop_eq_nil_of_le (by omega)] at this; exact this.symm
      clear HE
      go_wp2_with fail
      go_ret
      refine ⟨_, rfl, ?_, ?_⟩
      · rw [HE3.out, ← HB0.out]; exact HO.out
      · rw [← HB0.out]; exact HB.out

set_option maxRecDepth 100000 in
set_option maxHeartbeats 2000000 in
theorem LRing_s (w : World) (a : Option Addr) (c : Nat) (ls : List LX) (h : LinV w a ls) :
    Calls Tryd.prog 24 #[.slice a ls.length c] w fun e w' => ∃ v, e = .returned v ∧ w'.ownsRow w.heap.size 9 1 v (ringL (fs ls)).length (strC (ringL (fs ls))) ∧ Below w.heap.size w w' := by
  have hfew := h.few
  have HNm := hideP2 (Naming_s w a c ls h)
  have HOr := hideP2 (fun w' (hb : Below w.heap.size w w') => Order_s w' a c ls (h.below hb (Nat.le_refl _)))
  have HCn := hideP2 (fun w' (hb : Below w.heap.size w w') => conclusions_s w' a c ls (h.below hb (Nat.le_refl _)))
  have HLb := hideP2 (fun w' (hb : Below w.heap.size w w') => ruleLabels_s w' a c ls (h.below hb (Nat.le_refl _)))
  have HGL : Hid ((namG (headsB (fs ls)) (fs ls) gZ).length = 64) := by unfold Hid; rw [namG_len]; exact gZ_len
  have HGL2 : Hid ((ordG (labsB (fs ls)) (fs ls) gZ).length = 64) := by unfold Hid; rw [ordG_len]; exact gZ_len
  have HRr : Hid (ringL (fs ls) = if 0 < (ringPts (namG (headsB (fs ls)) (fs ls) gZ)).length then pickB (headsB (fs ls)) (ringPts (namG (headsB (fs ls)) (fs ls) gZ)) else pickB (labsB (fs ls)) (ringPts (ordG (labsB (fs ls)) (fs ls) gZ))) := rfl
  obtain ⟨B, hB⟩ : ∃ B, B = w.heap.size := ⟨_, rfl⟩
  have HB0 := hideP2 hB
  rw [← hB] at HOr HCn HLb HNm ⊢
  clear h hB
  generalize namG (headsB (fs ls)) (fs ls) gZ = Gn at *
  generalize ordG (labsB (fs ls)) (fs ls) gZ = Go at *
  generalize headsB (fs ls) = hd at *
  generalize labsB (fs ls) = lb at *
  generalize ringL (fs ls) = ans at *
  have HR1 := hideP2 (fun w' g (hg : GrM w' g Gn) => GRing_s w' g Gn hg)
  have HR2 := hideP2 (fun w' g (hg : GrM w' g Go) => GRing_s w' g Go hg)
  have hp1 := ringPts_len Gn
  have hp2 := ringPts_len Go
  generalize ringPts Gn = P1 at *
  generalize ringPts Go = P2 at *
  go_enter Tryd.func24, Tryd.ntmps24
  go_wp2_with fail
  refine HNm.out.mono ?_
  rintro e w1 ⟨rfl, hb1⟩
  have hs1 := hb1.size
  rw [← HB0.out] at hs1
  have HB1 := hideP2 hb1
  clear hb1
  go_wp2_with (refine wpList_store_row ?hgd 78 (.tmp 3) (.tmp 7) ?ho w1.heap.size (gC Gn) ?hx ?hy 78 (gC gZ) (hb_end w1 _) (gInfoC HGL.out) ?hold (gC_one Gn) ?_
               case ho => rfl
               case hgd => rfl
               case hx => rfl
               case hy => rfl
               case hold => rw [gC_size, gC_size, gZ_len, HGL.out])
  refine (HR1.out _ w1.heap.size ⟨setRow_heap _ _ (gC gZ) _ _ _ (hb_end w1 _), HGL.out⟩).mono ?_
  rintro e w2 ⟨v1, rfl, hown, hb2⟩
  have HBm : Hid (Below B w ((w1.alloc (.cells (gC gZ) 78 (0, 0))).setRow w1.heap.size (gC Gn))) := below_row (HB1.out.alloc hs1 _) hs1 _
  have HB2 : Hid (Below B w w2) := HBm.out.trans (hb2.mono (by have := HBm.out.size; rw [← HB0.out] at this; exact this))
  obtain ⟨pa, pc, rfl, hiv⟩ := own_int hown
  have HIv := hideP2 hiv
  have hs2 := HB2.out.size
  rw [← HB0.out] at hs2
  clear hb2 hown hiv HBm HB1
  by_cases k1 : 0 < P1.length
  · have HA : Hid (ans = pickB hd P1) := by have := HRr.out; rw [if_pos k1] at this; exact this
    have i1 : (0 : Int) < (P1.length : Int) := by omega
    clear HRr
    go_wp2_with fail
    refine (HCn.out _ HB2.out).mono ?_
    rintro e w3 ⟨v2, rfl, hown3, hl3, hb3⟩
    obtain ⟨na, nc, rfl, hsv⟩ := own_str hown3 (by omega)
    have HPk := hideP2 (pick_s w3 na pa nc pc hd P1 hsv (HIv.out.below hb3 (Nat.le_refl _)) (by omega))
    have HB3 : Hid (Below B w w3) := HB2.out.trans (hb3.mono hs2)
    have hs3 := HB3.out.size
    rw [← HB0.out] at hs3
    clear hown3 hsv hb3
    go_wp2_with fail
    refine HPk.out.mono ?_
    rintro e w4 ⟨v3, rfl, hown4, hb4⟩
    have HB4 : Hid (Below B w w4) := HB3.out.trans (hb4.mono hs3)
    have HO4 := hideP2 (owns_base2 hown4 hs3)
    clear hown4 hb4
    go_wp2_with fail
    go_ret
    exact ⟨_, rfl, by rw [HA.out]; exact HO4.out, HB4.out⟩
  · have HA : Hid (ans = pickB lb P2) := by have := HRr.out; rw [if_neg k1] at this; exact this
    have i1 : ¬ (0 : Int) < (P1.length : Int) := by omega
    clear HRr
    go_wp2_with fail
    refine (HOr.out _ HB2.out).mono ?_
    rintro e w3 ⟨rfl, hb3⟩
    have HB3 : Hid (Below B w w3) := HB2.out.trans (hb3.mono hs2)
    have hs3 := HB3.out.size
    rw [← HB0.out] at hs3
    clear hb3
    go_wp2_with (refine wpList_store_row ?hgd 78 (.tmp 5) (.tmp 17) ?ho w3.heap.size (gC Go) ?hx ?hy 78 (gC gZ) (hb_end w3 _) (gInfoC HGL2.out) ?hold (gC_one Go) ?_
                 case ho => rfl
                 case hgd => rfl
                 case hx => rfl
                 case hy => rfl
                 case hold => rw [gC_size, gC_size, gZ_len, HGL2.out])
    refine (HR2.out _ w3.heap.size ⟨setRow_heap _ _ (gC gZ) _ _ _ (hb_end w3 _), HGL2.out⟩).mono ?_
    rintro e w4 ⟨v4, rfl, hown4, hb4⟩
    have HBm : Hid (Below B w ((w3.alloc (.cells (gC gZ) 78 (0, 0))).setRow w3.heap.size (gC Go))) := below_row (HB3.out.alloc hs3 _) hs3 _
    have HB4 : Hid (Below B w w4) := HBm.out.trans (hb4.mono (by have := HBm.out.size; rw [← HB0.out] at this; exact this))
    obtain ⟨qa, qc, rfl, hiv⟩ := own_int hown4
    have HIw := hideP2 hiv
    have hs4 := HB4.out.size
    rw [← HB0.out] at hs4
    clear hb4 hown4 hiv HBm HB3
    go_wp2_with fail
    refine (HLb.out _ HB4.out).mono ?_
    rintro e w5 ⟨v2, rfl, hown5, hl5, hb5⟩
    obtain ⟨na, nc, rfl, hsv⟩ := own_str hown5 (by omega)
    have HPk := hideP2 (pick_s w5 na qa nc qc lb P2 hsv (HIw.out.below hb5 (Nat.le_refl _)) (by omega))
    have HB5 : Hid (Below B w w5) := HB4.out.trans (hb5.mono hs4)
    have hs5 := HB5.out.size
    rw [← HB0.out] at hs5
    clear hown5 hsv hb5
    go_wp2_with fail
    refine HPk.out.mono ?_
    rintro e w6 ⟨v3, rfl, hown6, hb6⟩
    have HB6 : Hid (Below B w w6) := HB5.out.trans (hb6.mono hs5)
    have HO6 := hideP2 (owns_base2 hown6 hs5)
    clear hown6 hb6
    go_wp2_with fail
    go_ret
    exact ⟨_, rfl, by rw [HA.out]; exact HO6.out, HB6.out⟩
end Go.Proofs.YtnbpdffdnphbeaaDoor

/- What Ring of the program gives of a text. -/
namespace Go.Proofs.YtnbpdffdnphbeaaDoor
open Go.RowKit

/-- The program's error of a text, and its ring. -/
def ringE (l : Bs) : Int := if (chkP l).1 = 0 then 9 else if (chkP l).1 = 7 then 0 else (chkP l).1
def ringA (l : Bs) : List Bs := if (chkP l).1 = 7 then ringL (readB l).1 else []

theorem ret_vi {v : Value} {a b : Int} (h : a = b) : Ending.returned (.tuple #[v, .int .i64 a]) = .returned (.tuple #[v, .int .i64 b]) := by rw [h]
theorem own_nilS (w : World) (B : Nat) : w.ownsRow B 9 1 (.slice none 0 0) 0 [] := ⟨rfl, .inl ⟨rfl, rfl⟩⟩

set_option maxHeartbeats 1000000 in
theorem StRing_err (l : Bs) (w : World) (k : Int) (hk : k = 1 ∨ k = 2) (p : Int) (hR : Calls Tryd.prog 13 #[.string ⟨l.toArray⟩] w fun e w' => e = .returned (readV (.slice none 0 0) k p) ∧ Below w.heap.size w w') :
    Calls Tryd.prog 11 #[.string ⟨l.toArray⟩] w fun e w' => e = .returned (.tuple #[.slice none 0 0, .int .i64 k]) ∧ Below w.heap.size w w' := by
  have HR := hideP2 hR
  have e1 : (k != 0) = true := by rcases hk with rfl | rfl <;> rfl
  clear hR hk
  go_enter Tryd.func11, Tryd.ntmps11
  go_wp2_with fail
  refine HR.out.mono ?_
  rintro e w1 ⟨rfl, hb⟩
  have HB := hideP2 hb
  have hs := hb.size
  clear hb HR
  unfold readV
  go_wp2_with fail
  go_quiet (fail)
  go_wp2_with fail
  go_ret2
  exact ⟨rfl, below_drewN (HB.out.alloc hs _) _⟩

set_option maxHeartbeats 2000000 in
theorem StRing_any (l : Bs) (w : World) (hmax : l.length ≤ maxLen) (hg : l.length ≤ 4000 → (readB l).2.2 = false → ∀ x ∈ (readB l).1, GoodP x) (hm : l.length ≤ 4000 → (readB l).1.length ≤ 10000) :
    Calls Tryd.prog 11 #[.string ⟨l.toArray⟩] w fun e w' => ∃ v, e = .returned (.tuple #[v, .int .i64 (ringE l)]) ∧ w'.ownsRow w.heap.size 9 1 v (ringA l).length (strC (ringA l)) ∧ Below w.heap.size w w' := by
  by_cases hl : 4000 < l.length
  · have e : chkP l = (1, 0) := by unfold chkP; rw [if_pos hl]
    have e1 : ringE l = 1 := by unfold ringE; rw [e]; rfl
    have e2 : ringA l = [] := by unfold ringA; rw [e]; rfl
    rw [e1, e2]
    refine (StRing_err l w 1 (.inl rfl) 0 (BookRead_long l w hmax hl)).mono ?_
    rintro e w' ⟨h1, h2⟩
    exact ⟨_, h1, own_nilS _ _, h2⟩
  · have hR := BookRead_any l w (by omega)
    have hg := hg (by omega)
    have hm := hm (by omega)
    cases hf : (readB l).2.2
    · have e : chkP l = checkL (readB l).1 := by unfold chkP; rw [if_neg hl, hf]
      have HE1 : Hid (ringE l = if (checkL (readB l).1).1 = 0 then 9 else if (checkL (readB l).1).1 = 7 then 0 else (checkL (readB l).1).1) := by unfold Hid ringE; rw [e]
      have HE2 : Hid (ringA l = if (checkL (readB l).1).1 = 7 then ringL (readB l).1 else []) := by unfold Hid ringA; rw [e]
      have hg := hg hf
      have HR := hideP2 hR
      have HRI : Hid (∀ w' e, ReadIs w w' l e → ∃ lv ls, e = .returned (readV lv 0 0) ∧ ls.map Prod.fst = (readB l).1 ∧ LinesM w' w.heap.size lv ls) := by
        intro w' e h; unfold ReadIs at h; rw [hf] at h; exact h
      generalize ringE l = ansE at *
      generalize ringA l = ansA at *
      generalize (readB l).1 = F at *
      have HG := hideP2 hg
      have HMn := hideP2 hm
      clear hR hg hm hf e
      generalize hck : checkL F = ck at *
      have HCk := hideP2 hck
      clear hck
      obtain ⟨ck1, ck2⟩ := ck
      obtain ⟨rl, hrl⟩ : ∃ rl, rl = ringL F := ⟨_, rfl⟩
      have HRl := hideP2 hrl
      rw [← hrl] at HE2
      clear hrl
      go_enter Tryd.func11, Tryd.ntmps11
      go_wp2_with fail
      refine HR.out.mono ?_
      rintro e w1 ⟨hri, hb⟩
      obtain ⟨lv, ls, rfl, hmap, hlin⟩ := HRI.out _ _ hri
      have HB := hideP2 hb
      have hs := hb.size
      have hLn : ls.length ≤ 10000 := by have h9 := congrArg List.length hmap; rw [List.length_map] at h9; rw [h9]; exact HMn.out
      obtain ⟨la, lc, rfl, hlc, hlv⟩ := lin_of hlin (fun x hx => HG.out _ (by rw [← hmap]; exact List.mem_map.2 ⟨x, hx, rfl⟩)) hLn
      have HCl : Hid (∀ o, Calls Tryd.prog 14 #[.slice la ls.length lc] (w1.alloc o) fun e w' => e = .returned (faultV (ck1, ck2)) ∧ Below (w1.alloc o).heap.size (w1.alloc o) w') := fun o => by
        have := Lines_s (w1.alloc o) la lc ls hlc (hlv.below ((Below.refl _ _).alloc (Nat.le_refl _) o) (Nat.le_refl _))
        rw [show fs ls = F from hmap, HCk.out] at this
        exact this
      have HRg : Hid (∀ w', Below w1.heap.size w1 w' → Calls Tryd.prog 24 #[.slice la ls.length lc] w' fun e w'' => ∃ v, e = .returned v ∧ w''.ownsRow w'.heap.size 9 1 v rl.length (strC rl) ∧ Below w'.heap.size w' w'') := fun w' hb => by
        have := LRing_s w' la lc ls (hlv.below hb (Nat.le_refl _))
        rw [show fs ls = F from hmap, ← HRl.out] at this
        exact this
      clear hb hri hlin hlv hmap HR HRI HG HMn HCk HRl
      unfold readV
      go_wp2_with fail
      refine (HCl.out _).mono ?_
      rintro e w2 ⟨rfl, hb2⟩
      have HBr : Hid (∀ o, Below w1.heap.size w1 ((w2.alloc o))) := fun o => by
        have h1 := ((Below.refl w1.heap.size w1).alloc (Nat.le_refl _) _).trans (hb2.mono (by simp))
        exact h1.alloc h1.size o
      have q2 : w2.cell? ⟨w1.heap.size, 0, none⟩ = some (.slice la ls.length lc) := by
        rw [hb2.cell (p := ⟨w1.heap.size, 0, none⟩) (lt_end _ _)]; exact (cell_row (hb_end _ _) 0).trans rfl
      have hlt2 : w1.heap.size < w2.heap.size := Nat.lt_of_lt_of_le (lt_end _ _) hb2.size
      have HB2 : Hid (Below w.heap.size w w2) := (HB.out.alloc hs _).trans (hb2.mono (by simp; omega))
      have hs2 := HB2.out.size
      clear HCl hb2
      unfold faultV
      by_cases k0 : ck1 = 0
      · subst k0
        have A1 : Hid (ansE = 9) := by have := HE1.out; rw [if_pos rfl] at this; exact this
        have A2 : Hid (ansA = []) := by have := HE2.out; rw [if_neg (by decide)] at this; exact this
        clear HE1 HE2
        go_wp2_with fail
        go_ret2
        refine ⟨_, ret_vi A1.out.symm, ?_, HB2.out.alloc hs2 _⟩
        rw [A2.out]; exact own_nilS _ _
      · have b0 : (ck1 == 0) = false := by simpa using k0
        by_cases k7 : ck1 = 7
        · subst k7
          have A1 : Hid (ansE = 0) := by have := HE1.out; rw [if_neg (by decide), if_pos rfl] at this; exact this
          have A2 : Hid (ansA = rl) := by have := HE2.out; rw [if_pos rfl] at this; exact this
          clear HE1 HE2 k0 b0
          go_wp2_with fail
          refine (HRg.out _ (HBr.out _)).mono ?_
          rintro e w3 ⟨v3, rfl, hown3, hb3⟩
          have HB3 : Hid (Below w.heap.size w w3) := (HB2.out.alloc hs2 _).trans (hb3.mono (by simp; omega))
          have HO3 := hideP2 (owns_base2 (b' := w.heap.size) hown3 (by simp; omega))
          clear hb3 hown3
          go_wp2_with fail
          go_ret2
          refine ⟨_, ret_vi A1.out.symm, ?_, HB3.out⟩
          rw [A2.out]; exact HO3.out
        · have A1 : Hid (ansE = ck1) := by have := HE1.out; rw [if_neg k0, if_neg k7] at this; exact this
          have A2 : Hid (ansA = []) := by have := HE2.out; rw [if_neg k7] at this; exact this
          have b7 : (ck1 != 7) = true := by simpa using k7
          clear HE1 HE2 k0 k7
          go_wp2_with fail
          go_quiet (fail)
          go_wp2_with fail
          go_ret2
          refine ⟨_, ret_vi A1.out.symm, ?_, below_drewN (HB2.out.alloc hs2 _) _⟩
          rw [A2.out]; exact own_nilS _ _
    · have e : chkP l = (2, ((cur (toP l) (readB l).2.1).p : Int)) := by unfold chkP; rw [if_neg hl, hf]
      have e1 : ringE l = 2 := by unfold ringE; rw [e]; rfl
      have e2 : ringA l = [] := by unfold ringA; rw [e]; rfl
      rw [e1, e2]
      refine (StRing_err l w 2 (.inr rfl) ((cur (toP l) (readB l).2.1).p : Int) (hR.mono ?_)).mono ?_
      · rintro e w' ⟨h1, h2⟩
        unfold ReadIs at h1
        rw [hf] at h1
        exact ⟨h1, h2⟩
      · rintro e w' ⟨h1, h2⟩
        exact ⟨_, h1, own_nilS _ _, h2⟩
end Go.Proofs.YtnbpdffdnphbeaaDoor
