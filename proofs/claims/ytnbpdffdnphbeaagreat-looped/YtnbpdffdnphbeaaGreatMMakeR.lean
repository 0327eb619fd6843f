/- What makeRule of the program's model gives. -/
import Derived.Test.YtnbpdffdnphbeaaGreatMMake1
import Derived.Test.YtnbpdffdnphbeaaGreatCkMany
import Derived.Deep.RegionHeld3
namespace Go.Proofs.YtnbpdffdnphbeaaGreat
open Go.RowKit

def ruC (lab : Bs) (cc : Int) (sv gv : Value) (ro : Int) : Array Value := #[.string ⟨lab.toArray⟩, .int .i64 cc, sv, gv, .int .i64 ro]
def ruO (lab : Bs) (cc : Int) (sv gv : Value) (ro : Int) : Obj := .cells (ruC lab cc sv gv ro) 95 (0, 0)
theorem ru_cell {w : World} {b : Nat} {lab : Bs} {cc ro : Int} {sv gv : Value} (h : w.heap[b]? = some (ruO lab cc sv gv ro)) : w.cell? ⟨b, 2, none⟩ = some sv ∧ w.cell? ⟨b, 3, none⟩ = some gv ∧ ∀ j, w.frozen? ⟨b, j, none⟩ = false := by
  unfold ruO ruC at h
  exact ⟨(cell_row h 2).trans rfl, (cell_row h 3).trans rfl, fun j => by simp [World.frozen?, h]⟩
theorem ru_set2 {w : World} {b : Nat} {lab : Bs} {cc ro : Int} {sv gv v : Value} (h : w.heap[b]? = some (ruO lab cc sv gv ro)) : (w.setCell ⟨b, 2, none⟩ v).heap[b]? = some (ruO lab cc v gv ro) := by
  unfold ruO ruC at h ⊢; rw [heap_setCell_same w b 2 _ _ _ h]; simp
theorem ru_set3 {w : World} {b : Nat} {lab : Bs} {cc ro : Int} {sv gv v : Value} (h : w.heap[b]? = some (ruO lab cc sv gv ro)) : (w.setCell ⟨b, 3, none⟩ v).heap[b]? = some (ruO lab cc sv v ro) := by
  unfold ruO ruC at h ⊢; rw [heap_setCell_same w b 3 _ _ _ h]; simp
def fill5 (w : World) (b : Nat) (v0 v1 v2 v3 v4 : Value) : World := ((((w.setCell ⟨b, 0, none⟩ v0).setCell ⟨b, 1, none⟩ v1).setCell ⟨b, 2, none⟩ v2).setCell ⟨b, 3, none⟩ v3).setCell ⟨b, 4, none⟩ v4
theorem ru_fill {w : World} {b : Nat} {lab : Bs} {cc ro : Int} {sv gv : Value} (h : w.heap[b]? = some (ruO lab cc sv gv ro)) (lab' : Bs) (cc' ro' : Int) (sv' gv' : Value) : (fill5 w b (.string ⟨lab'.toArray⟩) (.int .i64 cc') sv' gv' (.int .i64 ro')).heap[b]? = some (ruO lab' cc' sv' gv' ro') := by
  unfold fill5 ruO ruC at *
  have h1 : (w.setCell ⟨b, 0, none⟩ (.string ⟨lab'.toArray⟩)).heap[b]? = some (.cells #[.string ⟨lab'.toArray⟩, .int .i64 cc, sv, gv, .int .i64 ro] 95 (0, 0)) := by rw [heap_setCell_same w b 0 _ _ _ h]; simp
  have h2 : ((w.setCell ⟨b, 0, none⟩ (.string ⟨lab'.toArray⟩)).setCell ⟨b, 1, none⟩ (.int .i64 cc')).heap[b]? = some (.cells #[.string ⟨lab'.toArray⟩, .int .i64 cc', sv, gv, .int .i64 ro] 95 (0, 0)) := by rw [heap_setCell_same _ b 1 _ _ _ h1]; simp
  have h3 : (((w.setCell ⟨b, 0, none⟩ (.string ⟨lab'.toArray⟩)).setCell ⟨b, 1, none⟩ (.int .i64 cc')).setCell ⟨b, 2, none⟩ sv').heap[b]? = some (.cells #[.string ⟨lab'.toArray⟩, .int .i64 cc', sv', gv, .int .i64 ro] 95 (0, 0)) := by rw [heap_setCell_same _ b 2 _ _ _ h2]; simp
  have h4 : ((((w.setCell ⟨b, 0, none⟩ (.string ⟨lab'.toArray⟩)).setCell ⟨b, 1, none⟩ (.int .i64 cc')).setCell ⟨b, 2, none⟩ sv').setCell ⟨b, 3, none⟩ gv').heap[b]? = some (.cells #[.string ⟨lab'.toArray⟩, .int .i64 cc', sv', gv', .int .i64 ro] 95 (0, 0)) := by rw [heap_setCell_same _ b 3 _ _ _ h3]; simp
  rw [heap_setCell_same _ b 4 _ _ _ h4]; simp
theorem fill_below {B b : Nat} {a w : World} (h : Below B a w) (hb : B ≤ b) (v0 v1 v2 v3 v4 : Value) : Below B a (fill5 w b v0 v1 v2 v3 v4) :=
  ((((h.setCell (p := ⟨b, 0, none⟩) hb _).setCell (p := ⟨b, 1, none⟩) hb _).setCell (p := ⟨b, 2, none⟩) hb _).setCell (p := ⟨b, 3, none⟩) hb _).setCell (p := ⟨b, 4, none⟩) hb _
theorem ru_all {w : World} {b : Nat} {lab : Bs} {cc ro : Int} {sv gv : Value} (h : w.heap[b]? = some (ruO lab cc sv gv ro)) : (w.cell? ⟨b, 0, none⟩ = some (.string ⟨lab.toArray⟩) ∧ w.cell? ⟨b, 1, none⟩ = some (.int .i64 cc) ∧ w.cell? ⟨b, 2, none⟩ = some sv ∧ w.cell? ⟨b, 3, none⟩ = some gv ∧ w.cell? ⟨b, 4, none⟩ = some (.int .i64 ro)) ∧ (w.frozen? ⟨b, 0, none⟩ = false ∧ w.frozen? ⟨b, 1, none⟩ = false ∧ w.frozen? ⟨b, 2, none⟩ = false ∧ w.frozen? ⟨b, 3, none⟩ = false ∧ w.frozen? ⟨b, 4, none⟩ = false) := by
  unfold ruO ruC at h
  have hf : ∀ j, w.frozen? ⟨b, j, none⟩ = false := fun j => by simp [World.frozen?, h]
  exact ⟨⟨(cell_row h 0).trans rfl, (cell_row h 1).trans rfl, (cell_row h 2).trans rfl, (cell_row h 3).trans rfl, (cell_row h 4).trans rfl⟩, hf 0, hf 1, hf 2, hf 3, hf 4⟩
theorem ruInfo (lab : Bs) (cc : Int) (sv gv : Value) (ro : Int) : (Tryz.prog.info? 95).map (·.size) = some (ruC lab cc sv gv ro).size := by show _ = some 5; kernel_rfl
theorem infoMPart : (Tryz.prog.info? 158).map (fun i => (i.zero, i.size, i.bytes)) = some (some (.agg #[.int .i64 0, .int .i64 0, .int .i64 0]), 3, 24) := by kernel_rfl
theorem infoMNode : (Tryz.prog.info? 161).map (fun i => (i.zero, i.size, i.bytes)) = some (some (.agg #[.int .i64 0, .int .i64 0, .int .i64 0, .int .i64 0, .bool false, .int .i64 0, .int .i64 0, .bool false, .bool false, .bool false]), 10, 64) := by kernel_rfl
theorem CelT.keeps {w w' : World} {t : TypeId} {a : Option Addr} {xs : List Value} {R : Nat} {cs : Array Value} {t' : TypeId} {fz : Nat × Nat} (h : CelT w t a xs) (hk : Keeps w.heap.size R w w') (hR : w.heap[R]? = some (.cells cs t' fz)) (hne : t ≠ t') : CelT w' t a xs :=
  h.keep fun g cs' fz' hg => hk.block g (hlt_of hg) (fun e => by
    subst e; rw [hR] at hg
    simp only [Option.some.injEq, Obj.cells.injEq] at hg
    exact hne hg.2.1.symm)
theorem grown_at {w w2 : World} {b B : Nat} {v : Value} (hg : w.grownBy w2 v.ownBlock) {x : Obj} (h : w.heap[b]? = some x) (hr : ∀ k, v.ownBlock = some k → B ≤ k) (hB : b < B) : w2.heap[b]? = some x := by
  rw [hg.block b (hlt_of h) (fun e => by have := hr b e.symm; omega)]; exact h
theorem owns_setR {w : World} {B b j k n : Nat} {t : TypeId} {v u : Value} {xs : List Value} (h : w.ownsRow B t k v n xs) (hb : b < B) : (w.setCell ⟨b, j, none⟩ u).ownsRow B t k v n xs :=
  owns_keeps h ((Keeps.refl w.heap.size b w).setCell (p := ⟨b, j, none⟩) (.inr rfl) u) hb
theorem map_take_snoc {α β : Type} (f : α → List Value) (g : β → α) (L : List β) (i : Nat) (d : β) (h : i < L.length) : ((L.take (i + 1)).map g).flatMap f = ((L.take i).map g).flatMap f ++ f (g (L.getD i d)) := by
  have : L.take (i + 1) = L.take i ++ [L.getD i d] := by rw [List.take_add_one]; simp [List.getD, h]
  rw [this]; simp

/-- What makeRule answers: the rule, and its rows in memory. -/
def RuleIs (r : MRule) (w w' : World) (e : Ending) : Prop := ∃ y : MX, y.1 = r ∧ e = .returned (mruleV y) ∧ MRulC w' y ∧ Below w.heap.size w w'
set_option maxRecDepth 100000 in
set_option maxHeartbeats 10000000 in
theorem makeRule_s (w : World) (mb o : Nat) (I : List MInp) (C : List (Bs × Nat)) (h : NmsV w mb o I C) (x : PLine) (sa na : Option Addr) (sc nc : Nat) (hS : ParV w sa x.sum) (hN : NodV w na x.nd) (hg : GoodP x) (hnn : x.nd.length ≤ 10000) :
    Calls Tryz.prog 61 #[.pointer (some ⟨mb, o, none⟩), lineV (.slice sa x.sum.length sc) (.slice na x.nd.length nc) x] w fun e w' => RuleIs (mruleOf (I.map MInp.name) (C.map Prod.fst) x) w w' e := by
  obtain ⟨i0, hi0, hz0, hz1, hz2⟩ := info_parts infoMPart
  obtain ⟨j0, hj0, hj1, hj2, hj3⟩ := info_parts infoMNode
  have hs1 := hS.few
  have hn1 := hN.few
  have hsn := hg.sumN
  have HS := hideP2 hS
  have HN := hideP2 hN
  have HNm := hideP2 h
  have HSu := hideP2 hg.sums
  have HOw := hideP2 (fun w' => own_s w' x.name)
  have HCo := hideP2 (fun w' (hb : Below w.heap.size w w') => (h.below hb).findC x.conc)
  have HMp := hideP2 (fun w' (hb : Below w.heap.size w w') y hy => makePart_s w' mb o I C (h.below hb) y hy)
  have HMn := hideP2 (fun w' (hb : Below w.heap.size w w') y => makeNode_s w' mb o I C (h.below hb) y)
  have HA : Hid (mruleOf (I.map MInp.name) (C.map Prod.fst) x = ⟨x.name, findN (C.map Prod.fst) x.conc, x.sum.map (mpartOf (I.map MInp.name) (C.map Prod.fst)), x.nd.map (mnodeOf (I.map MInp.name) (C.map Prod.fst)), x.root⟩) := rfl
  generalize mruleOf (I.map MInp.name) (C.map Prod.fst) x = ans at *
  generalize mpartOf (I.map MInp.name) (C.map Prod.fst) = fp at *
  generalize mnodeOf (I.map MInp.name) (C.map Prod.fst) = fn at *
  obtain ⟨kd, n1, lo, hi', cc, S, N, ro, te, de, lw⟩ := x
  simp only at hs1 hn1 hsn hnn HS HN HSu HOw HCo HA
  generalize findN (C.map Prod.fst) cc = fc at *
  clear h hS hN hg
  simp only [lineV]
  obtain ⟨w0, hw0⟩ : ∃ w0, w0 = (w.alloc (.cells #[.int .i64 kd, .string ⟨n1.toArray⟩, .int .i64 lo, .int .i64 hi', .string ⟨cc.toArray⟩, .slice sa S.length sc, .slice na N.length nc, .int .i64 ro, .int .i64 te, .int .i64 de, .string ⟨lw.toArray⟩] 83)).alloc (.cells #[.string ⟨#[]⟩, .int .i64 0, .slice none 0 0, .slice none 0 0, .int .i64 0] 95) := ⟨_, rfl⟩
  have HB0 : Hid (Below w.heap.size w w0) := by rw [hw0]; exact ((Below.refl _ _).alloc (Nat.le_refl _) _).alloc (by simp) _
  have hL0 : w0.heap[w.heap.size]? = some (.cells #[.int .i64 kd, .string ⟨n1.toArray⟩, .int .i64 lo, .int .i64 hi', .string ⟨cc.toArray⟩, .slice sa S.length sc, .slice na N.length nc, .int .i64 ro, .int .i64 te, .int .i64 de, .string ⟨lw.toArray⟩] 83 (0, 0)) := by rw [hw0]; exact hb_new (hb_end _ _)
  have HR0 : Hid (w0.heap[w.heap.size + 1]? = some (ruO [] 0 (.slice none 0 0) (.slice none 0 0) 0)) := by rw [hw0]; exact hb_endK _ _ _ (by simp)
  have hs0 : w0.heap.size = w.heap.size + 2 := by rw [hw0]; simp
  have HLc : Hid (∀ w', Below w0.heap.size w0 w' → w'.cell? ⟨w.heap.size, 1, none⟩ = some (.string ⟨n1.toArray⟩) ∧ w'.cell? ⟨w.heap.size, 4, none⟩ = some (.string ⟨cc.toArray⟩) ∧ w'.cell? ⟨w.heap.size, 5, none⟩ = some (.slice sa S.length sc) ∧ w'.cell? ⟨w.heap.size, 6, none⟩ = some (.slice na N.length nc) ∧ w'.cell? ⟨w.heap.size, 7, none⟩ = some (.int .i64 ro)) := fun w' hb => by
    have h1 : w'.heap[w.heap.size]? = _ := (hb.block _ (by omega)).trans hL0
    exact ⟨(cell_row h1 1).trans rfl, (cell_row h1 4).trans rfl, (cell_row h1 5).trans rfl, (cell_row h1 6).trans rfl, (cell_row h1 7).trans rfl⟩
  have HW0 := hideP2 hw0
  have HBx : Hid (∀ w', Below w0.heap.size w0 w' → Below w.heap.size w w') := fun w' hb => HB0.out.trans (hb.mono (by omega))
  have hsl : w.heap.size + 2 ≤ w0.heap.size := by omega
  have HX4 : Hid (∀ (w4 : World), Below (w0.drew.alloc (.cells #[.string ⟨#[]⟩, .int .i64 0, .slice none 0 0, .slice none 0 0, .int .i64 0] 95)).heap.size (w0.drew.alloc (.cells #[.string ⟨#[]⟩, .int .i64 0, .slice none 0 0, .slice none 0 0, .int .i64 0] 95)) w4 → Below w0.heap.size w0 w4 ∧ w4.heap[w0.heap.size]? = some (ruO [] 0 (.slice none 0 0) (.slice none 0 0) 0)) := fun w4 hb4 => by
    refine ⟨((Below.drew (Below.refl _ _)).alloc (Nat.le_refl _) _).trans (hb4.mono (Nat.le_of_lt (lt_end w0.drew _))), ?_⟩
    exact (hb4.block w0.heap.size (lt_end w0.drew _)).trans (hb_end w0.drew _)
  have HX5 : Hid (∀ (w4 w5 : World), Below w4.heap.size w4 w5 → w4.heap[w0.heap.size]? = some (ruO [] 0 (.slice none 0 0) (.slice none 0 0) 0) → w5.heap[w0.heap.size]? = some (ruO [] 0 (.slice none 0 0) (.slice none 0 0) 0)) := fun w4 w5 hb h4 => by rw [hb.block _ (hlt_of h4)]; exact h4
  have HX6 : Hid (∀ (w4 : World), Below w0.heap.size w0 w4 → Below w0.heap.size w0 (w4.alloc (.cells #[.string ⟨#[]⟩, .int .i64 0, .slice none 0 0, .slice none 0 0, .int .i64 0] 95)) ∧ (w4.alloc (.cells #[.string ⟨#[]⟩, .int .i64 0, .slice none 0 0, .slice none 0 0, .int .i64 0] 95)).heap[w4.heap.size]? = some (ruO [] 0 (.slice none 0 0) (.slice none 0 0) 0)) := fun w4 hb => ⟨hb.alloc hb.size _, hb_end _ _⟩
  have HX7 : Hid (∀ (w4 w5 : World), Below (w4.alloc (.cells #[.string ⟨#[]⟩, .int .i64 0, .slice none 0 0, .slice none 0 0, .int .i64 0] 95)).heap.size (w4.alloc (.cells #[.string ⟨#[]⟩, .int .i64 0, .slice none 0 0, .slice none 0 0, .int .i64 0] 95)) w5 → (w4.alloc (.cells #[.string ⟨#[]⟩, .int .i64 0, .slice none 0 0, .slice none 0 0, .int .i64 0] 95)).heap[w4.heap.size]? = some (ruO [] 0 (.slice none 0 0) (.slice none 0 0) 0) → w5.heap[w4.heap.size]? = some (ruO [] 0 (.slice none 0 0) (.slice none 0 0) 0)) := fun w4 w5 hb h4 => by rw [hb.block _ (hlt_of h4)]; exact h4
  have ls0 : w.heap.size < w0.heap.size := by omega
  have ns0 : w0.heap.size ≠ w.heap.size := by omega
  clear hL0 hw0 hs0
  go_enter Tryz.func61, Tryz.ntmps61
  go_upto_region 1 with fail
  rw [← HW0.out]
  clear HW0
  obtain ⟨a1, a4, a5, a6, a7⟩ := HLc.out w0 (Below.refl _ _)
  go_cut [5] from 12 to 58 (fun v5 wx => ∃ rb, v5 = .pointer (some ⟨rb, 0, none⟩) ∧ Hid (wx.heap[rb]? = some (ruO n1 fc (.slice none 0 0) (.slice none 0 0) ro)) ∧ Hid (Below w0.heap.size w0 wx) ∧ w0.heap.size ≤ rb)
  case first =>
    go_region_held3 (fun w' => w'.cell? ⟨w.heap.size, 1, none⟩ = some (.string ⟨n1.toArray⟩) ∧ w'.cell? ⟨w.heap.size, 4, none⟩ = some (.string ⟨cc.toArray⟩) ∧ w'.cell? ⟨w.heap.size, 7, none⟩ = some (.int .i64 ro)) (go_keep) (first
      | (go_at_call 60; refine (HOw.out _).mono ?_; rintro e w4 ⟨rfl, hb4⟩; first
          | (have hB4 : Below w0.heap.size w0 w4 := (Below.drew (Below.refl _ _)).trans hb4; have hs4 := hB4.size; have ls4 : w.heap.size < w4.heap.size := (by omega); have ns4 : w4.heap.size ≠ w.heap.size := (by omega); obtain ⟨b1, b4, b5, b6, b7⟩ := HLc.out w4 hB4)
          | (obtain ⟨hB4, RZ4⟩ := HX4.out w4 hb4; have hs4 := hB4.size; have ls4 : w.heap.size < w4.heap.size := (by omega); have ns4 : w4.heap.size ≠ w.heap.size := (by omega); obtain ⟨b1, b4, b5, b6, b7⟩ := HLc.out w4 hB4))
      | (go_at_call 86; first
          | (refine (HCo.out w4 (HBx.out _ hB4)).mono ?_; rintro e w5 ⟨rfl, hb5⟩; have hB5 : Below w0.heap.size w0 w5 := hB4.trans (hb5.mono hB4.size); have hs5 := hB5.size; have ls5 : w.heap.size < w5.heap.size := (by omega); have ns5 : w5.heap.size ≠ w.heap.size := (by omega); obtain ⟨d1, d4, d5, d6, d7⟩ := HLc.out w5 hB5; (try (have RZ5 := HX5.out w4 w5 hb5 RZ4; obtain ⟨⟨o0, o1, o2, o3, o4⟩, p0, p1, p2, p3, p4⟩ := ru_all RZ5)))
          | (obtain ⟨hBA, RZA⟩ := HX6.out w4 hB4; refine (HCo.out _ (HBx.out _ hBA)).mono ?_; rintro e w5 ⟨rfl, hb5⟩; have hB5 : Below w0.heap.size w0 w5 := hBA.trans (hb5.mono hBA.size); have hs5 := hB5.size; have ls5 : w.heap.size < w5.heap.size := (by omega); have ns5 : w5.heap.size ≠ w.heap.size := (by omega); obtain ⟨d1, d4, d5, d6, d7⟩ := HLc.out w5 hB5; have RZ6 := HX7.out w4 w5 hb5 RZA; obtain ⟨⟨o0, o1, o2, o3, o4⟩, p0, p1, p2, p3, p4⟩ := ru_all RZ6)))
    all_goals
      go_wp2_with fail
      go_meet
      first
        | exact ⟨w0.heap.size, rfl, hideP2 (ru_fill RZ5 n1 fc ro (.slice none 0 0) (.slice none 0 0)), hideP2 (fill_below hB5 (Nat.le_refl _) _ _ _ _ _), Nat.le_refl _⟩
        | exact ⟨w4.heap.size, rfl, hideP2 (ru_fill RZ6 n1 fc ro (.slice none 0 0) (.slice none 0 0)), hideP2 (fill_below hB5 hs4 _ _ _ _ _), hs4⟩
        | exact ⟨w5.heap.size, rfl, hideP2 (hb_end w5 _), hideP2 (hB5.alloc hs5 _), hs5⟩
  case rest =>
    obtain ⟨rb, rfl, HRb, HBc, hrb⟩ := hcut
    clear a1 a4 a5 a6 a7 HOw HCo HX4 HX5 HX6 HX7
    obtain ⟨-, -, a5, a6, -⟩ := HLc.out wc HBc.out
    have hsc := HBc.out.size
    have lrb := hlt_of HRb.out
    have HBwc := hideP2 (HBx.out wc HBc.out)
    go_wp2_with fail
    go_loopw [26] (fun iv wr => ∃ (i : Nat) (sv : Value), i ≤ S.length ∧ iv = .int .i64 i ∧ Hid (wr.heap[rb]? = some (ruO n1 fc sv (.slice none 0 0) ro)) ∧ Hid (wr.ownsRow wc.heap.size 158 3 sv i (((S.take i).map fp).flatMap mpartC)) ∧ Hid (Keeps wc.heap.size rb wc wr)) (fun iv _ => S.length - (intOf iv).toNat)
    case atStart => exact ⟨0, _, Nat.zero_le _, rfl, HRb, hideP2 (own_nil _ _ _ _), hideP2 (Keeps.refl _ _ _)⟩
    case round =>
      obtain ⟨i, sv, hi, rfl, HR, HO, HK⟩ := hrel
      have hszr := HK.out.size
      have HBw : Hid (Below w.heap.size w wr) := HBwc.out.trans (HK.out.below (by omega) (by omega))
      by_cases hlt : i < S.length
      · obtain ⟨g, cur, rfl, hp⟩ := (HS.out.below HBw.out (Nat.le_refl _)).blk (by omega)
        obtain ⟨d0, d1, d2, d3⟩ := hp.cells hlt
        have hgl := hp.lt
        obtain ⟨r2, -, rf⟩ := ru_cell HR.out
        have lrr := hlt_of HR.out
        have HTk := hideP2 (map_take_snoc mpartC fp S i xz hlt)
        rw [show S.getD i xz = xAt S i from rfl] at HTk
        have hnum := HSu.out i hlt
        have HMp1 := hideP2 (fun w' hb => HMp.out w' hb (xAt S i) hnum)
        have mg : wr.heap.size ≠ g := by omega
        have mr : wr.heap.size ≠ rb := by omega
        have HAft : Hid (∀ (oo : Obj) (w4 : World), Below (wr.alloc oo).heap.size (wr.alloc oo) w4 → w4.ownsRow wc.heap.size 158 3 sv i (((S.take i).map fp).flatMap mpartC) ∧ w4.heap[rb]? = some (ruO n1 fc sv (.slice none 0 0) ro) ∧ Keeps wc.heap.size rb wc w4 ∧ wr.heap.size < w4.heap.size ∧ w4.cell? ⟨rb, 2, none⟩ = some sv ∧ rb < w4.heap.size ∧ w4.heap.size ≠ rb ∧ w4.heap.size + 1 ≠ rb) := fun oo w4 hb4 => by
          have h1 : Below wr.heap.size wr w4 := ((Below.refl _ _).alloc (Nat.le_refl _) _).trans (hb4.mono (Nat.le_of_lt (lt_end _ _)))
          have h2 : w4.heap[rb]? = some (ruO n1 fc sv (.slice none 0 0) ro) := by rw [h1.block _ lrr]; exact HR.out
          have h3 := hlt_of h2
          exact ⟨owns_sameP HO.out h1, h2, HK.out.trans (Keeps.of_below (h1.mono hszr)), Nat.lt_of_lt_of_le (lt_end _ _) hb4.size, (ru_cell h2).1, h3, by omega, by omega⟩
        have HBa : Hid (∀ oo, Below w.heap.size w (wr.alloc oo)) := fun oo => HBw.out.alloc HBw.out.size oo
        clear hp rf hnum
        generalize xAt S i = y at *
        generalize fp y = fy at *
        obtain ⟨mi, st, nu, nm⟩ := y
        obtain ⟨y0, y1, y2⟩ := fy
        simp only [partV, mpartV] at HMp1
        simp only [mpartC] at HTk
        simp only at d0 d1 d2 d3
        go_wp2_with fail
        refine (HMp1.out _ (HBa.out _)).mono ?_
        rintro e w4 ⟨rfl, hb4⟩
        obtain ⟨hO4, hR4, hK4, hs4, c42, l4, m4, m41⟩ := HAft.out _ w4 hb4
        clear hb4
        go_wp2_with (at_builtin; refine wpList_append_own _ rfl _ _ 92 rfl wc.heap.size 158 i0 _ 3 24 Tryz.underlying92 hi0 hz0 hz1 hz2 rfl (by decide) _ _ _ rfl ((hO4.alloc _).alloc _) ⟨w4.heap.size + 1, 0, none⟩ 1 1 [.int .i64 y0, .int .i64 y1, .int .i64 y2] rfl rfl ?c1 ?c2 ?c3 ?c4 ?c5 ?_)
        case c1 => exact news_cellsH _ _ _ _ rfl (by simp)
        case c2 => intro u hu; simp at hu; rcases hu with rfl | rfl | rfl <;> rfl
        case c3 => unfold maxLen; omega
        case c4 => omega
        case c5 => simp; omega
        intro v' w5 hown5 hgrow5 _
        obtain ⟨va', vc', rfl⟩ := own_sliceN hown5
        have hR5 : w5.heap[rb]? = some (ruO n1 fc sv (.slice none 0 0) ro) := grown_at hgrow5 (hb_new (hb_new hR4)) (own_block_le hO4) lrb
        obtain ⟨c52, -, f5⟩ := ru_cell hR5
        have f52 := f5 2
        have HO5 : Hid ((w5.setCell ⟨rb, 2, none⟩ (.slice va' (i + 1) vc')).ownsRow wc.heap.size 158 3 (.slice va' (i + 1) vc') (i + 1) (((S.take (i + 1)).map fp).flatMap mpartC)) := by unfold Hid; rw [HTk.out, List.map_take]; exact owns_setR hown5 lrb
        have HK5 : Hid (Keeps wc.heap.size rb wc (w5.setCell ⟨rb, 2, none⟩ (.slice va' (i + 1) vc'))) := (((hK4.alloc (by omega) _).alloc (by simp; omega) _).grown hgrow5 (by simp; omega) (own_block_le hO4)).setCell (p := ⟨rb, 2, none⟩) (.inr rfl) _
        have HR5 : Hid ((w5.setCell ⟨rb, 2, none⟩ (.slice va' (i + 1) vc')).heap[rb]? = some (ruO n1 fc (.slice va' (i + 1) vc') (.slice none 0 0) ro)) := ru_set2 hR5
        clear hown5 hgrow5 f5 hO4 hK4
        go_wp2_with fail
        go_roundw
        case rel => exact ⟨i + 1, .slice va' (i + 1) vc', by omega, by go_num, HR5, HO5, HK5⟩
        case measure => simp [intOf]; omega
      · obtain rfl : i = S.length := by omega
        have ii : ¬ (S.length : Int) < (S.length : Int) := by omega
        rw [List.take_length] at HO
        obtain ⟨pa, pc, rfl, hcp⟩ := own_celT HO.out
        have HCp := hideP2 hcp
        have b6 : wr.cell? ⟨w.heap.size, 6, none⟩ = some (.slice na N.length nc) := by rw [HK.out.cell (p := ⟨w.heap.size, 6, none⟩) (show w.heap.size < wc.heap.size by omega) (show w.heap.size ≠ rb by omega)]; exact a6
        have HRs : Hid (wr.heap[w.heap.size + 1]? = some (ruO [] 0 (.slice none 0 0) (.slice none 0 0) 0)) := by unfold Hid; rw [HK.out.block _ (show w.heap.size + 1 < wc.heap.size by omega) (show w.heap.size + 1 ≠ rb by omega), HBc.out.block _ (by omega)]; exact HR0.out
        have lrr := hlt_of HR.out
        clear hcp HO a5 a6
        generalize hwr2 : wr = wr2 at *
        clear hwr2
        go_wp2_with fail
        go_loopw [44] (fun iv wr => ∃ (i : Nat) (gv : Value), i ≤ N.length ∧ iv = .int .i64 i ∧ Hid (wr.heap[rb]? = some (ruO n1 fc (.slice pa S.length pc) gv ro)) ∧ Hid (wr.ownsRow wr2.heap.size 161 10 gv i (((N.take i).map fn).flatMap mnodeC)) ∧ Hid (Keeps wr2.heap.size rb wr2 wr)) (fun iv _ => N.length - (intOf iv).toNat)
        case atStart => exact ⟨0, _, Nat.zero_le _, rfl, HR, hideP2 (own_nil _ _ _ _), hideP2 (Keeps.refl _ _ _)⟩
        case round =>
          obtain ⟨i, gv, hi, rfl, HRn, HOn, HKn⟩ := hrel
          have hszn := HKn.out.size
          have HBwn : Hid (Below w.heap.size w wr) := HBw.out.trans (HKn.out.below (by omega) (by omega))
          by_cases hln : i < N.length
          · obtain ⟨g, cur, rfl, hp⟩ := (HN.out.below HBwn.out (Nat.le_refl _)).blk (by omega)
            obtain ⟨d0, d1, d2, d3, d4, d5, d6⟩ := hp.cells hln
            have hgl := hp.lt
            obtain ⟨-, r3, rf⟩ := ru_cell HRn.out
            have lrn := hlt_of HRn.out
            have HTk := hideP2 (map_take_snoc mnodeC fn N i nz hln)
            rw [show N.getD i nz = nAt N i from rfl] at HTk
            have HMn1 := hideP2 (fun w' hb => HMn.out w' hb (nAt N i))
            have mg : wr.heap.size ≠ g := by omega
            have mr : wr.heap.size ≠ rb := by omega
            have HAft : Hid (∀ (oo : Obj) (w4 : World), Below (wr.alloc oo).heap.size (wr.alloc oo) w4 → w4.ownsRow wr2.heap.size 161 10 gv i (((N.take i).map fn).flatMap mnodeC) ∧ w4.heap[rb]? = some (ruO n1 fc (.slice pa S.length pc) gv ro) ∧ Keeps wr2.heap.size rb wr2 w4 ∧ wr.heap.size < w4.heap.size ∧ w4.cell? ⟨rb, 3, none⟩ = some gv ∧ rb < w4.heap.size ∧ w4.heap.size ≠ rb ∧ w4.heap.size + 1 ≠ rb) := fun oo w4 hb4 => by
              have h1 : Below wr.heap.size wr w4 := ((Below.refl _ _).alloc (Nat.le_refl _) _).trans (hb4.mono (Nat.le_of_lt (lt_end _ _)))
              have h2 : w4.heap[rb]? = some (ruO n1 fc (.slice pa S.length pc) gv ro) := by rw [h1.block _ lrn]; exact HRn.out
              have h3 := hlt_of h2
              exact ⟨owns_sameP HOn.out h1, h2, HKn.out.trans (Keeps.of_below (h1.mono hszn)), Nat.lt_of_lt_of_le (lt_end _ _) hb4.size, (ru_cell h2).2.1, h3, by omega, by omega⟩
            have HBa : Hid (∀ oo, Below w.heap.size w (wr.alloc oo)) := fun oo => HBwn.out.alloc HBwn.out.size oo
            clear hp rf
            generalize nAt N i = y at *
            generalize fn y = fy at *
            obtain ⟨kd', lf', rg', nm', mk', ot', nu'⟩ := y
            obtain ⟨y0, y1, y2, y3, y4, y5, y6, y7, y8, y9⟩ := fy
            simp only [nodeV, mnodeV] at HMn1
            simp only [mnodeC] at HTk
            simp only at d0 d1 d2 d3 d4 d5 d6
            go_wp2_with fail
            refine (HMn1.out _ (HBa.out _)).mono ?_
            rintro e w4 ⟨rfl, hb4⟩
            obtain ⟨hO4, hR4, hK4, hs4, c43, l4, m4, m41⟩ := HAft.out _ w4 hb4
            clear hb4
            go_wp2_with (at_builtin; refine wpList_append_own _ rfl _ _ 93 rfl wr2.heap.size 161 j0 _ 10 64 Tryz.underlying93 hj0 hj1 hj2 hj3 rfl (by decide) _ _ _ rfl ((hO4.alloc _).alloc _) ⟨w4.heap.size + 1, 0, none⟩ 1 1 [.int .i64 y0, .int .i64 y1, .int .i64 y2, .int .i64 y3, .bool y4, .int .i64 y5, .int .i64 y6, .bool y7, .bool y8, .bool y9] rfl rfl ?c1 ?c2 ?c3 ?c4 ?c5 ?_)
            case c1 => exact news_cellsH _ _ _ _ rfl (by simp)
            case c2 => intro u hu; simp at hu; rcases hu with rfl | rfl | rfl | rfl | rfl | rfl | rfl | rfl | rfl | rfl <;> rfl
            case c3 => unfold maxLen; omega
            case c4 => omega
            case c5 => simp; omega
            intro v' w5 hown5 hgrow5 _
            obtain ⟨va', vc', rfl⟩ := own_sliceN hown5
            have hR5 : w5.heap[rb]? = some (ruO n1 fc (.slice pa S.length pc) gv ro) := grown_at hgrow5 (hb_new (hb_new hR4)) (own_block_le hO4) lrr
            obtain ⟨-, c53, f5⟩ := ru_cell hR5
            have f53 := f5 3
            have HO5 : Hid ((w5.setCell ⟨rb, 3, none⟩ (.slice va' (i + 1) vc')).ownsRow wr2.heap.size 161 10 (.slice va' (i + 1) vc') (i + 1) (((N.take (i + 1)).map fn).flatMap mnodeC)) := by unfold Hid; rw [HTk.out, List.map_take]; exact owns_setR hown5 lrr
            have HK5 : Hid (Keeps wr2.heap.size rb wr2 (w5.setCell ⟨rb, 3, none⟩ (.slice va' (i + 1) vc'))) := (((hK4.alloc (by omega) _).alloc (by simp; omega) _).grown hgrow5 (by simp; omega) (own_block_le hO4)).setCell (p := ⟨rb, 3, none⟩) (.inr rfl) _
            have HR5 : Hid ((w5.setCell ⟨rb, 3, none⟩ (.slice va' (i + 1) vc')).heap[rb]? = some (ruO n1 fc (.slice pa S.length pc) (.slice va' (i + 1) vc') ro)) := ru_set3 hR5
            clear hown5 hgrow5 f5 hO4 hK4
            go_wp2_with fail
            go_roundw
            case rel => exact ⟨i + 1, .slice va' (i + 1) vc', by omega, by go_num, HR5, HO5, HK5⟩
            case measure => simp [intOf]; omega
          · obtain rfl : i = N.length := by omega
            have ii2 : ¬ (N.length : Int) < (N.length : Int) := by omega
            rw [List.take_length] at HOn
            obtain ⟨ga, gc, rfl, hcg⟩ := own_celT HOn.out
            have HCg := hideP2 hcg
            have HCp2 : Hid (CelT wr 158 pa ((S.map fp).flatMap mpartC)) := HCp.out.keeps HKn.out (by have h8 := HR.out; unfold ruO at h8; exact h8) (by decide)
            have HRs2 : Hid (wr.heap[w.heap.size + 1]? = some (ruO [] 0 (.slice none 0 0) (.slice none 0 0) 0)) := by unfold Hid; rw [HKn.out.block _ (by omega) (by omega)]; exact HRs.out
            clear hcg HOn
            go_wp2_with (first
              | (refine wpList_load_row ?hgd 95 (.tmp 5) ?ho rb ?hx 95 (ruC n1 fc (.slice pa S.length pc) (.slice ga N.length gc) ro) (0, 0) _ HRn.out Tryz.underlying95 rfl (ruInfo _ _ _ _ _) ?_
                 case ho => rfl
                 case hgd => rfl
                 case hx => rfl)
              | (refine wpList_store_row ?hgd 95 (.tmp 4) (.tmp 58) ?ho (w.heap.size + 1) (ruC n1 fc (.slice pa S.length pc) (.slice ga N.length gc) ro) ?hx ?hy 95 (ruC [] 0 (.slice none 0 0) (.slice none 0 0) 0) HRs2.out (ruInfo _ _ _ _ _) rfl (by simp [ruC, Value.oneCell']) ?_
                 case ho => rfl
                 case hgd => rfl
                 case hx => rfl
                 case hy => rfl))
            have HFin : Hid (MRulC (wr.setRow (w.heap.size + 1) (ruC n1 fc (.slice pa S.length pc) (.slice ga N.length gc) ro)) (⟨n1, fc, S.map fp, N.map fn, ro⟩, .slice pa S.length pc, .slice ga N.length gc)) := by
              refine ⟨⟨pa, pc, by simp, ?_⟩, ⟨ga, gc, by simp, ?_⟩, by simp; omega, by simp; omega⟩
              · exact HCp2.out.keep fun g cs fz hg => setRow_other _ _ _ _ (fun e => by subst e; have h8 := HRs2.out; unfold ruO at h8; rw [h8] at hg; simp at hg)
              · exact HCg.out.keep fun g cs fz hg => setRow_other _ _ _ _ (fun e => by subst e; have h8 := HRs2.out; unfold ruO at h8; rw [h8] at hg; simp at hg)
            refine bodyPost_ret (v := mruleV (⟨n1, fc, S.map fp, N.map fn, ro⟩, .slice pa S.length pc, .slice ga N.length gc)) (results_cell_row Tryz.results61 _ _ (w.heap.size + 1) 95 (ruC n1 fc (.slice pa S.length pc) (.slice ga N.length gc) ro) (0, 0) _ rfl (setRow_heap _ _ _ _ _ _ HRs2.out) Tryz.underlying95 rfl (ruInfo _ _ _ _ _)) rfl (show RuleIs ans w _ _ from ⟨(⟨n1, fc, S.map fp, N.map fn, ro⟩, .slice pa S.length pc, .slice ga N.length gc), HA.out.symm, rfl, HFin.out, below_row HBwn.out (by omega) _⟩)
end Go.Proofs.YtnbpdffdnphbeaaGreat
