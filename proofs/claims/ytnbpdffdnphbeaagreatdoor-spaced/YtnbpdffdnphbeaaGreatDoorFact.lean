/- What fact of the reader does. -/
import Derived.Test.YtnbpdffdnphbeaaGreatDoorTerms
namespace Go.Proofs.YtnbpdffdnphbeaaGreatDoor
open Go.RowKit

theorem gd_cells {w : World} {G : Nat} {nd : List PNode} {root tests dep : Int} (h : Gd w G nd root tests dep) : w.cell? ⟨G, 2, none⟩ = some (.int .i64 tests) ∧ w.cell? ⟨G, 3, none⟩ = some (.int .i64 dep) ∧ (∀ o, w.frozen? ⟨G, o, none⟩ = false) := by
  obtain ⟨nv, h1, _⟩ := h
  unfold gdObj at h1
  exact ⟨by rw [cell_of_row w G 2 _ _ _ h1]; rfl, by rw [cell_of_row w G 3 _ _ _ h1]; rfl, fun o => by simp [World.frozen?, h1]⟩

theorem gd_tested {w : World} {G : Nat} {nd : List PNode} {root tests dep : Int} (h : Gd w G nd root tests dep) : Gd (w.setCell ⟨G, 2, none⟩ (.int .i64 (tests + 1))) G nd root (tests + 1) dep := by
  obtain ⟨nv, h1, h2⟩ := h
  refine ⟨nv, ?_, owns_set h2 (Nat.lt_succ_self G)⟩
  unfold gdObj at h1 ⊢
  rw [heap_setCell_same w G 2 _ _ _ h1]; simp

theorem gd_deep {w : World} {G : Nat} {nd : List PNode} {root tests dep d : Int} (h : Gd w G nd root tests dep) : Gd (w.setCell ⟨G, 3, none⟩ (.int .i64 d)) G nd root tests d := by
  obtain ⟨nv, h1, h2⟩ := h
  refine ⟨nv, ?_, owns_set h2 (Nat.lt_succ_self G)⟩
  unfold gdObj at h1 ⊢
  rw [heap_setCell_same w G 3 _ _ _ h1]; simp

theorem Below.setG {w : World} {G o : Nat} {u : Value} : Below G w (w.setCell ⟨G, o, none⟩ u) := (Below.refl _ _).setCell (p := ⟨G, o, none⟩) (Nat.le_refl _) u

theorem Gd.alloc {w : World} {G : Nat} {nd : List PNode} {root tests dep : Int} (h : Gd w G nd root tests dep) (o : Obj) : Gd (w.alloc o) G nd root tests dep := by
  have hlt := h.lt
  obtain ⟨nv, h1, h2⟩ := h
  exact ⟨nv, by rw [Below.heap_alloc _ _ _ hlt]; exact h1, h2.alloc _⟩

set_option maxHeartbeats 1000000 in
theorem fact_not (R g cap : Nat) (P : List PT) (G : Nat) (root : Int) (n : Nat) (hf : FactSaid R g cap P G root n) (w : World) (q : GS) (d : Int) (hin : InG w R g cap P G root q) (hok : OkG P q d) (hn : P.length - q.s.1 ≤ n + 1) (h1 : (pSkip P kNot q.s).1 = true) :
    Calls Tryz.prog 259 #[.pointer (some ⟨R, 0, none⟩), .pointer (some ⟨G, 0, none⟩), .int .i64 d] w fun e w' => e = .returned (.int .i64 (pFact P (n + 1) q d).1) ∧ InG w' R g cap P G root (pFact P (n + 1) q d).2 ∧ Keeps G R w w' ∧ Goes P q (pFact P (n + 1) q d).2 := by
  have hGl := hin.gd.lt
  have hat := hin.ctx.at'
  have hmany := hin.ctx.many
  have hst := pSkip_true h1
  have hps := pot_skip h1 hat
  have HF : Hid (pFact P (n + 1) q d = ((((pFact P n (q.to (pSkip P kNot q.s).2) (d + 1)).2.nd.length : Nat) : Int), (pFact P n (q.to (pSkip P kNot q.s).2) (d + 1)).2.add ⟨3, (pFact P n (q.to (pSkip P kNot q.s).2) (d + 1)).1, 0, [], [], [], 0⟩)) := by
    unfold Hid; rw [pFact, h1]
  have hok1 : OkG P (q.to (pSkip P kNot q.s).2) (d + 1) := ⟨hok.t0, hok.t1, by have := hok.room; omega, by have := hok.d0; omega, by have := hok.d1; show d + 1 ≤ (((pSkip P kNot q.s).2.1 : Nat) : Int); rw [hst]; omega⟩
  have hn1 : P.length - (q.to (pSkip P kNot q.s).2).s.1 ≤ n := by show P.length - (pSkip P kNot q.s).2.1 ≤ n; rw [hst]; omega
  have hs1 : (q.to (pSkip P kNot q.s).2).s.1 = q.s.1 + 1 := hst
  have HFa := hideP2 hf
  have HIn := hideP2 hin
  have HOk := hideP2 hok
  have H1 := hideP2 h1
  have hd0 := hok.d0
  have hd1 := hok.d1
  generalize pFact P (n + 1) q d = F at *
  clear hf hin hok h1 hst
  go_enter Tryz.func259, Tryz.ntmps259
  go_wp2_with fail
  refine (skip_s R g cap P _ q.s kNot HIn.out.ctx).mono ?_
  rintro e w1 ⟨rfl, hc1, hk1⟩
  rw [H1.out]
  have hi1 := HIn.out.read hc1 hk1
  have HK1 : Hid (Keeps G R w w1) := hk1.of_size (Nat.le_of_lt hGl)
  have hG1 := hi1.gd.lt
  generalize q.to (pSkip P kNot q.s).2 = q1 at *
  have HI1 := hideP2 (HFa.out w1 q1 (d + 1) hi1 hok1 hn1)
  clear hc1 hk1 hi1 hok1 hn1
  go_wp2_with fail
  refine HI1.out.mono ?_
  rintro e w2 ⟨rfl, hi2, hk2, hg2⟩
  have HI2 := hideP2 hi2
  have HK2 : Hid (Keeps G R w w2) := HK1.out.trans hk2
  have HG2 := hideP2 hg2
  generalize pFact P n q1 (d + 1) = y at *
  obtain ⟨r, q2⟩ := y
  simp only at HF HI2 HG2
  have hp2 := HG2.out.pot'
  have hro := HOk.out.room
  have hnd2 : q2.nd.length ≤ pot P q2 := by unfold pot; omega
  have hnd : q2.nd.length ≤ 10000 := by omega
  clear hi2 hk2 hg2 HI1
  go_wp2_with fail
  refine (add_s w2 G q2.nd root q2.tests q2.dep ⟨3, r, 0, [], [], [], 0⟩ HI2.out.gd hnd).mono ?_
  rintro e w3 ⟨rfl, hgd3, hb3⟩
  have HI3 := hideP2 (HI2.out.added hgd3 hb3)
  have HK3 : Hid (Keeps G R w w3) := HK2.out.trans (Keeps.of_belowG hb3)
  have hmo := HG2.out.mono
  have HGo : Hid (Goes P q (q2.add ⟨3, r, 0, [], [], [], 0⟩)) := ⟨by show q.s.1 ≤ q2.s.1; omega, by show (q2.nd ++ [_]).length + 2 * (P.length - q2.s.1) ≤ _; rw [List.length_append, List.length_singleton]; unfold pot at hp2 hps ⊢; omega, HG2.out.t0, by show q2.tests ≤ ((q2.nd ++ [_]).length : Int); rw [List.length_append]; have := HG2.out.t1; omega⟩
  clear hgd3 hb3
  go_wp2_with fail
  go_ret
  rw [HF.out]
  exact ⟨rfl, HI3.out, HK3.out, HGo.out⟩

set_option maxHeartbeats 1000000 in
theorem fact_open (R g cap : Nat) (P : List PT) (G : Nat) (root : Int) (n : Nat) (ha : AltSaid R g cap P G root n) (w : World) (q : GS) (d : Int) (hin : InG w R g cap P G root q) (hok : OkG P q d) (hn : P.length - q.s.1 ≤ n + 1) (h1 : (pSkip P kNot q.s).1 = false) (h2 : (pSkip P kOpen (pSkip P kNot q.s).2).1 = true) :
    Calls Tryz.prog 259 #[.pointer (some ⟨R, 0, none⟩), .pointer (some ⟨G, 0, none⟩), .int .i64 d] w fun e w' => e = .returned (.int .i64 (pFact P (n + 1) q d).1) ∧ InG w' R g cap P G root (pFact P (n + 1) q d).2 ∧ Keeps G R w w' ∧ Goes P q (pFact P (n + 1) q d).2 := by
  have hGl := hin.gd.lt
  have hat := hin.ctx.at'
  have hmany := hin.ctx.many
  have hs0 : (pSkip P kNot q.s).2.1 = q.s.1 := by simp only [pSkip] at h1 ⊢; rw [h1]; rfl
  have hst := pSkip_true h2
  have HF : Hid (pFact P (n + 1) q d = ((pAlt P n (q.to (pSkip P kOpen (pSkip P kNot q.s).2).2) (d + 1)).1, (pAlt P n (q.to (pSkip P kOpen (pSkip P kNot q.s).2).2) (d + 1)).2.to (pWant P kShut (pAlt P n (q.to (pSkip P kOpen (pSkip P kNot q.s).2).2) (d + 1)).2.s))) := by
    unfold Hid; rw [pFact, h1]; simp only [h2]; rfl
  have hs1 : (q.to (pSkip P kOpen (pSkip P kNot q.s).2).2).s.1 = q.s.1 + 1 := by show (pSkip P kOpen (pSkip P kNot q.s).2).2.1 = _; rw [hst, hs0]
  have hpp : pot P (q.to (pSkip P kOpen (pSkip P kNot q.s).2).2) + 2 = pot P q := by unfold pot; rw [hs1]; show q.nd.length + _ + 2 = _; omega
  have hok1 : OkG P (q.to (pSkip P kOpen (pSkip P kNot q.s).2).2) (d + 1) := ⟨hok.t0, hok.t1, by have := hok.room; omega, by have := hok.d0; omega, by have := hok.d1; rw [hs1]; omega⟩
  have hn1 : P.length - (q.to (pSkip P kOpen (pSkip P kNot q.s).2).2).s.1 ≤ n := by rw [hs1]; omega
  have HA := hideP2 ha
  have HIn := hideP2 hin
  have HOk := hideP2 hok
  have H1 := hideP2 h1
  have H2 := hideP2 h2
  have hd0 := hok.d0
  have hd1 := hok.d1
  generalize pFact P (n + 1) q d = F at *
  clear ha hin hok h1 h2 hst hs0
  go_enter Tryz.func259, Tryz.ntmps259
  go_wp2_with fail
  refine (skip_s R g cap P _ q.s kNot HIn.out.ctx).mono ?_
  rintro e w1 ⟨rfl, hc1, hk1⟩
  rw [H1.out]
  have hi1 := HIn.out.read hc1 hk1
  have HK1 : Hid (Keeps G R w w1) := hk1.of_size (Nat.le_of_lt hGl)
  have hG1 := hi1.gd.lt
  have HC1 := hideP2 hc1
  have HI1 := hideP2 hi1
  clear hc1 hk1 hi1
  go_wp2_with fail
  refine (skip_s R g cap P _ (pSkip P kNot q.s).2 kOpen HC1.out).mono ?_
  rintro e w2 ⟨rfl, hc2, hk2⟩
  rw [H2.out]
  have hi2 : InG w2 R g cap P G root (q.to (pSkip P kOpen (pSkip P kNot q.s).2).2) := HI1.out.read hc2 hk2
  have HK2 : Hid (Keeps G R w w2) := HK1.out.trans (hk2.of_size (Nat.le_of_lt hG1))
  generalize q.to (pSkip P kOpen (pSkip P kNot q.s).2).2 = q1 at *
  have HI2 := hideP2 (HA.out w2 q1 (d + 1) hi2 hok1 hn1)
  clear hc2 hk2 hi2 hok1 hn1 HI1 HC1
  go_wp2_with fail
  refine HI2.out.mono ?_
  rintro e w3 ⟨rfl, hi3, hk3, hg3⟩
  have HI3 := hideP2 hi3
  have HK3 : Hid (Keeps G R w w3) := HK2.out.trans hk3
  have HG3 := hideP2 hg3
  generalize pAlt P n q1 (d + 1) = y at *
  obtain ⟨r, q2⟩ := y
  simp only at HF HI3 HG3
  have hG3 := HI3.out.gd.lt
  have hp3 := HG3.out.pot'
  clear hi3 hk3 hg3 HI2
  go_wp2_with fail
  refine (want_s R g cap P _ q2.s kShut HI3.out.ctx).mono ?_
  rintro e w4 ⟨rfl, hc4, hk4⟩
  have HI4 := hideP2 (HI3.out.read hc4 hk4)
  have HK4 : Hid (Keeps G R w w4) := HK3.out.trans (hk4.of_size (Nat.le_of_lt hG3))
  have hmo := HG3.out.mono
  have hwm : q2.s.1 ≤ (pWant P kShut q2.s).1 := adv_le _ _
  have HGo : Hid (Goes P q (q2.to (pWant P kShut q2.s))) := ⟨by show q.s.1 ≤ (pWant P kShut q2.s).1; omega, by have h9 := pot_to (P := P) (q := q2) hwm; omega, HG3.out.t0, HG3.out.t1⟩
  clear hc4 hk4
  go_wp2_with fail
  go_ret
  rw [HF.out]
  exact ⟨rfl, HI4.out, HK4.out, HGo.out⟩
end Go.Proofs.YtnbpdffdnphbeaaGreatDoor

/- What fact of the reader does at a test; and so fact, terms and alternatives in all. -/
namespace Go.Proofs.YtnbpdffdnphbeaaGreatDoor
open Go.RowKit

theorem pTest_mono (P : List PT) (s : St) : s.1 ≤ (pTest P s).2.1 := by
  have k1 := fun t s => pSkip_mono P t s
  have k2 : ∀ s, s.1 ≤ (pName P s).2.1 := fun s => adv_le _ _
  have k3 : ∀ s, s.1 ≤ (pNumber P s).2.1 := fun s => adv_le _ _
  have k4 : ∀ s, s.1 ≤ (pComp P s).2.1 := by
    intro s; unfold pComp
    split
    · split <;> exact pSkip_mono P _ s
    · exact Nat.le_refl _
  unfold pTest
  split
  · exact k1 _ _
  · split
    · exact Nat.le_trans (k1 _ _) (Nat.le_trans (k1 _ _) (k2 _))
    · split
      · exact Nat.le_trans (k1 _ _) (Nat.le_trans (k1 _ _) (Nat.le_trans (k2 _) (k4 _)))
      · split
        · exact Nat.le_trans (k1 _ _) (Nat.le_trans (k1 _ _) (Nat.le_trans (k2 _) (Nat.le_trans (k4 _) (k3 _))))
        · exact Nat.le_trans (k1 _ _) (Nat.le_trans (k1 _ _) (Nat.le_trans (k2 _) (Nat.le_trans (k4 _) (k2 _))))

set_option maxHeartbeats 1000000 in
theorem fact_test (R g cap : Nat) (P : List PT) (G : Nat) (root : Int) (n : Nat) (w : World) (q : GS) (d : Int) (hin : InG w R g cap P G root q) (hok : OkG P q d) (h1 : (pSkip P kNot q.s).1 = false) (h2 : (pSkip P kOpen (pSkip P kNot q.s).2).1 = false) :
    Calls Tryz.prog 259 #[.pointer (some ⟨R, 0, none⟩), .pointer (some ⟨G, 0, none⟩), .int .i64 d] w fun e w' => e = .returned (.int .i64 (pFact P (n + 1) q d).1) ∧ InG w' R g cap P G root (pFact P (n + 1) q d).2 ∧ Keeps G R w w' ∧ Goes P q (pFact P (n + 1) q d).2 := by
  have hGl := hin.gd.lt
  have hat := hin.ctx.at'
  have hmany := hin.ctx.many
  have HF : Hid (pFact P (n + 1) q d = (((q.nd.length : Nat) : Int), (((q.tested d).to (pTest P (pSkip P kOpen (pSkip P kNot q.s).2).2).2).add (pTest P (pSkip P kOpen (pSkip P kNot q.s).2).2).1))) := by
    unfold Hid; rw [pFact, h1]; simp only [h2]
  have hs2 : (pSkip P kOpen (pSkip P kNot q.s).2).2.1 = q.s.1 := by
    simp only [pSkip] at h1 h2 ⊢; rw [h2, h1]; rfl
  have HM := hideP2 (pTest_mono P)
  have hnd : q.nd.length ≤ 10000 := by have := hok.room; unfold pot at this; omega
  have ht0 := hok.t0
  have ht1 := hok.t1
  have hd0 := hok.d0
  have hd1 := hok.d1
  have nR : G ≠ R := by have := hin.rG; omega
  have ng : G ≠ g := by have := hin.gG; omega
  have HIn := hideP2 hin
  have H1 := hideP2 h1
  have H2 := hideP2 h2
  generalize pFact P (n + 1) q d = F at *
  clear hin hok h1 h2
  by_cases hdp : q.dep < d
  · have hEx : ∀ (s : St) (x : PNode), ((q.tested d).to s).add x = ⟨s, q.nd ++ [x], q.tests + 1, d⟩ := by intro s x; simp only [GS.tested, GS.to, GS.add]; rw [if_pos hdp]
    have HEx := hideP2 hEx
    clear hEx
    go_enter Tryz.func259, Tryz.ntmps259
    go_wp2_with fail
    refine (skip_s R g cap P _ q.s kNot HIn.out.ctx).mono ?_
    rintro e w1 ⟨rfl, hc1, hk1⟩
    rw [H1.out]
    have hi1 := HIn.out.read hc1 hk1
    have HK1 : Hid (Keeps G R w w1) := hk1.of_size (Nat.le_of_lt hGl)
    have hG1 := hi1.gd.lt
    have HC1 := hideP2 hc1
    have HI1 := hideP2 hi1
    clear hc1 hk1 hi1
    go_wp2_with fail
    refine (skip_s R g cap P _ (pSkip P kNot q.s).2 kOpen HC1.out).mono ?_
    rintro e w2 ⟨rfl, hc2, hk2⟩
    rw [H2.out]
    have hi2 : InG w2 R g cap P G root (q.to (pSkip P kOpen (pSkip P kNot q.s).2).2) := HI1.out.read hc2 hk2
    have HK2 : Hid (Keeps G R w w2) := HK1.out.trans (hk2.of_size (Nat.le_of_lt hG1))
    obtain ⟨gc2, gc3, gfz⟩ := gd_cells hi2.gd
    have hG2 := hi2.gd.lt
    have HI2 := hideP2 hi2
    clear hc2 hk2 hi2 HI1 HC1
    generalize (pSkip P kOpen (pSkip P kNot q.s).2).2 = s2 at *
    simp only [GS.to] at gc2 gc3
    go_wp2_with fail
    refine (test_s _ R g cap P s2 (Ctx.set (Ctx.set HI2.out.ctx nR ng) nR ng)).mono ?_
    rintro e w3 ⟨rfl, hc3, hk3⟩
    have hgd3 : Gd w3 G q.nd root (q.tests + 1) d := Gd.keeps (gd_deep (gd_tested HI2.out.gd)) hk3 HIn.out.rG
    have HK3 : Hid (Keeps G R w w3) := HK2.out.trans ((Keeps.of_belowG (Below.setG.trans Below.setG)).trans (hk3.of_size (by simp only [size_setCell]; omega)))
    have HC3 := hideP2 hc3
    have HGd3 := hideP2 hgd3
    have hmo := HM.out s2
    clear hc3 hk3 hgd3 gc2 gc3 gfz HM
    have hG3 := HGd3.out.lt
    generalize hpt : pTest P s2 = y at *
    obtain ⟨x, s3⟩ := y
    simp only at HF HC3 hmo
    obtain ⟨xk, xl, xr, xn, xm, xo, xu⟩ := x
    simp only [nodeV]
    clear hpt
    go_wp2_with fail
    refine (add_s (w3.alloc _) G q.nd root (q.tests + 1) d ⟨xk, xl, xr, xn, xm, xo, xu⟩ (Gd.alloc HGd3.out _) hnd).mono ?_
    rintro e w4 ⟨rfl, hgd4, hb4⟩
    have hi4 : InG w4 R g cap P G root ⟨s3, q.nd ++ [⟨xk, xl, xr, xn, xm, xo, xu⟩], q.tests + 1, d⟩ := ⟨(Ctx.alloc HC3.out _).belowG hb4 HIn.out.rG HIn.out.gG, hgd4, HIn.out.rG, HIn.out.gG⟩
    have HI4 := hideP2 hi4
    have HK4 : Hid (Keeps G R w w4) := HK3.out.trans ((Keeps.alloc (Keeps.refl _ _ _) (Nat.le_of_lt hG3) _).trans (Keeps.of_belowG hb4))
    clear hgd4 hb4 hi4
    go_wp2_with fail
    go_ret
    rw [HF.out, HEx.out]
    refine ⟨rfl, HI4.out, HK4.out, ⟨by show q.s.1 ≤ s3.1; omega, ?_, by show 0 ≤ q.tests + 1; omega, ?_⟩⟩
    · show (q.nd ++ [_]).length + 2 * (P.length - s3.1) ≤ pot P q + 1
      unfold pot; rw [List.length_append, List.length_singleton]; omega
    · show q.tests + 1 ≤ ((q.nd ++ [_]).length : Int)
      rw [List.length_append, List.length_singleton]; omega
  · have hEx : ∀ (s : St) (x : PNode), ((q.tested d).to s).add x = ⟨s, q.nd ++ [x], q.tests + 1, q.dep⟩ := by intro s x; simp only [GS.tested, GS.to, GS.add]; rw [if_neg hdp]
    have HEx := hideP2 hEx
    clear hEx
    go_enter Tryz.func259, Tryz.ntmps259
    go_wp2_with fail
    refine (skip_s R g cap P _ q.s kNot HIn.out.ctx).mono ?_
    rintro e w1 ⟨rfl, hc1, hk1⟩
    rw [H1.out]
    have hi1 := HIn.out.read hc1 hk1
    have HK1 : Hid (Keeps G R w w1) := hk1.of_size (Nat.le_of_lt hGl)
    have hG1 := hi1.gd.lt
    have HC1 := hideP2 hc1
    have HI1 := hideP2 hi1
    clear hc1 hk1 hi1
    go_wp2_with fail
    refine (skip_s R g cap P _ (pSkip P kNot q.s).2 kOpen HC1.out).mono ?_
    rintro e w2 ⟨rfl, hc2, hk2⟩
    rw [H2.out]
    have hi2 : InG w2 R g cap P G root (q.to (pSkip P kOpen (pSkip P kNot q.s).2).2) := HI1.out.read hc2 hk2
    have HK2 : Hid (Keeps G R w w2) := HK1.out.trans (hk2.of_size (Nat.le_of_lt hG1))
    obtain ⟨gc2, gc3, gfz⟩ := gd_cells hi2.gd
    have hG2 := hi2.gd.lt
    have HI2 := hideP2 hi2
    clear hc2 hk2 hi2 HI1 HC1
    generalize (pSkip P kOpen (pSkip P kNot q.s).2).2 = s2 at *
    simp only [GS.to] at gc2 gc3
    go_wp2_with fail
    refine (test_s _ R g cap P s2 (Ctx.set HI2.out.ctx nR ng)).mono ?_
    rintro e w3 ⟨rfl, hc3, hk3⟩
    have hgd3 : Gd w3 G q.nd root (q.tests + 1) q.dep := Gd.keeps (gd_tested HI2.out.gd) hk3 HIn.out.rG
    have HK3 : Hid (Keeps G R w w3) := HK2.out.trans ((Keeps.of_belowG (Below.setG)).trans (hk3.of_size (by simp only [size_setCell]; omega)))
    have HC3 := hideP2 hc3
    have HGd3 := hideP2 hgd3
    have hmo := HM.out s2
    clear hc3 hk3 hgd3 gc2 gc3 gfz HM
    have hG3 := HGd3.out.lt
    generalize hpt : pTest P s2 = y at *
    obtain ⟨x, s3⟩ := y
    simp only at HF HC3 hmo
    obtain ⟨xk, xl, xr, xn, xm, xo, xu⟩ := x
    simp only [nodeV]
    clear hpt
    go_wp2_with fail
    refine (add_s (w3.alloc _) G q.nd root (q.tests + 1) q.dep ⟨xk, xl, xr, xn, xm, xo, xu⟩ (Gd.alloc HGd3.out _) hnd).mono ?_
    rintro e w4 ⟨rfl, hgd4, hb4⟩
    have hi4 : InG w4 R g cap P G root ⟨s3, q.nd ++ [⟨xk, xl, xr, xn, xm, xo, xu⟩], q.tests + 1, q.dep⟩ := ⟨(Ctx.alloc HC3.out _).belowG hb4 HIn.out.rG HIn.out.gG, hgd4, HIn.out.rG, HIn.out.gG⟩
    have HI4 := hideP2 hi4
    have HK4 : Hid (Keeps G R w w4) := HK3.out.trans ((Keeps.alloc (Keeps.refl _ _ _) (Nat.le_of_lt hG3) _).trans (Keeps.of_belowG hb4))
    clear hgd4 hb4 hi4
    go_wp2_with fail
    go_ret
    rw [HF.out, HEx.out]
    refine ⟨rfl, HI4.out, HK4.out, ⟨by show q.s.1 ≤ s3.1; omega, ?_, by show 0 ≤ q.tests + 1; omega, ?_⟩⟩
    · show (q.nd ++ [_]).length + 2 * (P.length - s3.1) ≤ pot P q + 1
      unfold pot; rw [List.length_append, List.length_singleton]; omega
    · show q.tests + 1 ≤ ((q.nd ++ [_]).length : Int)
      rw [List.length_append, List.length_singleton]; omega

theorem fact_all (R g cap : Nat) (P : List PT) (G : Nat) (root : Int) (n : Nat) : FactSaid R g cap P G root n := by
  induction n with
  | zero => intro w q d hin _ hn; have := hin.ctx.at'; omega
  | succ n ih =>
    intro w q d hin hok hn
    cases h1 : (pSkip P kNot q.s).1
    · cases h2 : (pSkip P kOpen (pSkip P kNot q.s).2).1
      · exact fact_test R g cap P G root n w q d hin hok h1 h2
      · exact fact_open R g cap P G root n (alt_s R g cap P G root n (terms_s R g cap P G root n ih)) w q d hin hok hn h1 h2
    · exact fact_not R g cap P G root n ih w q d hin hok hn h1

theorem alt_all (R g cap : Nat) (P : List PT) (G : Nat) (root : Int) (n : Nat) : AltSaid R g cap P G root n :=
  alt_s R g cap P G root n (terms_s R g cap P G root n (fact_all R g cap P G root n))
end Go.Proofs.YtnbpdffdnphbeaaGreatDoor

/- What guard of the reader gives: a guard, its nodes in a row of its own. -/
namespace Go.Proofs.YtnbpdffdnphbeaaGreatDoor
open Go.RowKit

def pGuard (P : List PT) (s : St) : Int × GS := pAlt P P.length ⟨s, [], 0, 0⟩ 0

def guardV (nv : Value) (y : Int × GS) : Value := .agg #[nv, .int .i64 y.1, .int .i64 y.2.tests, .int .i64 y.2.dep]

theorem owns_base2 {w : World} {b b' : Nat} {e : TypeId} {size : Nat} {v : Value} {n : Nat} {xs : List Value} (h : w.ownsRow b e size v n xs) (hb : b' ≤ b) : w.ownsRow b' e size v n xs := by
  refine ⟨h.1, ?_⟩
  rcases h.2 with h1 | ⟨g, cap, cur, h1, h2, r⟩
  · exact .inl h1
  · exact .inr ⟨g, cap, cur, h1, Nat.le_trans hb h2, r⟩

set_option maxHeartbeats 1000000 in
theorem guard_s (w : World) (R g cap : Nat) (P : List PT) (s : St) (h : CtxS w R g cap P s) :
    Calls Tryz.prog 214 #[.pointer (some ⟨R, 0, none⟩)] w fun e w' => ∃ nv, e = .returned (guardV nv (pGuard P s)) ∧ w'.ownsRow w.heap.size 304 7 nv (pGuard P s).2.nd.length (flatN (pGuard P s).2.nd) ∧ CtxS w' R g cap P (pGuard P s).2.s ∧ Keeps w.heap.size R w w' := by
  have hR := h.rlt
  have hg := h.glt
  have hmany := h.many
  have hat := h.at'
  have HC := hideP2 h
  have HAlt := hideP2 (alt_all R g cap P (w.heap.size + 1) 0 P.length)
  have n0 : w.heap.size ≠ R := by omega
  have n1 : w.heap.size + 1 ≠ R := by omega
  have HF : Hid (pGuard P s = pAlt P P.length ⟨s, [], 0, 0⟩ 0) := rfl
  generalize pGuard P s = F at *
  clear h
  go_enter Tryz.func214, Tryz.ntmps214
  go_wp2_with fail
  have hgd : Gd ((w.alloc (.cells #[.slice none 0 0, .int .i64 0, .int .i64 0, .int .i64 0] 232)).alloc (.cells #[.slice none 0 0, .int .i64 0, .int .i64 0, .int .i64 0] 232)) (w.heap.size + 1) [] 0 0 0 :=
    ⟨.slice none 0 0, by
      have h1 := hb_end (w.alloc (.cells #[.slice none 0 0, .int .i64 0, .int .i64 0, .int .i64 0] 232)) (.cells #[.slice none 0 0, .int .i64 0, .int .i64 0, .int .i64 0] 232)
      rw [show (w.alloc (.cells #[.slice none 0 0, .int .i64 0, .int .i64 0, .int .i64 0] 232)).heap.size = w.heap.size + 1 by simp] at h1
      exact h1, World.ownsRow_nil _ _ _ _⟩
  refine (HAlt.out _ ⟨s, [], 0, 0⟩ 0 ⟨Ctx.alloc (Ctx.alloc HC.out _) _, hgd, by omega, by omega⟩ ⟨Int.le_refl 0, Int.le_refl 0, by show 0 + 2 * (P.length - s.1) ≤ 9000; omega, by decide, by omega⟩ (by omega)).mono ?_
  rintro e w1 ⟨rfl, hi1, hk1, _⟩
  rw [← HF.out]
  rw [← HF.out] at hi1
  have HT1 : Hid (Keeps w.heap.size R w w1) := Keeps.trans (Keeps.new (Keeps.new (Keeps.refl _ _ _))) (hk1.mono (by omega))
  have q0 := fun o => hk1.cell (p := ⟨w.heap.size, o, none⟩) (by simp) n0
  have r0 := fun o => hk1.frozen (p := ⟨w.heap.size, o, none⟩) (by simp) n0
  obtain ⟨hc1, ⟨nv, hgb, hown⟩, _, _⟩ := hi1
  unfold gdObj at hgb
  have cz := fun j => cell_of_row _ _ j _ _ _ hgb
  have fz : ∀ o, w1.frozen? ⟨w.heap.size + 1, o, none⟩ = false := fun o => by simp [World.frozen?, hgb]
  have HC1 := hideP2 hc1
  have HO1 := hideP2 hown
  have m0 : w.heap.size ≠ g := by omega
  have m1 : w.heap.size + 1 ≠ g := by omega
  have hform : nv = .slice none 0 0 ∨ ∃ gg n c, nv = .slice (some ⟨gg, 0, none⟩) n c := by
    rcases hown.2 with ⟨h1, _⟩ | ⟨gg, c, _, h1, _⟩
    · exact .inl h1
    · exact .inr ⟨gg, _, c, h1⟩
  clear hgd hk1 hgb hown hc1 HAlt
  rcases hform with rfl | ⟨gg, gn, gc, rfl⟩
  · go_wp2_with fail
    refine bodyPost_ret (v := guardV (.slice none 0 0) F) (by simp (maxDischargeDepth := 8) [results, Tryz.results214, go_sem, guardV, q0]) rfl ⟨_, rfl, ?_, ?_, ?_⟩
    · exact owns_base2 (owns_set (owns_set (owns_set (owns_set (owns_set HO1.out (by omega)) (by omega)) (by omega)) (by omega)) (by omega)) (by omega)
    · exact (Ctx.set (Ctx.set (Ctx.set (Ctx.set (Ctx.set HC1.out n1 m1) n0 m0) n0 m0) n0 m0) n0 m0)
    · exact (Keeps.set (Keeps.set (Keeps.set (Keeps.set (Keeps.set HT1.out (Nat.le_add_right _ _)) (Nat.le_refl _)) (Nat.le_refl _)) (Nat.le_refl _)) (Nat.le_refl _))
  · go_wp2_with fail
    refine bodyPost_ret (v := guardV (.slice (some ⟨gg, 0, none⟩) gn gc) F) (by simp (maxDischargeDepth := 8) [results, Tryz.results214, go_sem, guardV, q0]) rfl ⟨_, rfl, ?_, ?_, ?_⟩
    · exact owns_base2 (owns_set (owns_set (owns_set (owns_set (owns_set HO1.out (by omega)) (by omega)) (by omega)) (by omega)) (by omega)) (by omega)
    · exact (Ctx.set (Ctx.set (Ctx.set (Ctx.set (Ctx.set HC1.out n1 m1) n0 m0) n0 m0) n0 m0) n0 m0)
    · exact (Keeps.set (Keeps.set (Keeps.set (Keeps.set (Keeps.set HT1.out (Nat.le_add_right _ _)) (Nat.le_refl _)) (Nat.le_refl _)) (Nat.le_refl _)) (Nat.le_refl _))
end Go.Proofs.YtnbpdffdnphbeaaGreatDoor
