/- What fact of the reader does at a test; and so fact, terms and alternatives in all. -/
import Derived.Test.YtlfffodehppgbaaDoorFact
namespace Go.Proofs.YtlfffodehppgbaaDoor
open Go.RowKit

theorem pTest_mono (P : List PT) (s : St) : s.1 ≤ (pTest P s).2.1 := by
  have k1 := fun t s => pSkip_mono P t s
  have k2 : ∀ s, s.1 ≤ (pName P s).2.1 := fun s => adv_le _ _
  have k3 : ∀ s, s.1 ≤ (pNumber P s).2.1 := fun s => adv_le _ _
  have k4 : ∀ s, s.1 ≤ (pComp P s).2.1 := by
    intro s; unfold pComp
    split
    · split <;> exact pSkip_mono P _ s
    · exact Nat.le_refl _
  unfold pTest
  split
  · exact k1 _ _
  · split
    · exact Nat.le_trans (k1 _ _) (Nat.le_trans (k1 _ _) (k2 _))
    · split
      · exact Nat.le_trans (k1 _ _) (Nat.le_trans (k1 _ _) (Nat.le_trans (k2 _) (k4 _)))
      · split
        · exact Nat.le_trans (k1 _ _) (Nat.le_trans (k1 _ _) (Nat.le_trans (k2 _) (Nat.le_trans (k4 _) (k3 _))))
        · exact Nat.le_trans (k1 _ _) (Nat.le_trans (k1 _ _) (Nat.le_trans (k2 _) (Nat.le_trans (k4 _) (k2 _))))

set_option maxHeartbeats 1000000 in
theorem fact_test (R g cap : Nat) (P : List PT) (G : Nat) (root : Int) (n : Nat) (w : World) (q : GS) (d : Int) (hin : InG w R g cap P G root q) (hok : OkG P q d) (h1 : (pSkip P kNot q.s).1 = false) (h2 : (pSkip P kOpen (pSkip P kNot q.s).2).1 = false) :
    Calls Tryd.prog 110 #[.pointer (some ⟨R, 0, none⟩), .pointer (some ⟨G, 0, none⟩), .int .i64 d] w fun e w' => e = .returned (.int .i64 (pFact P (n + 1) q d).1) ∧ InG w' R g cap P G root (pFact P (n + 1) q d).2 ∧ Keeps G R w w' ∧ Goes P q (pFact P (n + 1) q d).2 := by
  have hGl := hin.gd.lt
  have hat := hin.ctx.at'
  have hmany := hin.ctx.many
  have HF : Hid (pFact P (n + 1) q d = (((q.nd.length : Nat) : Int), (((q.tested d).to (pTest P (pSkip P kOpen (pSkip P kNot q.s).2).2).2).add (pTest P (pSkip P kOpen (pSkip P kNot q.s).2).2).1))) := by
    unfold Hid; rw [pFact, h1]; simp only [h2]
  have hs2 : (pSkip P kOpen (pSkip P kNot q.s).2).2.1 = q.s.1 := by
    simp only [pSkip] at h1 h2 ⊢; rw [h2, h1]; rfl
  have HM := hideP2 (pTest_mono P)
  have hnd : q.nd.length ≤ 10000 := by have := hok.room; unfold pot at this; omega
  have ht0 := hok.t0
  have ht1 := hok.t1
  have hd0 := hok.d0
  have hd1 := hok.d1
  have nR : G ≠ R := by have := hin.rG; omega
  have ng : G ≠ g := by have := hin.gG; omega
  have HIn := hideP2 hin
  have H1 := hideP2 h1
  have H2 := hideP2 h2
  generalize pFact P (n + 1) q d = F at *
  clear hin hok h1 h2
  by_cases hdp : q.dep < d
  · have hEx : ∀ (s : St) (x : PNode), ((q.tested d).to s).add x = ⟨s, q.nd ++ [x], q.tests + 1, d⟩ := by intro s x; simp only [GS.tested, GS.to, GS.add]; rw [if_pos hdp]
    have HEx := hideP2 hEx
    clear hEx
    go_enter Tryd.func110, Tryd.ntmps110
    go_wp2_with fail
    refine (skip_s R g cap P _ q.s kNot HIn.out.ctx).mono ?_
    rintro e w1 ⟨rfl, hc1, hk1⟩
    rw [H1.out]
    have hi1 := HIn.out.read hc1 hk1
    have HK1 : Hid (Keeps G R w w1) := hk1.of_size (Nat.le_of_lt hGl)
    have hG1 := hi1.gd.lt
    have HC1 := hideP2 hc1
    have HI1 := hideP2 hi1
    clear hc1 hk1 hi1
    go_wp2_with fail
    refine (skip_s R g cap P _ (pSkip P kNot q.s).2 kOpen HC1.out).mono ?_
    rintro e w2 ⟨rfl, hc2, hk2⟩
    rw [H2.out]
    have hi2 : InG w2 R g cap P G root (q.to (pSkip P kOpen (pSkip P kNot q.s).2).2) := HI1.out.read hc2 hk2
    have HK2 : Hid (Keeps G R w w2) := HK1.out.trans (hk2.of_size (Nat.le_of_lt hG1))
    obtain ⟨gc2, gc3, gfz⟩ := gd_cells hi2.gd
    have hG2 := hi2.gd.lt
    have HI2 := hideP2 hi2
    clear hc2 hk2 hi2 HI1 HC1
    generalize (pSkip P kOpen (pSkip P kNot q.s).2).2 = s2 at *
    simp only [GS.to] at gc2 gc3
    go_wp2_with fail
    refine (test_s _ R g cap P s2 (Ctx.set (Ctx.set HI2.out.ctx nR ng) nR ng)).mono ?_
    rintro e w3 ⟨rfl, hc3, hk3⟩
    have hgd3 : Gd w3 G q.nd root (q.tests + 1) d := Gd.keeps (gd_deep (gd_tested HI2.out.gd)) hk3 HIn.out.rG
    have HK3 : Hid (Keeps G R w w3) := HK2.out.trans ((Keeps.of_belowG (Below.setG.trans Below.setG)).trans (hk3.of_size (by simp only [size_setCell]; omega)))
    have HC3 := hideP2 hc3
    have HGd3 := hideP2 hgd3
    have hmo := HM.out s2
    clear hc3 hk3 hgd3 gc2 gc3 gfz HM
    have hG3 := HGd3.out.lt
    generalize hpt : pTest P s2 = y at *
    obtain ⟨x, s3⟩ := y
    simp only at HF HC3 hmo
    obtain ⟨xk, xl, xr, xn, xm, xo, xu⟩ := x
    simp only [nodeV]
    clear hpt
    go_wp2_with fail
    refine (add_s (w3.alloc _) G q.nd root (q.tests + 1) d ⟨xk, xl, xr, xn, xm, xo, xu⟩ (Gd.alloc HGd3.out _) hnd).mono ?_
    rintro e w4 ⟨rfl, hgd4, hb4⟩
    have hi4 : InG w4 R g cap P G root ⟨s3, q.nd ++ [⟨xk, xl, xr, xn, xm, xo, xu⟩], q.tests + 1, d⟩ := ⟨(Ctx.alloc HC3.out _).belowG hb4 HIn.out.rG HIn.out.gG, hgd4, HIn.out.rG, HIn.out.gG⟩
    have HI4 := hideP2 hi4
    have HK4 : Hid (Keeps G R w w4) := HK3.out.trans ((Keeps.alloc (Keeps.refl _ _ _) (Nat.le_of_lt hG3) _).trans (Keeps.of_belowG hb4))
    clear hgd4 hb4 hi4
    go_wp2_with fail
    go_ret
    rw [HF.out, HEx.out]
    refine ⟨rfl, HI4.out, HK4.out, ⟨by show q.s.1 ≤ s3.1; omega, ?_, by show 0 ≤ q.tests + 1; omega, ?_⟩⟩
    · show (q.nd ++ [_]).length + 2 * (P.length - s3.1) ≤ pot P q + 1
      unfold pot; rw [List.length_append, List.length_singleton]; omega
    · show q.tests + 1 ≤ ((q.nd ++ [_]).length : Int)
      rw [List.length_append, List.length_singleton]; omega
  · have hEx : ∀ (s : St) (x : PNode), ((q.tested d).to s).add x = ⟨s, q.nd ++ [x], q.tests + 1, q.dep⟩ := by intro s x; simp only [GS.tested, GS.to, GS.add]; rw [if_neg hdp]
    have HEx := hideP2 hEx
    clear hEx
    go_enter Tryd.func110, Tryd.ntmps110
    go_wp2_with fail
    refine (skip_s R g cap P _ q.s kNot HIn.out.ctx).mono ?_
    rintro e w1 ⟨rfl, hc1, hk1⟩
    rw [H1.out]
    have hi1 := HIn.out.read hc1 hk1
    have HK1 : Hid (Keeps G R w w1) := hk1.of_size (Nat.le_of_lt hGl)
    have hG1 := hi1.gd.lt
    have HC1 := hideP2 hc1
    have HI1 := hideP2 hi1
    clear hc1 hk1 hi1
    go_wp2_with fail
    refine (skip_s R g cap P _ (pSkip P kNot q.s).2 kOpen HC1.out).mono ?_
    rintro e w2 ⟨rfl, hc2, hk2⟩
    rw [H2.out]
    have hi2 : InG w2 R g cap P G root (q.to (pSkip P kOpen (pSkip P kNot q.s).2).2) := HI1.out.read hc2 hk2
    have HK2 : Hid (Keeps G R w w2) := HK1.out.trans (hk2.of_size (Nat.le_of_lt hG1))
    obtain ⟨gc2, gc3, gfz⟩ := gd_cells hi2.gd
    have hG2 := hi2.gd.lt
    have HI2 := hideP2 hi2
    clear hc2 hk2 hi2 HI1 HC1
    generalize (pSkip P kOpen (pSkip P kNot q.s).2).2 = s2 at *
    simp only [GS.to] at gc2 gc3
    go_wp2_with fail
    refine (test_s _ R g cap P s2 (Ctx.set HI2.out.ctx nR ng)).mono ?_
    rintro e w3 ⟨rfl, hc3, hk3⟩
    have hgd3 : Gd w3 G q.nd root (q.tests + 1) q.dep := Gd.keeps (gd_tested HI2.out.gd) hk3 HIn.out.rG
    have HK3 : Hid (Keeps G R w w3) := HK2.out.trans ((Keeps.of_belowG (Below.setG)).trans (hk3.of_size (by simp only [size_setCell]; omega)))
    have HC3 := hideP2 hc3
    have HGd3 := hideP2 hgd3
    have hmo := HM.out s2
    clear hc3 hk3 hgd3 gc2 gc3 gfz HM
    have hG3 := HGd3.out.lt
    generalize hpt : pTest P s2 = y at *
    obtain ⟨x, s3⟩ := y
    simp only at HF HC3 hmo
    obtain ⟨xk, xl, xr, xn, xm, xo, xu⟩ := x
    simp only [nodeV]
    clear hpt
    go_wp2_with fail
    refine (add_s (w3.alloc _) G q.nd root (q.tests + 1) q.dep ⟨xk, xl, xr, xn, xm, xo, xu⟩ (Gd.alloc HGd3.out _) hnd).mono ?_
    rintro e w4 ⟨rfl, hgd4, hb4⟩
    have hi4 : InG w4 R g cap P G root ⟨s3, q.nd ++ [⟨xk, xl, xr, xn, xm, xo, xu⟩], q.tests + 1, q.dep⟩ := ⟨(Ctx.alloc HC3.out _).belowG hb4 HIn.out.rG HIn.out.gG, hgd4, HIn.out.rG, HIn.out.gG⟩
    have HI4 := hideP2 hi4
    have HK4 : Hid (Keeps G R w w4) := HK3.out.trans ((Keeps.alloc (Keeps.refl _ _ _) (Nat.le_of_lt hG3) _).trans (Keeps.of_belowG hb4))
    clear hgd4 hb4 hi4
    go_wp2_with fail
    go_ret
    rw [HF.out, HEx.out]
    refine ⟨rfl, HI4.out, HK4.out, ⟨by show q.s.1 ≤ s3.1; omega, ?_, by show 0 ≤ q.tests + 1; omega, ?_⟩⟩
    · show (q.nd ++ [_]).length + 2 * (P.length - s3.1) ≤ pot P q + 1
      unfold pot; rw [List.length_append, List.length_singleton]; omega
    · show q.tests + 1 ≤ ((q.nd ++ [_]).length : Int)
      rw [List.length_append, List.length_singleton]; omega

theorem fact_all (R g cap : Nat) (P : List PT) (G : Nat) (root : Int) (n : Nat) : FactSaid R g cap P G root n := by
  induction n with
  | zero => intro w q d hin _ hn; have := hin.ctx.at'; omega
  | succ n ih =>
    intro w q d hin hok hn
    cases h1 : (pSkip P kNot q.s).1
    · cases h2 : (pSkip P kOpen (pSkip P kNot q.s).2).1
      · exact fact_test R g cap P G root n w q d hin hok h1 h2
      · exact fact_open R g cap P G root n (alt_s R g cap P G root n (terms_s R g cap P G root n ih)) w q d hin hok hn h1 h2
    · exact fact_not R g cap P G root n ih w q d hin hok hn h1

theorem alt_all (R g cap : Nat) (P : List PT) (G : Nat) (root : Int) (n : Nat) : AltSaid R g cap P G root n :=
  alt_s R g cap P G root n (terms_s R g cap P G root n (fact_all R g cap P G root n))
end Go.Proofs.YtlfffodehppgbaaDoor
