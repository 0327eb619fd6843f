/- What Read of the program's book gives of a text: its lines, or the error and its place. -/
import Derived.Test.YtnbpdffdnphbeaaGreatMono
import Derived.Lib.AppendStr
import Derived.Test.YtnbpdffdnphbeaaGreatProg
import Derived.Shelf.Strconv.Itoa3
import Derived.Shelf.Lay
import Derived.Ground.NamesProg
import Derived.WalkSmall
namespace Go.Proofs.YtnbpdffdnphbeaaGreat
open Go.RowKit

def readV (lv : Value) (err place : Int) : Value := .agg #[lv, .int .i64 err, .int .i64 place]

/-- The lines of a text, and where the reader stands behind them. -/
def readB (l : Bs) : List PLine × St := pLines (toP l) (2 * (toP l).length + 1) (0, false) []

/-- What Read gives, by the reader's last state. -/
def ReadIs (w w' : World) (l : Bs) (e : Ending) : Prop :=
  match (readB l).2.2 with
  | true => e = .returned (readV (.slice none 0 0) 2 (cur (toP l) (readB l).2.1).p)
  | false => ∃ lv ls, e = .returned (readV lv 0 0) ∧ ls.map Prod.fst = (readB l).1 ∧ LinesM w' w.heap.size lv ls

def readMeas (P : List PT) (R : Nat) (w : World) : Nat := 2 * (P.length - rdAt w R) + (match w.cell? ⟨R, 2, none⟩ with | some (.bool true) => 0 | _ => 1)
theorem Ctx.readMeas {w : World} {R g cap : Nat} {P : List PT} {s : St} (h : CtxS w R g cap P s) : readMeas P R w = togo P s := by
  unfold Go.Proofs.YtnbpdffdnphbeaaGreat.readMeas togo
  rw [Ctx.rdAt h, h.cells.2.2]
  cases s.2 <;> rfl

theorem AllRows.base {w : World} {B B' : Nat} {ls : List LX} (h : AllRows w B ls) (hb : B' ≤ B) : AllRows w B' ls := fun x hx => ⟨owns_base2 (h x hx).1 hb, owns_base2 (h x hx).2 hb⟩
theorem AllRows.set {w : World} {B : Nat} {ls : List LX} {b o : Nat} {u : Value} (h : AllRows w B ls) (hb : b < B) : AllRows (w.setCell ⟨b, o, none⟩ u) B ls := fun x hx => ⟨owns_set (h x hx).1 hb, owns_set (h x hx).2 hb⟩
theorem LineRows.base {w : World} {B B' : Nat} {sv nv : Value} {x : PLine} (h : LineRows w B sv nv x) (hb : B' ≤ B) : LineRows w B' sv nv x := ⟨owns_base2 h.1 hb, owns_base2 h.2 hb⟩

set_option maxHeartbeats 1000000 in
theorem BookRead_long (l : Bs) (w : World) (hmax : l.length ≤ maxLen) (hl : 4000 < l.length) :
    Calls Tryz.prog 17 #[.string ⟨l.toArray⟩] w fun e w' => e = .returned (readV (.slice none 0 0) 1 0) ∧ Below w.heap.size w w' := by
  unfold maxLen at hmax
  go_enter Tryz.func17, Tryz.ntmps17
  go_wp2_with fail
  refine bodyPost_ret (v := readV (.slice none 0 0) 1 0) (by simp [results, Tryz.results17, go_sem, readV]) rfl ⟨rfl, ?_⟩
  exact (Below.refl _ _).alloc (Nat.le_refl _) _

theorem pLines_exit (P : List PT) (n : Nat) (s : St) (acc : List PLine) (h : s.2 = true ∨ (cur P s.1).k = 0) : pLines P n s acc = (acc, s) := by
  cases n with
  | zero => rfl
  | succ n =>
    rw [pLines]
    cases hs : s.2
    · rcases h with h | h
      · rw [hs] at h; cases h
      · simp only [h, if_true]
    · rfl

theorem Keeps.below {B B' R : Nat} {w w' : World} (h : Keeps B R w w') (h1 : B' ≤ B) (h2 : B' ≤ R) : Below B' w w' := ⟨h.os, h.tape, h.output, h.size, fun k hk => h.block k (by omega) (by omega)⟩

theorem Ctx.start {w : World} {g cap : Nat} {P : List PT} (htok : TokM w g P) (hg : g < w.heap.size) (h0 : 0 < P.length) (hc : P.length ≤ cap) (hm : cap ≤ maxLen) (h4 : P.length ≤ 4001) (he : ∀ i, i < P.length → (cur P i).k ≠ 0 → i + 1 < P.length) :
    CtxS (w.alloc (rdObj g cap P 0 false)) w.heap.size g cap P (0, false) := by
  refine ⟨hb_end _ _, ?_, by omega, by simp; omega, h0, hc, hm, h4, he⟩
  intro i hi
  have hb : ∀ o, (w.alloc (rdObj g cap P 0 false)).cell? ⟨g, o, none⟩ = w.cell? ⟨g, o, none⟩ := fun o => World.cell?_of_block (w := w) (Below.heap_alloc _ _ _ hg)
  rw [hb, hb, hb, hb]; exact htok i hi

set_option maxHeartbeats 2000000 in
theorem BookRead_any (l : Bs) (w : World) (hl : l.length ≤ 4000) :
    Calls Tryz.prog 17 #[.string ⟨l.toArray⟩] w fun e w' => ReadIs w w' l e ∧ Below w.heap.size w w' := by
  obtain ⟨i0, hi0, hz0, hz1, hz2⟩ := info_parts infoLine
  have HRead := hideP2 (fun w => Read_any l w hl)
  have hcount := toksAt_len l 0
  have HPl := hideP2 (toP_len l)
  have hP0 : 0 < (toP l).length := by rw [toP_len]; omega
  have hP1 : (toP l).length ≤ 4001 := by rw [toP_len]; omega
  have HEk := hideP2 (toP_endk l)
  have HFl := hideP2 (flatP_toP l)
  have HRB : Hid (readB l = pLines (toP l) (2 * (toP l).length + 1) (0, false) []) := rfl
  have HRI : Hid (∀ w' e, ReadIs w w' l e = (match (readB l).2.2 with | true => e = .returned (readV (.slice none 0 0) 2 (cur (toP l) (readB l).2.1).p) | false => ∃ lv ls, e = .returned (readV lv 0 0) ∧ ls.map Prod.fst = (readB l).1 ∧ LinesM w' w.heap.size lv ls)) := fun _ _ => rfl
  generalize readB l = F at *
  have HCt := hideP2 hcount
  generalize hPP : toP l = P at *
  have HPP := hideP2 hPP
  clear hcount hPP
  have hl2 : ¬ (4000 : Int) < (l.length : Int) := by omega
  have HI0 := hideP2 hi0; have HZ0 := hideP2 hz0; have HZ1 := hideP2 hz1; have HZ2 := hideP2 hz2
  have HP0 := hideP2 hP0; have HP1 := hideP2 hP1
  clear hi0 hz0 hz1 hz2 hl hP0 hP1
  go_enter Tryz.func17, Tryz.ntmps17
  go_wp2_with fail
  refine (HRead.out _).mono ?_
  rintro e w1 ⟨tv, rfl, hown1, hbel1⟩
  rw [HFl.out, show (toksAt l 0).length + 1 = P.length from HPl.out.symm] at hown1
  obtain ⟨g, cap, rfl, hg0, hg1, hcap, hcm, htok⟩ := owns_toks hown1 HP0.out
  have hs1 := hbel1.size
  have b1 : w1.heap[w.heap.size]? = some (.cells #[.slice none 0 0, .int .i64 0, .int .i64 0] 48 (0, 0)) := by
    rw [hbel1.block w.heap.size (by simp)]; exact hb_end _ _
  have HB1 : Hid (Below w.heap.size w w1) := ((Below.refl _ _).alloc (Nat.le_refl _) _).trans (hbel1.mono (by simp))
  have HTok := hideP2 htok
  have hsz1 : w.heap.size < w1.heap.size := by simp at hs1; omega
  clear hown1 hbel1 hs1 htok HRead HFl HPl
  obtain ⟨R, hR⟩ : ∃ R, w1.heap.size = R := ⟨_, rfl⟩
  have hc0 : CtxS ((w1.alloc (rdObj g cap P 0 false)).alloc (.cells #[] 83)) R g cap P (0, false) := by
    rw [← hR]; exact Ctx.alloc (Ctx.start HTok.out hg1 HP0.out hcap hcm HP1.out HEk.out) _
  have hrow0 : ((w1.alloc (rdObj g cap P 0 false)).alloc (.cells #[] 83)).ownsRow (R + 1) 83 11 (.slice (some ⟨R + 1, 0, none⟩) 0 0) 0 (flatL []) :=
    ⟨rfl, .inr ⟨R + 1, 0, #[], rfl, Nat.le_refl _, by
      have h1 := hb_end (w1.alloc (rdObj g cap P 0 false)) (.cells #[] 83)
      rw [show (w1.alloc (rdObj g cap P 0 false)).heap.size = R + 1 by simp; exact hR] at h1; exact h1, Nat.le_refl _, by simp [maxLen], rfl, rfl⟩⟩
  have hbel0 : Below R w1 ((w1.alloc (rdObj g cap P 0 false)).alloc (.cells #[] 83)) := ((Below.refl _ _).alloc (Nat.le_of_eq hR.symm) _).alloc (by simp; omega) _
  have HC0 := hideP2 hc0
  have HO0 := hideP2 hrow0
  have HBe0 := hideP2 hbel0
  have HRs := hideP2 hR
  have hgR : g < R := by omega
  have hwR : w.heap.size < R := by omega
  clear hc0 hrow0 hbel0 HTok
  go_wp2_with fail
  clear hR hg1 hsz1
  go_loopw [4] (fun lv wr => ∃ (n : Nat) (s : St) (ls : List LX), wr.ownsRow (R + 1) 83 11 lv ls.length (flatL ls) ∧ Hid (CtxS wr R g cap P s) ∧ Hid (AllRows wr (R + 1) ls) ∧ Hid (Below R w1 wr) ∧ Hid (ls.length + togo P s ≤ 2 * P.length + 1 ∧ togo P s ≤ n ∧ pLines P n s (ls.map Prod.fst) = F)) (fun _ wr => readMeas P R wr)
  case atStart => exact ⟨2 * P.length + 1, (0, false), [], HO0.out, HC0, hideP2 (fun x hx => by cases hx), HBe0, hideP2 ⟨by show 0 + (2 * (P.length - 0) + 1) ≤ _; omega, by show 2 * (P.length - 0) + 1 ≤ _; omega, HRB.out.symm⟩⟩
  case round =>
    obtain ⟨n, s, ls, hown, HC, HA, HBe, HH⟩ := hrel
    clear HC0 HO0 HBe0 HRB
    obtain ⟨c0, c1, c2⟩ := HC.out.cells
    have hat := HC.out.at'
    cases hf : s.2
    · rw [hf] at c2
      by_cases hk : (cur P s.1).k = 0
      · have hE : F = (ls.map Prod.fst, s) := by rw [← HH.out.2.2]; exact pLines_exit P n s _ (.inr hk)
        have HE := hideP2 hE
        have HS2 := hideP2 hf
        have HF2 : Hid (F.2.2 = false) := by unfold Hid; rw [hE]; exact hf
        have HK := hideP2 hk
        have bz : wr.heap[w.heap.size]? = some (.cells #[.slice none 0 0, .int .i64 0, .int .i64 0] 48 (0, 0)) := by rw [HBe.out.block w.heap.size hwR]; exact b1
        have cz := fun j => cell_of_row _ _ j _ _ _ bz
        have fz : ∀ o, wr.frozen? ⟨w.heap.size, o, none⟩ = false := fun o => by simp [World.frozen?, bz]
        have HFin : Hid (Below w.heap.size w wr) := HB1.out.trans (HBe.out.mono (Nat.le_of_lt hwR))
        clear hE hf hk HH b1
        go_wp2_with fail
        refine (next_s R g cap P _ s 0 HC.out).mono ?_
        rintro e w2 ⟨rfl, hc2, hk2⟩
        rw [show ((cur P s.1).k == 0) = true by rw [HK.out]; rfl]
        have hown2 := owns_keeps hown hk2 (Nat.lt_succ_self R)
        have HA2 := hideP2 (HA.out.keeps hk2 (Nat.lt_succ_self R))
        have hlt := hk2.size
        have b2 : w2.heap[w.heap.size]? = some (.cells #[.slice none 0 0, .int .i64 0, .int .i64 0] 48 (0, 0)) := hb_keeps bz hk2 (by omega)
        have cz2 := fun j => cell_of_row _ _ j _ _ _ b2
        have fz2 : ∀ o, w2.frozen? ⟨w.heap.size, o, none⟩ = false := fun o => by simp [World.frozen?, b2]
        have HB2 : Hid (Below w.heap.size w w2) := HFin.out.trans (hk2.below (Nat.le_trans (Nat.le_of_lt hwR) (Nat.le_of_lt HC.out.rlt)) (Nat.le_of_lt hwR))
        have d2 : w2.cell? ⟨R, 2, none⟩ = some (.bool false) := by have h9 := hc2.cells.2.2; rw [HS2.out] at h9; exact h9
        have HC2 := hideP2 hc2
        obtain ⟨la, ln, lc, rfl⟩ := own_slice hown2
        have HO2 := hideP2 hown2
        clear hown hown2 hc2 hk2 HC HA HBe c0 c1 c2 cz fz bz
        go_wp2_with fail
        refine bodyPost_ret (v := readV (.slice la ln lc) 0 0) (by simp (maxDischargeDepth := 8) [results, Tryz.results17, go_sem, readV, cz2]) rfl ⟨?_, ((HB2.out.setCell (Nat.le_refl _) _).setCell (Nat.le_refl _) _).setCell (Nat.le_refl _) _⟩
        rw [HRI.out, HF2.out]
        refine ⟨_, ls, rfl, by rw [HE.out], owns_base2 (b := R + 1) ?_ (by omega), AllRows.base (B := R + 1) ?_ (by omega)⟩
        · repeat (with_reducible refine owns_set ?_ (by omega))
          exact HO2.out
        · repeat (with_reducible refine AllRows.set ?_ (by omega))
          exact HA2.out
      · obtain ⟨hh1, hh2, hh3⟩ := HH.out
        obtain ⟨n, rfl⟩ : ∃ k, n = k + 1 := by
          refine ⟨n - 1, ?_⟩
          have h9 : 1 ≤ togo P s := by unfold togo; rw [hf]; simp only; omega
          omega
        rw [pLines, hf] at hh3
        simp only [if_neg hk] at hh3
        have htg := togo_line hf hat
        have HM : Hid (readMeas P R wr = togo P s) := Ctx.readMeas HC.out
        have HK : Hid (((cur P s.1).k == 0) = false) := by unfold Hid; simpa using hk
        have HE := hideP2 hh3
        have hls : ls.length ≤ 10000 := by have h9 := HP1.out; omega
        have HL1 := hideP2 hh1
        have HN1 := hideP2 hh2
        have HRl := HC.out.rlt
        clear hh1 hh2 hh3 HH hk hf
        go_wp2_with fail
        refine (next_s R g cap P _ s 0 HC.out).mono ?_
        rintro e w2 ⟨rfl, hc2, hk2⟩
        rw [HK.out]
        have hown2 := owns_keeps hown hk2 (Nat.lt_succ_self R)
        have HA2 := hideP2 (HA.out.keeps hk2 (Nat.lt_succ_self R))
        have HBe2 : Hid (Below R w1 w2) := HBe.out.trans (hk2.below (Nat.le_of_lt HRl) (Nat.le_refl R))
        have HC2 := hideP2 hc2
        have HR2 := hc2.rlt
        clear hown hc2 hk2 HA HBe c0 c1 c2 HC HK
        go_wp2_with fail
        refine (line_s w2 R g cap P s HC2.out).mono ?_
        rintro e w3 ⟨sv, nv, rfl, hlr, hc3, hk3⟩
        have hown3 := owns_keeps hown2 hk3 (Nat.lt_succ_self R)
        have HA3 := hideP2 (HA2.out.keeps hk3 (Nat.lt_succ_self R))
        have HBe3 : Hid (Below R w1 w3) := HBe2.out.trans (hk3.below (Nat.le_of_lt HR2) (Nat.le_refl R))
        have HLR : Hid (LineRows w3 (R + 1) sv nv (pLine P s).1) := hlr.base HR2
        have HC3 := hideP2 hc3
        have HR3 := hc3.rlt
        obtain ⟨sva, svn, svc, rfl⟩ := own_slice hlr.1
        obtain ⟨nva, nvn, nvc, rfl⟩ := own_slice hlr.2
        have HOB := hideP2 (own_block_lt hown3)
        generalize pLine P s = pl at *
        obtain ⟨x, s2⟩ := pl
        simp only at HC3 HLR HE htg
        have hx : lineC (x, (Value.slice sva svn svc, Value.slice nva nvn nvc)) = [.int .i64 x.kind, .string ⟨x.name.toArray⟩, .int .i64 x.low, .int .i64 x.high, .string ⟨x.conc.toArray⟩, .slice sva svn svc, .slice nva nvn nvc, .int .i64 x.root, .int .i64 x.tests, .int .i64 x.dep, .string ⟨x.lower.toArray⟩] := rfl
        have HX := hideP2 hx
        clear hown2 hc3 hk3 hlr HA2 HBe2 HC2 hx
        unfold lineV
        have hi0 := HI0.out; have hz0 := HZ0.out; have hz1 := HZ1.out; have hz2 := HZ2.out
        go_wp2_with (at_builtin; refine wpList_append_own _ rfl _ _ 46 rfl (R + 1) 83 i0 _ 11 144 Tryz.underlying46 hi0 hz0 hz1 hz2 rfl (by decide) _ _ _ rfl ((hown3.alloc _).alloc _) ⟨w3.heap.size + 1, 0, none⟩ 1 1 (lineC (x, (Value.slice sva svn svc, Value.slice nva nvn nvc))) rfl rfl ?c1 ?c2 ?c3 ?c4 ?c5 ?_)
        case c1 => rw [HX.out]; exact news_cellsH _ _ _ _ rfl (by simp)
        case c2 => rw [HX.out]; intro u hu; simp at hu; rcases hu with rfl | rfl | rfl | rfl | rfl | rfl | rfl | rfl | rfl | rfl | rfl <;> rfl
        case c3 => unfold maxLen; omega
        case c4 => omega
        case c5 => simp; omega
        intro v' w4 hown4 hgrow _
        have hc4 : CtxS w4 R g cap P s2 := Ctx.grown (Ctx.alloc (Ctx.alloc HC3.out _) _) hgrow
          (fun e => by have h1 := (HOB.out R e).1; omega) (fun e => by have h1 := (HOB.out g e).1; omega)
        have ha4 : AllRows w4 (R + 1) (ls ++ [(x, (Value.slice sva svn svc, Value.slice nva nvn nvc))]) := by
          refine AllRows.grown (B' := R + 1) (fun y hy => ?_) ((hown3.alloc _).alloc _) hgrow
          rcases List.mem_append.1 hy with hy | hy
          · exact ((HA3.out.alloc _).alloc _) y hy
          · rw [List.mem_singleton.1 hy]
            exact ⟨(HLR.out.1.alloc _).alloc _, (HLR.out.2.alloc _).alloc _⟩
        have HBe4 : Hid (Below R w1 w4) := ((HBe3.out.alloc (by omega) _).alloc (by simp; omega) _).grown hgrow (by simp; omega) (fun k hk => by have h1 := (HOB.out k hk).1; omega)
        have HC4 := hideP2 hc4
        have HA4 := hideP2 ha4
        have hown4' : w4.ownsRow (R + 1) 83 11 v' (ls ++ [(x, (Value.slice sva svn svc, Value.slice nva nvn nvc))]).length (flatL (ls ++ [(x, (Value.slice sva svn svc, Value.slice nva nvn nvc))])) := by rw [flatL_snoc, List.length_append]; exact hown4
        have HT4 : Hid (readMeas P R w4 = togo P s2) := Ctx.readMeas hc4
        clear hown3 hown4 hgrow HOB hc4 ha4 HC3 HA3 HBe3 HLR hi0 hz0 hz1 hz2
        go_wp2_with fail
        go_roundw
        case rel => exact ⟨n, s2, _, hown4', HC4, HA4, HBe4, hideP2 ⟨by have h1 := HL1.out; rw [List.length_append, List.length_singleton]; omega, by have h1 := HN1.out; omega, by rw [List.map_append]; exact HE.out⟩⟩
        case measure => rw [HM.out, HT4.out]; exact htg
    · have hE : F = (ls.map Prod.fst, s) := by rw [← HH.out.2.2]; exact pLines_exit P n s _ (.inl hf)
      have HE := hideP2 hE
      have HF2 : Hid (F.2.2 = true) := by unfold Hid; rw [hE]; exact hf
      have HF1 : Hid (F.2.1 = s.1) := by unfold Hid; rw [hE]
      rw [hf] at c2
      have bz : wr.heap[w.heap.size]? = some (.cells #[.slice none 0 0, .int .i64 0, .int .i64 0] 48 (0, 0)) := by rw [HBe.out.block w.heap.size hwR]; exact b1
      have cz := fun j => cell_of_row _ _ j _ _ _ bz
      have fz : ∀ o, wr.frozen? ⟨w.heap.size, o, none⟩ = false := fun o => by simp [World.frozen?, bz]
      have HFin : Hid (Below w.heap.size w wr) := HB1.out.trans (HBe.out.mono (Nat.le_of_lt hwR))
      obtain ⟨_, _, _, t3⟩ := HC.out.tok s.1 hat
      have i1 : (0 : Int) ≤ (s.1 : Int) := by omega
      have i2 : (s.1 : Int) < (P.length : Int) := by omega
      generalize hcu : (cur P s.1).p = pp at *
      have HCu := hideP2 hcu
      clear hE hf HH b1 hcu hown HA HBe
      go_wp2_with fail
      refine bodyPost_ret (v := readV (.slice none 0 0) 2 pp) (by simp (maxDischargeDepth := 8) [results, Tryz.results17, go_sem, readV, cz]) rfl ⟨?_, ((HFin.out.setCell (Nat.le_refl _) _).setCell (Nat.le_refl _) _).setCell (Nat.le_refl _) _⟩
      rw [HRI.out, HF2.out, HF1.out, HCu.out]
end Go.Proofs.YtnbpdffdnphbeaaGreat

/- What put and endLine of the writer do. -/
namespace Go.Proofs.YtnbpdffdnphbeaaGreat
open Go.RowKit

def bC (l : Bs) : List Value := l.map fun b => Value.int .u8 b.toNat
theorem bC_append (a b : Bs) : bC (a ++ b) = bC a ++ bC b := by simp [bC]
theorem bC_len (a : Bs) : (bC a).length = a.length := by simp [bC]

theorem wr_grown {w w' : World} {W : Nat} {x : Obj} {size : Nat} {v : Value} {n : Nat} {xs : List Value} (h : w.heap[W]? = some x) (hown : w.ownsRow (W + 1) 5 size v n xs) (hg : w.grownBy w' v.ownBlock) (hW : W < w.heap.size) : w'.heap[W]? = some x := by
  rw [hg.block W hW (fun e => by have := (own_block_lt hown W e.symm).1; omega)]; exact h

theorem infoByte : (Tryz.prog.info? 5).map (fun i => (i.zero, i.size, i.bytes)) = some (some (.int .u8 0), 1, 1) := by kernel_rfl

def putB (out : Bs) (il : Bool) (t : Bs) : Bs := (match il with | true => out ++ [32] | false => out) ++ t

end Go.Proofs.YtnbpdffdnphbeaaGreat

/- strconv.Itoa by the guide's contract, laid at this translation. -/
namespace Go.Proofs
open Go.Shelf


end Go.Proofs

/- The writer's place in memory, and what putNumber does. -/
namespace Go.Proofs.YtnbpdffdnphbeaaGreat
open Go.RowKit

def Tab (w : World) : Prop := Lib.TabIs Tryz.prog w "internal/strconv.uint64pow10" .u64 Lib.pow10Tab

abbrev WSt := Bs × Bool
theorem Tab.below {w w' : World} {W : Nat} (h : Tab w) (hg : ∃ g, Tryz.prog.globalNamed "internal/strconv.uint64pow10" = some g ∧ g < W) (hb : Below W w w') : Tab w' := by
  obtain ⟨g, h1, h2⟩ := hg
  exact var?_below hb h1 h2 h

theorem grow_kept {w : World} {k : Nat} {os : Array Obj} {i : Nat} {x : Obj} (h : w.heap[i]? = some x) : (Sort.grow (w.drewN k) os).heap[i]? = some x := by
  have hi : i < w.heap.size := by
    rcases Nat.lt_or_ge i w.heap.size with h1 | h1
    · exact h1
    · rw [Array.getElem?_eq_none h1] at h; cases h
  have hd : (w.drewN k).heap = w.heap := by simp
  rw [Sort.heap_grow_old _ _ (by rw [hd]; exact hi), hd]; exact h

def wPut (t : Bs) (st : WSt) : WSt := (putB st.1 st.2 t, true)
def wNum (n : Int) (st : WSt) : WSt := wPut (Lib.itoa n) st

theorem wPut_le (t : Bs) (st : WSt) : st.1.length + t.length ≤ (wPut t st).1.length := by
  obtain ⟨o, il⟩ := st; cases il <;> simp [wPut, putB] <;> omega

def bigW : Nat := 5000000

theorem putB_len (o : Bs) (il : Bool) (t : Bs) : o.length + t.length ≤ (putB o il t).length := by cases il <;> simp [putB] <;> omega

end Go.Proofs.YtnbpdffdnphbeaaGreat

/- What operand and test of the writer do. -/
namespace Go.Proofs.YtnbpdffdnphbeaaGreat
open Go.RowKit

theorem wle (t : Bs) (st : WSt) {n : Nat} (h : (wPut t st).1.length ≤ n) : st.1.length ≤ n := Nat.le_trans (Nat.le_trans (Nat.le_add_right _ _) (wPut_le t st)) h

/-- What a test becomes. -/
def wTest (x : PNode) (st : WSt) : WSt :=
  if x.kind = 4 then wPut [97, 108, 119, 97, 121, 115] st
  else if x.kind = 5 then wPut x.name (wPut [104, 97, 115] st)
  else if x.kind = 6 then wPut x.name st
  else if x.other.isEmpty = true then wNum x.num (wPut x.mark (wPut x.name st))
  else wPut x.other (wPut x.mark (wPut x.name st))

end Go.Proofs.YtnbpdffdnphbeaaGreat

/- What node, side, negated and bracketed of the writer do. -/
namespace Go.Proofs.YtnbpdffdnphbeaaGreat
open Go.RowKit

def nz : PNode := ⟨0, 0, 0, [], [], [], 0⟩
def nAt (N : List PNode) (a : Nat) : PNode := N.getD a nz

def sideW (N : List PNode) (f : Nat → WSt → WSt) (a : Nat) (st : WSt) : WSt := if (nAt N a).kind = 1 then wPut kShut (f a (wPut kOpen st)) else f a st
def negW (N : List PNode) (f : Nat → WSt → WSt) (a : Nat) (st : WSt) : WSt := if (nAt N a).kind = 1 ∨ (nAt N a).kind = 2 then wPut kShut (f a (wPut kOpen st)) else f a st

/-- What a node of a guard becomes. -/
def wNode (N : List PNode) : Nat → Nat → WSt → WSt
  | 0, _, st => st
  | n + 1, a, st =>
    if (nAt N a).kind = 1 then wNode N n (nAt N a).right.toNat (wPut kOr (wNode N n (nAt N a).left.toNat st))
    else if (nAt N a).kind = 2 then sideW N (wNode N n) (nAt N a).right.toNat (wPut kAnd (sideW N (wNode N n) (nAt N a).left.toNat st))
    else if (nAt N a).kind = 3 then negW N (wNode N n) (nAt N a).left.toNat (wPut kNot st)
    else wTest (nAt N a) st

def wBr (N : List PNode) (n : Nat) (a : Nat) (st : WSt) : WSt := wPut kShut (wNode N n a (wPut kOpen st))
def wSide (N : List PNode) (n : Nat) (a : Nat) (st : WSt) : WSt := sideW N (wNode N n) a st
def wNeg (N : List PNode) (n : Nat) (a : Nat) (st : WSt) : WSt := negW N (wNode N n) a st

/-- Each node stands behind those that it is made of; its number is small. -/
def GoodN (N : List PNode) : Prop := ∀ a, a < N.length →
  ((nAt N a).kind = 1 → 0 ≤ (nAt N a).left ∧ (nAt N a).left < a ∧ 0 ≤ (nAt N a).right ∧ (nAt N a).right < a) ∧
  ((nAt N a).kind = 2 → 0 ≤ (nAt N a).left ∧ (nAt N a).left < a ∧ 0 ≤ (nAt N a).right ∧ (nAt N a).right < a) ∧
  ((nAt N a).kind = 3 → 0 ≤ (nAt N a).left ∧ (nAt N a).left < a) ∧
  (¬ (nAt N a).kind = 1 → ¬ (nAt N a).kind = 2 → ¬ (nAt N a).kind = 3 → (4 ≤ (nAt N a).kind ∧ (nAt N a).kind ≤ 7) ∧ 0 ≤ (nAt N a).num ∧ (nAt N a).num ≤ 9999)

theorem wle' (t : Bs) (st : WSt) : st.1.length ≤ (wPut t st).1.length := Nat.le_trans (Nat.le_add_right _ _) (wPut_le t st)
theorem wTest_le (x : PNode) (st : WSt) : st.1.length ≤ (wTest x st).1.length := by
  unfold wTest
  split
  · exact wle' _ _
  · split
    · exact Nat.le_trans (wle' _ _) (wle' _ _)
    · split
      · exact wle' _ _
      · split
        · exact Nat.le_trans (wle' _ _) (Nat.le_trans (wle' _ _) (wle' _ _))
        · exact Nat.le_trans (wle' _ _) (Nat.le_trans (wle' _ _) (wle' _ _))
theorem sideW_le (N : List PNode) (f : Nat → WSt → WSt) (hf : ∀ a st, st.1.length ≤ (f a st).1.length) (a : Nat) (st : WSt) : st.1.length ≤ (sideW N f a st).1.length := by
  unfold sideW; split
  · exact Nat.le_trans (wle' _ _) (Nat.le_trans (hf _ _) (wle' _ _))
  · exact hf _ _
theorem negW_le (N : List PNode) (f : Nat → WSt → WSt) (hf : ∀ a st, st.1.length ≤ (f a st).1.length) (a : Nat) (st : WSt) : st.1.length ≤ (negW N f a st).1.length := by
  unfold negW; split
  · exact Nat.le_trans (wle' _ _) (Nat.le_trans (hf _ _) (wle' _ _))
  · exact hf _ _
theorem wNode_le (N : List PNode) (n : Nat) : ∀ a st, st.1.length ≤ (wNode N n a st).1.length := by
  induction n with
  | zero => intro a st; exact Nat.le_refl _
  | succ n ih =>
    intro a st; rw [wNode]
    split
    · exact Nat.le_trans (ih _ _) (Nat.le_trans (wle' _ _) (ih _ _))
    · split
      · exact Nat.le_trans (sideW_le N _ ih _ _) (Nat.le_trans (wle' _ _) (sideW_le N _ ih _ _))
      · split
        · exact Nat.le_trans (wle' _ _) (negW_le N _ ih _ _)
        · exact wTest_le _ _

/-- The nodes lie in block gN. -/
structure NodB (w : World) (gN : Nat) (cur : Array Value) (N : List PNode) : Prop where
  blk : w.heap[gN]? = some (.cells cur 122 (0, 0))
  row : cur.toList.take (N.length * 7) = flatN N

theorem NodB.new {w : World} {gN : Nat} {cur : Array Value} {N : List PNode} (h : NodB w gN cur N) (o : Obj) : NodB (w.alloc o) gN cur N := ⟨hb_new h.blk, h.row⟩

theorem flatN_get (N : List PNode) : ∀ i, i < N.length → ∀ j, j < 7 → (flatN N)[i * 7 + j]? = (nodeC (nAt N i))[j]? := by
  induction N with
  | nil => intro i h; simp at h
  | cons t r ih =>
    intro i h j hj
    have e : flatN (t :: r) = nodeC t ++ flatN r := by simp [flatN]
    have hl : (nodeC t).length = 7 := rfl
    cases i with
    | zero => rw [e, List.getElem?_append_left (by rw [hl]; omega)]; simp [nAt]
    | succ i =>
      rw [e, List.getElem?_append_right (by rw [hl]; omega), hl, show (i + 1) * 7 + j - 7 = i * 7 + j by omega, ih i (by simpa using h) j hj]
      simp [nAt]

theorem NodB.cells {w : World} {gN : Nat} {cur : Array Value} {N : List PNode} (h : NodB w gN cur N) {a : Nat} (ha : a < N.length) :
    w.cell? ⟨gN, a * 7, none⟩ = some (.int .i64 (nAt N a).kind) ∧ w.cell? ⟨gN, a * 7 + 1, none⟩ = some (.int .i64 (nAt N a).left) ∧ w.cell? ⟨gN, a * 7 + 2, none⟩ = some (.int .i64 (nAt N a).right) ∧ w.cell? ⟨gN, a * 7 + 3, none⟩ = some (.string ⟨(nAt N a).name.toArray⟩) ∧ w.cell? ⟨gN, a * 7 + 4, none⟩ = some (.string ⟨(nAt N a).mark.toArray⟩) ∧ w.cell? ⟨gN, a * 7 + 5, none⟩ = some (.string ⟨(nAt N a).other.toArray⟩) ∧ w.cell? ⟨gN, a * 7 + 6, none⟩ = some (.int .i64 (nAt N a).num) := by
  have hg := fun j (hj : j < 7) => flatN_get N a ha j hj
  refine ⟨cell_take2 h.blk h.row (hg 0 (by omega)), cell_take2 h.blk h.row (hg 1 (by omega)), cell_take2 h.blk h.row (hg 2 (by omega)), cell_take2 h.blk h.row (hg 3 (by omega)), cell_take2 h.blk h.row (hg 4 (by omega)), cell_take2 h.blk h.row (hg 5 (by omega)), cell_take2 h.blk h.row (hg 6 (by omega))⟩

end Go.Proofs.YtnbpdffdnphbeaaGreat

/- What node of the writer does: the text of a guard. -/
namespace Go.Proofs.YtnbpdffdnphbeaaGreat
open Go.RowKit

theorem NodB.lt {w : World} {gN : Nat} {cur : Array Value} {N : List PNode} (h : NodB w gN cur N) : gN < w.heap.size := by
  rcases Nat.lt_or_ge gN w.heap.size with h1 | h1
  · exact h1
  · have h2 := h.blk; rw [Array.getElem?_eq_none h1] at h2; cases h2

end Go.Proofs.YtnbpdffdnphbeaaGreat
