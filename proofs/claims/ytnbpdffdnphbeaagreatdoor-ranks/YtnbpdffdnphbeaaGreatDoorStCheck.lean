/- What Check of the program gives of a text. -/
import Derived.Test.YtnbpdffdnphbeaaGreatDoorCkAll
import Derived.Test.YtnbpdffdnphbeaaGreatDoorStTidy
import Derived.Test.YtnbpdffdnphbeaaGreatDoorRfHeads
import Derived.Test.YtnbpdffdnphbeaaGreatDoorRfFault
import Derived.Test.YtnbpdffdnphbeaaGreatDoorLex4
namespace Go.Proofs.YtnbpdffdnphbeaaGreatDoor
open Go.RowKit

/-- The program's answer of a text. -/
def chkP (l : Bs) : Int × Int := if 4000 < l.length then (1, 0) else match (readB l).2.2 with | true => (2, ((cur (toP l) (readB l).2.1).p : Int)) | false => checkL (readB l).1

theorem lin_of {w : World} {B : Nat} {lv : Value} {ls : List LX} (h : LinesM w B lv ls) (hg : ∀ x ∈ ls, GoodP x.1) (hf : ls.length ≤ 10000) : ∃ a c, lv = .slice a ls.length c ∧ ls.length ≤ c ∧ LinV w a ls := by
  have hrows : ∀ x ∈ ls, LineC w x := fun x hx => by
    refine ⟨LineB.of_rows (h.2 x hx), hg x hx, ?_⟩
    rcases (h.2 x hx).2.2 with ⟨_, h2⟩ | ⟨_, cap, _, _, _, _, h4, h5, _, _⟩
    · rw [h2]; exact Nat.zero_le _
    · exact Nat.le_trans h4 h5
  rcases h.1.2 with ⟨h1, h2⟩ | ⟨gl, cap, cur, h1, _, h3, h4, _, _, h7⟩
  · exact ⟨none, 0, by rw [h1, h2], by omega, ⟨fun h0 => by omega, hrows, hf⟩⟩
  · exact ⟨_, cap, h1, h4, ⟨fun _ => ⟨gl, cur, rfl, h3, h7⟩, hrows, hf⟩⟩

set_option maxHeartbeats 1000000 in
theorem StCheck_err (l : Bs) (w : World) (k : Int) (hk : k = 1 ∨ k = 2) (p : Int) (hR : Calls Tryz.prog 60 #[.string ⟨l.toArray⟩] w fun e w' => e = .returned (readV (.slice none 0 0) k p) ∧ Below w.heap.size w w') :
    Calls Tryz.prog 25 #[.string ⟨l.toArray⟩] w fun e w' => e = .returned (.tuple #[.int .i64 k, .int .i64 p]) ∧ Below w.heap.size w w' := by
  have HR := hideP2 hR
  have e1 : (k != 0) = true := by rcases hk with rfl | rfl <;> rfl
  clear hR hk
  go_enter Tryz.func25, Tryz.ntmps25
  go_wp2_with fail
  refine HR.out.mono ?_
  rintro e w1 ⟨rfl, hb⟩
  have HB := hideP2 hb
  have hs := hb.size
  clear hb HR
  unfold readV
  go_wp2_with fail
  go_quiet (fail)
  go_wp2_with fail
  go_ret2
  exact ⟨rfl, below_drewN (HB.out.alloc hs _) _⟩

set_option maxHeartbeats 1000000 in
theorem StCheck_any (l : Bs) (w : World) (hmax : l.length ≤ maxLen) (hg : l.length ≤ 4000 → (readB l).2.2 = false → ∀ x ∈ (readB l).1, GoodP x) (hm : l.length ≤ 4000 → (readB l).1.length ≤ 10000) :
    Calls Tryz.prog 25 #[.string ⟨l.toArray⟩] w fun e w' => e = .returned (.tuple #[.int .i64 (chkP l).1, .int .i64 (chkP l).2]) ∧ Below w.heap.size w w' := by
  by_cases hl : 4000 < l.length
  · have e : chkP l = (1, 0) := by unfold chkP; rw [if_pos hl]
    rw [e]
    exact StCheck_err l w 1 (.inl rfl) 0 (BookRead_long l w hmax hl)
  · have hR := BookRead_any l w (by omega)
    have hg := hg (by omega)
    have hm := hm (by omega)
    cases hf : (readB l).2.2
    · have e : chkP l = checkL (readB l).1 := by unfold chkP; rw [if_neg hl, hf]
      rw [e]
      have hg := hg hf
      have HR := hideP2 hR
      have HRI : Hid (∀ w' e, ReadIs w w' l e → ∃ lv ls, e = .returned (readV lv 0 0) ∧ ls.map Prod.fst = (readB l).1 ∧ LinesM w' w.heap.size lv ls) := by
        intro w' e h; unfold ReadIs at h; rw [hf] at h; exact h
      generalize (readB l).1 = F at *
      have HG := hideP2 hg
      have HMn := hideP2 hm
      clear hR hg hm hf e
      generalize hck : checkL F = ck at *
      have HCk := hideP2 hck
      clear hck
      obtain ⟨ck1, ck2⟩ := ck
      go_enter Tryz.func25, Tryz.ntmps25
      go_wp2_with fail
      refine HR.out.mono ?_
      rintro e w1 ⟨hri, hb⟩
      obtain ⟨lv, ls, rfl, hmap, hlin⟩ := HRI.out _ _ hri
      have HB := hideP2 hb
      have hs := hb.size
      have hLn : ls.length ≤ 10000 := by have h9 := congrArg List.length hmap; rw [List.length_map] at h9; rw [h9]; exact HMn.out
      obtain ⟨la, lc, rfl, hlc, hlv⟩ := lin_of hlin (fun x hx => HG.out _ (by rw [← hmap]; exact List.mem_map.2 ⟨x, hx, rfl⟩)) hLn
      have HCl : Hid (∀ o, Calls Tryz.prog 62 #[.slice la ls.length lc] (w1.alloc o) fun e w' => e = .returned (faultV (ck1, ck2)) ∧ Below (w1.alloc o).heap.size (w1.alloc o) w') := fun o => by
        have := Lines_s (w1.alloc o) la lc ls hlc (hlv.below ((Below.refl _ _).alloc (Nat.le_refl _) o) (Nat.le_refl _))
        rw [show fs ls = F from hmap, HCk.out] at this
        exact this
      clear hb hri hlin hlv hmap HR HRI HG HMn HCk
      unfold readV
      go_wp2_with fail
      refine (HCl.out _).mono ?_
      rintro e w2 ⟨rfl, hb2⟩
      have HB2 : Hid (Below w.heap.size w w2) := (HB.out.alloc hs _).trans (hb2.mono (by simp; omega))
      have hs2 := HB2.out.size
      clear hb2 HCl
      unfold faultV
      go_wp2_with fail
      go_quiet (fail)
      go_wp2_with fail
      go_ret2
      exact ⟨rfl, below_drewN (HB2.out.alloc hs2 _) _⟩
    · have e : chkP l = (2, ((cur (toP l) (readB l).2.1).p : Int)) := by unfold chkP; rw [if_neg hl, hf]
      rw [e]
      refine StCheck_err l w 2 (.inr rfl) _ (hR.mono ?_)
      rintro e w' ⟨h1, h2⟩
      unfold ReadIs at h1
      rw [hf] at h1
      exact ⟨h1, h2⟩
end Go.Proofs.YtnbpdffdnphbeaaGreatDoor

/- What Check of the document's answer gives of a text; and that it is the program's answer. -/
namespace Go.Proofs.YtnbpdffdnphbeaaGreatDoor
open Go.RowKit

def crowdG (us : List Toks) : Nat → Nat → Option Nat
  | 0, _ => none
  | n + 1, i => if crowdR us i = true then some i else crowdG us n (i + 1)
def faultG (us : List Toks) : Nat → Nat → Option Nat
  | 0, _ => none
  | n + 1, i => if faultR us i = 0 then faultG us n (i + 1) else some i
def ringsU (us : List Toks) : Int × Int := if ringU us false = true then (7, 0) else if ringU us true = true then (7, 1) else (0, 0)
def faultsU (us : List Toks) : Int × Int := match faultG us us.length 0 with | some i => (faultR us i, (i : Int)) | none => ringsU us
/-- The document's answer of lines. -/
def docL (us : List Toks) : Int × Int := match crowdG us us.length 0 with | some i => (3, (i : Int)) | none => faultsU us

theorem crowdG_same {ls : List PLine} {us : List Toks} (hA : AllLT ls us) (n : Nat) : ∀ i, i + n = us.length → crowdG us n i = manyG ls n i := by
  induction n with
  | zero => intro i _; rfl
  | succ n ih => intro i h; rw [crowdG, manyG, crowd_same hA (by omega), ih (i + 1) (by omega)]
theorem faultG_same {ls : List PLine} {us : List Toks} (hA : AllLT ls us) (n : Nat) : ∀ i, i + n = us.length → faultG us n i = errG ls n i := by
  induction n with
  | zero => intro i _; rfl
  | succ n ih => intro i h; rw [faultG, errG, fault_same hA (by omega), ih (i + 1) (by omega)]
theorem faultG_hit (us : List Toks) (n : Nat) : ∀ i j, faultG us n i = some j → i ≤ j ∧ j < i + n := by
  induction n with
  | zero => intro i j h; simp [faultG] at h
  | succ n ih => intro i j h; rw [faultG] at h; split at h
                 · have := ih _ _ h; omega
                 · obtain rfl := Option.some.inj h; omega
theorem manyG_none {ls : List PLine} (n : Nat) : ∀ i, manyG ls n i = none → ∀ j, i ≤ j → j < i + n → manyP ls j = false := by
  induction n with
  | zero => intro i _ j h1 h2; omega
  | succ n ih =>
    intro i h j h1 h2
    rw [manyG] at h
    split at h
    · cases h
    · rename_i hm
      by_cases hj : j = i
      · subst hj; simpa using hm
      · exact ih (i + 1) h j (by omega) (by omega)
theorem errG_none {ls : List PLine} (n : Nat) : ∀ i, errG ls n i = none → ∀ j, i ≤ j → j < i + n → errP ls j = 0 := by
  induction n with
  | zero => intro i _ j h1 h2; omega
  | succ n ih =>
    intro i h j h1 h2
    rw [errG] at h
    split at h
    · rename_i hm
      by_cases hj : j = i
      · subst hj; exact hm
      · exact ih (i + 1) h j (by omega) (by omega)
    · cases h
theorem cntK_app (k : Int) (xs ys : List PLine) : cntK k (xs ++ ys) = cntK k xs + cntK k ys := by
  induction xs with
  | nil => simp [cntK]
  | cons x r ih => rw [List.cons_append, cntK, ih, cntK]; omega
theorem few_rules {ls : List PLine} (h : ∀ i, i < ls.length → manyP ls i = false) : cntK 3 ls ≤ 8 := by
  have key : ∀ n, n ≤ ls.length → cntK 3 (ls.take n) ≤ 8 := by
    intro n
    induction n with
    | zero => intro _; simp [cntK]
    | succ n ih =>
      intro hn
      rw [take_succ_lA ls n (by omega), cntK_app]
      have ih := ih (by omega)
      by_cases hk : (lA ls n).kind = 3
      · have hm := h n (by omega)
        unfold manyP at hm
        rw [Bool.or_eq_false_iff, decide_eq_false_iff_not, hk] at hm
        have hl : limP 3 = 8 := by decide
        rw [hl] at hm
        simp only [cntK, hk, if_true]
        omega
      · simp only [cntK, if_neg hk]; omega
  have := key ls.length (Nat.le_refl _)
  rwa [List.take_length] at this

theorem docL_same {ls : List PLine} {us : List Toks} (hA : AllLT ls us) : docL us = checkL ls := by
  have hl := hA.len
  unfold docL checkL
  rw [crowdG_same hA us.length 0 (by omega), ← hl]
  cases hm : manyG ls ls.length 0 with
  | some i => rfl
  | none =>
    simp only
    unfold faultsU errsP
    rw [faultG_same hA us.length 0 (by omega), ← hl]
    cases he : errG ls ls.length 0 with
    | some i =>
      simp only
      have hi : i < us.length := by
        have h1 := faultG_same hA us.length 0 (by omega)
        rw [← hl, he] at h1
        have := faultG_hit us ls.length 0 i (by rw [h1])
        omega
      rw [fault_same hA hi]
    | none =>
      simp only
      have h1 := fun i (hi : i < ls.length) => manyG_none ls.length 0 hm i (Nat.zero_le _) (by omega)
      have h2 := fun i (hi : i < ls.length) => errG_none ls.length 0 he i (Nat.zero_le _) (by omega)
      have h8 := few_rules h1
      have hn : (labsB ls).Nodup := by
        refine labs_nodup ls (fun i hi hk => ?_)
        have := h2 i hi
        unfold errP at this
        rw [if_neg (by rw [hk]; decide), if_neg (by rw [hk]; decide), if_pos hk] at this
        unfold ruleE at this
        split at this
        · cases this
        · rename_i hh
          cases hx : hasL (ls.take i) 3 (lA ls i).name with
          | false => rfl
          | true => rw [hx] at hh; exact absurd rfl hh
      unfold ringsU ringsP
      rw [ring_heads hA h8, ring_labs hA h8 hn]

/-- The document's lines of a text. -/
def usOf (l : Bs) : List Toks := (linesB (toksAt l 0)).map (segT (toksAt l 0))
def chkR (l : Bs) : Int × Int := if 4000 < l.length then (1, 0) else if 0 ≤ formB l then (2, formB l) else docL (usOf l)

theorem chk_same {n : Nat} {l : Bs} (h : l.length ≤ 4000 → PureT n l ∧ PureC l) : chkR l = chkP l := by
  unfold chkR chkP
  by_cases hl : 4000 < l.length
  · rw [if_pos hl, if_pos hl]
  · rw [if_neg hl, if_neg hl]
    obtain ⟨hT, hC⟩ := h (by omega)
    cases hf : (readB l).2.2
    · rw [if_neg (by have := hT.reads hf; omega)]
      exact docL_same (hC.lines hf)
    · rw [if_pos (hT.fails hf), hC.place hf]

theorem rowL_of {w w' : World} {v : Value} {ts : Toks} (h : LinesIs w w' v ts) (hts : ts.length ≤ 4000) : ∃ a c, v = .slice a ((linesB ts).map (segT ts)).length c ∧ RowL w' a ((linesB ts).map (segT ts)) := by
  obtain ⟨g, cap, hseg, hc, hm, hown⟩ := h
  have hln := linesG_len ts 0 0
  rw [show linesG ts 0 0 = linesB ts from rfl] at hln
  have hsm : ∀ u ∈ (linesB ts).map (segT ts), u.length ≤ 10000 := fun u hu => by
    obtain ⟨p, hp, rfl⟩ := List.mem_map.1 hu
    have := linesB_in ts p hp
    rw [segT_len this]; omega
  rcases owns_lines hown with ⟨h1, h2⟩ | ⟨gl, cl, h1, h2, h3⟩
  · refine ⟨none, 0, by rw [h1, h2]; rfl, ⟨fun h0 => by rw [h2] at h0; simp at h0, by rw [List.length_map]; omega, hsm⟩⟩
  · refine ⟨some ⟨gl, 0, none⟩, cl, by rw [h1, List.length_map], ⟨fun _ => ⟨gl, rfl, fun i hi => ?_⟩, by rw [List.length_map]; omega, hsm⟩⟩
    rw [List.length_map] at hi
    have hcell := h3 i hi
    have hp : (linesB ts).getD i (0, 0) ∈ linesB ts := by simp [List.getD, hi]
    have hin := linesB_in ts _ hp
    have eu : uA ((linesB ts).map (segT ts)) i = segT ts ((linesB ts).getD i (0, 0)) := by
      unfold uA; simp [List.getD, hi]
    rw [eu]
    generalize (linesB ts).getD i (0, 0) = p at *
    refine ⟨g, p.1 * 3, cap - p.1, ?_, ?_, ?_, by omega⟩
    · rw [hcell, segT_len hin]; rfl
    · have := (hseg.drop p.1).take p.2; rw [Nat.zero_add] at this; exact this
    · rw [segT_len hin]; omega

set_option maxHeartbeats 4000000 in
theorem RefCheck_any (l : Bs) (w : World) (hmax : l.length ≤ maxLen) (hf : Folw w) (hA : l.length ≤ 4000 → formB l < 0 → ∃ ls, AllLT ls (usOf l)) :
    Calls Tryz.prog 39 #[.string ⟨l.toArray⟩] w fun e w' => e = .returned (.tuple #[.int .i64 (chkR l).1, .int .i64 (chkR l).2]) ∧ Below w.heap.size w w' := by
  unfold maxLen at hmax
  by_cases hl : 4000 < l.length
  · have HR : Hid (chkR l = (1, 0)) := by unfold Hid chkR; rw [if_pos hl]
    generalize chkR l = ans at *
    clear hA hf
    go_enter Tryz.func39, Tryz.ntmps39
    go_wp2_with fail
    go_ret2
    exact ⟨ret_ints (by rw [HR.out]) (by rw [HR.out]), Below.refl _ _⟩
  · have hl4 : l.length ≤ 4000 := by omega
    have HF := hideP2 (Form_any l w hl4 hf)
    by_cases hfm : 0 ≤ formB l
    · have HR : Hid (chkR l = (2, formB l)) := by unfold Hid chkR; rw [if_neg hl, if_pos hfm]
      generalize chkR l = ans at *
      generalize formB l = fm at *
      clear hA hf
      go_enter Tryz.func39, Tryz.ntmps39
      go_wp2_with fail
      refine HF.out.mono ?_
      rintro e w1 ⟨rfl, hbel⟩
      have HB := hideP2 hbel
      clear hbel
      go_wp2_with fail
      go_ret2
      exact ⟨ret_ints (by rw [HR.out]) (by rw [HR.out]), HB.out⟩
    · obtain ⟨ls, hAA⟩ := hA hl4 (by omega)
      have HA := hideP2 hAA
      have HR : Hid (chkR l = docL (usOf l)) := by unfold Hid chkR; rw [if_neg hl, if_neg hfm]
      have HL : Hid (∀ w : World, Calls Tryz.prog 63 #[.string ⟨l.toArray⟩] w fun e w' => ∃ a c, e = .returned (.slice a (usOf l).length c) ∧ RowL w' a (usOf l) ∧ Below w.heap.size w w') := fun w => by
        refine (Lines_any l w hl4).mono ?_
        rintro e w' ⟨v, rfl, h1, h2⟩
        obtain ⟨a, c, rfl, h3⟩ := rowL_of h1 (Nat.le_trans (toksAt_len l 0) hl4)
        exact ⟨a, c, rfl, h3, h2⟩
      generalize chkR l = ans at *
      generalize usOf l = us at *
      generalize formB l = fm at *
      clear hA hf hAA
      have hfm2 : fm < 0 := by omega
      clear hfm
      go_enter Tryz.func39, Tryz.ntmps39
      go_wp2_with fail
      refine HF.out.mono ?_
      rintro e w1 ⟨rfl, hbel⟩
      have HB1 := hideP2 hbel
      clear hbel HF
      go_wp2_with fail
      refine (HL.out w1).mono ?_
      rintro e w2 ⟨a, c, rfl, hrow, hbel2⟩
      have HB2 : Hid (Below w.heap.size w w2) := HB1.out.trans (hbel2.mono HB1.out.size)
      have HRow := hideP2 hrow
      have hfew := hrow.few
      clear hbel2 hrow HL HB1
      go_wp2_with fail
      go_loopw [6] (fun iv wr => ∃ (i : Nat), i ≤ us.length ∧ iv = .int .i64 i ∧ Hid (Below w2.heap.size w2 wr) ∧ Hid (crowdG us (us.length - i) i = crowdG us us.length 0)) (fun iv _ => us.length - (intOf iv).toNat)
      case atStart => exact ⟨0, Nat.zero_le _, rfl, hideP2 (Below.refl _ _), hideP2 rfl⟩
      case round =>
        obtain ⟨i, hi, rfl, HB, HE⟩ := hrel
        by_cases hlt : i < us.length
        · have HC := hideP2 (crowded_s wr a c ls us i hlt (HRow.out.below HB.out) HA.out)
          have hE := HE.out
          rw [show us.length - i = (us.length - (i + 1)) + 1 by omega, crowdG] at hE
          have HE2 := hideP2 hE
          clear HE hE
          generalize crowdR us i = z at *
          cases z
          · have HE3 : Hid (crowdG us (us.length - (i + 1)) (i + 1) = crowdG us us.length 0) := by have := HE2.out; rw [if_neg Bool.false_ne_true] at this; exact this
            clear HE2
            go_wp2_with fail
            refine HC.out.mono ?_
            rintro e w3 ⟨rfl, hb3⟩
            have HB3 : Hid (Below w2.heap.size w2 w3) := HB.out.trans (hb3.mono HB.out.size)
            clear hb3
            go_wp2_with fail
            go_roundw
            case rel => exact ⟨i + 1, by omega, by go_num, HB3, HE3⟩
            case measure => simp [intOf]; omega
          · have HF2 : Hid (ans = (3, (i : Int))) := by
              have : some i = crowdG us us.length 0 := by have := HE2.out; rw [if_pos rfl] at this; exact this
              unfold Hid; rw [HR.out, docL, ← this]
            clear HE2 HR
            go_wp2_with fail
            refine HC.out.mono ?_
            rintro e w3 ⟨rfl, hb3⟩
            have HB3 : Hid (Below w.heap.size w w3) := (HB2.out.trans (HB.out.mono HB2.out.size)).trans (hb3.mono (Nat.le_trans HB2.out.size HB.out.size))
            clear hb3
            go_wp2_with fail
            go_ret2
            exact ⟨ret_ints (by rw [HF2.out]) (by rw [HF2.out]), HB3.out⟩
        · have HR2 : Hid (ans = faultsU us) := by
            have := HE.out; rw [show us.length - i = 0 by omega] at this
            unfold Hid; rw [HR.out, docL, ← this]; rfl
          clear HE HR
          obtain ⟨wq, hwq⟩ : ∃ wq, wq = wr := ⟨_, rfl⟩
          subst hwq
          go_wp2_with fail
          go_loopw [8] (fun iv wr => ∃ (i : Nat), i ≤ us.length ∧ iv = .int .i64 i ∧ Hid (Below w2.heap.size w2 wr) ∧ Hid (faultG us (us.length - i) i = faultG us us.length 0)) (fun iv _ => us.length - (intOf iv).toNat)
          case atStart => exact ⟨0, Nat.zero_le _, rfl, HB, hideP2 rfl⟩
          case round =>
            obtain ⟨j, hj, rfl, HBj, HEj⟩ := hrel
            have HBw : Hid (Below w.heap.size w wr) := HB2.out.trans (HBj.out.mono HB2.out.size)
            by_cases hltj : j < us.length
            · have HC := hideP2 (fault_s wr a c ls us j hltj (HRow.out.below HBj.out) HA.out)
              have hE := HEj.out
              rw [show us.length - j = (us.length - (j + 1)) + 1 by omega, faultG] at hE
              have HE2 := hideP2 hE
              clear HEj hE
              by_cases hz : faultR us j = 0
              · have HE3 : Hid (faultG us (us.length - (j + 1)) (j + 1) = faultG us us.length 0) := by have := HE2.out; rw [if_pos hz] at this; exact this
                rw [hz] at HC
                clear HE2 hz
                go_wp2_with fail
                refine HC.out.mono ?_
                rintro e w3 ⟨rfl, hb3⟩
                have HB3 : Hid (Below w2.heap.size w2 w3) := HBj.out.trans (hb3.mono HBj.out.size)
                clear hb3
                go_wp2_with fail
                go_roundw
                case rel => exact ⟨j + 1, by omega, by go_num, HB3, HE3⟩
                case measure => simp [intOf]; omega
              · have HF2 : Hid (ans = (faultR us j, (j : Int))) := by
                  have : some j = faultG us us.length 0 := by have := HE2.out; rw [if_neg hz] at this; exact this
                  unfold Hid; rw [HR2.out, faultsU, ← this]
                clear HE2
                generalize faultR us j = fz at *
                have be : (fz != 0) = true := by simpa using hz
                clear hz
                go_wp2_with fail
                refine HC.out.mono ?_
                rintro e w3 ⟨rfl, hb3⟩
                have HB3 : Hid (Below w.heap.size w w3) := HBw.out.trans (hb3.mono HBw.out.size)
                clear hb3
                go_wp2_with fail
                go_ret2
                exact ⟨ret_ints (by rw [HF2.out]) (by rw [HF2.out]), HB3.out⟩
            · have HR3 : Hid (ans = if ringU us false = true then (7, 0) else if ringU us true = true then (7, 1) else (0, 0)) := by
                have := HEj.out; rw [show us.length - j = 0 by omega] at this
                unfold Hid; rw [HR2.out, faultsU, ← this]; rfl
              clear HEj HR2
              have HG0 := hideP2 (ringed_s wr a c ls us false (HRow.out.below HBj.out) HA.out)
              have HG1 := hideP2 (fun w' (hb : Below w2.heap.size w2 w') => ringed_s w' a c ls us true (HRow.out.below hb) HA.out)
              generalize ringU us false = z0 at *
              generalize ringU us true = z1 at *
              go_wp2_with fail
              refine HG0.out.mono ?_
              rintro e w3 ⟨rfl, hb3⟩
              have HB3 : Hid (Below w2.heap.size w2 w3) := HBj.out.trans (hb3.mono HBj.out.size)
              clear hb3
              cases z0
              · have HR4 : Hid (ans = if z1 = true then (7, 1) else (0, 0)) := by have := HR3.out; rw [if_neg Bool.false_ne_true] at this; exact this
                clear HR3
                go_wp2_with fail
                refine (HG1.out _ HB3.out).mono ?_
                rintro e w4 ⟨rfl, hb4⟩
                have HB4 : Hid (Below w.heap.size w w4) := (HB2.out.trans (HB3.out.mono HB2.out.size)).trans (hb4.mono (Nat.le_trans HB2.out.size HB3.out.size))
                clear hb4
                cases z1
                · have HR5 : Hid (ans = (0, 0)) := by have := HR4.out; rw [if_neg Bool.false_ne_true] at this; exact this
                  clear HR4
                  go_wp2_with fail
                  go_ret2
                  exact ⟨ret_ints (by rw [HR5.out]) (by rw [HR5.out]), HB4.out⟩
                · have HR5 : Hid (ans = (7, 1)) := by have := HR4.out; rw [if_pos rfl] at this; exact this
                  clear HR4
                  go_wp2_with fail
                  go_ret2
                  exact ⟨ret_ints (by rw [HR5.out]) (by rw [HR5.out]), HB4.out⟩
              · have HR4 : Hid (ans = (7, 0)) := by have := HR3.out; rw [if_pos rfl] at this; exact this
                have HB4 : Hid (Below w.heap.size w w3) := HB2.out.trans (HB3.out.mono HB2.out.size)
                clear HR3
                go_wp2_with fail
                go_ret2
                exact ⟨ret_ints (by rw [HR4.out]) (by rw [HR4.out]), HB4.out⟩
end Go.Proofs.YtnbpdffdnphbeaaGreatDoor
