/- Plain: a guard that was read has at most twice as many nodes as tokens. -/
import Derived.Test.YtnbpdffdnphbeaaGreatPure5
import Derived.Test.YtnbpdffdnphbeaaGreatMLoad3
import Derived.Test.YtnbpdffdnphbeaaGreatMMake3
import Derived.Test.YtnbpdffdnphbeaaGreatLRing
import Derived.Test.YtnbpdffdnphbeaaGreatLOvers
import Derived.Test.YtnbpdffdnphbeaaGreatLGoes
namespace Go.Proofs.YtnbpdffdnphbeaaGreat

theorem loopB_nd (P : List PT) (item : GS → Int × GS) (tok : Bs) (kind : Int) (hit : ∀ q, (item q).2.nd.length + 2 * q.s.1 ≤ q.nd.length + 2 * (item q).2.s.1 + 1) (k : Nat) : ∀ l q, (loopB P item tok kind k l q).2.nd.length + 2 * q.s.1 ≤ q.nd.length + 2 * (loopB P item tok kind k l q).2.s.1 := by
  induction k with
  | zero => intro l q; exact Nat.le_refl _
  | succ k ih =>
    intro l q
    have h1 := pSkip_mono P tok q.s
    rw [loopB]
    split
    · show q.nd.length + 2 * q.s.1 ≤ q.nd.length + 2 * (pSkip P tok q.s).2.1; omega
    · rename_i hsk
      have h2 := pSkip_true hsk
      have h3 := ih ((item (q.to (pSkip P tok q.s).2)).2.nd.length : Nat) ((item (q.to (pSkip P tok q.s).2)).2.add ⟨kind, l, (item (q.to (pSkip P tok q.s).2)).1, [], [], [], 0⟩)
      have h4 := hit (q.to (pSkip P tok q.s).2)
      have e1 : (q.to (pSkip P tok q.s).2).s.1 = (pSkip P tok q.s).2.1 := rfl
      have e2 : (q.to (pSkip P tok q.s).2).nd = q.nd := rfl
      have e3 : ((item (q.to (pSkip P tok q.s).2)).2.add ⟨kind, l, (item (q.to (pSkip P tok q.s).2)).1, [], [], [], 0⟩).nd.length = (item (q.to (pSkip P tok q.s).2)).2.nd.length + 1 := by simp [GS.add]
      have e4 : ((item (q.to (pSkip P tok q.s).2)).2.add ⟨kind, l, (item (q.to (pSkip P tok q.s).2)).1, [], [], [], 0⟩).s = (item (q.to (pSkip P tok q.s).2)).2.s := rfl
      rw [e3, e4] at h3
      rw [e1, e2] at h4
      omega
theorem termsW_nd (P : List PT) (fact : GS → Int → Int × GS) (hf : ∀ q d, (fact q d).2.nd.length + 2 * q.s.1 ≤ q.nd.length + 2 * (fact q d).2.s.1 + 1) (q : GS) (d : Int) : (termsW P fact q d).2.nd.length + 2 * q.s.1 ≤ q.nd.length + 2 * (termsW P fact q d).2.s.1 + 1 := by
  have h1 := hf q d
  have h2 := loopB_nd P (fun q => fact q d) kAnd 2 (fun q => hf q d) P.length (fact q d).1 (fact q d).2
  unfold termsW; omega
theorem altW_nd (P : List PT) (fact : GS → Int → Int × GS) (hf : ∀ q d, (fact q d).2.nd.length + 2 * q.s.1 ≤ q.nd.length + 2 * (fact q d).2.s.1 + 1) (q : GS) (d : Int) : (altW P fact q d).2.nd.length + 2 * q.s.1 ≤ q.nd.length + 2 * (altW P fact q d).2.s.1 + 1 := by
  have h1 := termsW_nd P fact hf q d
  have h2 := loopB_nd P (fun q => termsW P fact q d) kOr 1 (fun q => termsW_nd P fact hf q d) P.length (termsW P fact q d).1 (termsW P fact q d).2
  unfold altW; omega
theorem pFact_nd (P : List PT) (n : Nat) : ∀ q d, (pFact P n q d).2.nd.length + 2 * q.s.1 ≤ q.nd.length + 2 * (pFact P n q d).2.s.1 + 1 := by
  induction n with
  | zero => intro q d; exact Nat.le_succ _
  | succ n ih =>
    intro q d
    have h1 := pSkip_mono P kNot q.s
    rw [pFact]
    split
    · rename_i hsk
      have h2 := pSkip_true hsk
      have h3 := ih (q.to (pSkip P kNot q.s).2) (d + 1)
      have e1 : (q.to (pSkip P kNot q.s).2).s.1 = (pSkip P kNot q.s).2.1 := rfl
      have e2 : (q.to (pSkip P kNot q.s).2).nd = q.nd := rfl
      rw [e1, e2] at h3
      show ((pFact P n (q.to (pSkip P kNot q.s).2) (d + 1)).2.nd ++ [_]).length + 2 * q.s.1 ≤ q.nd.length + 2 * (pFact P n (q.to (pSkip P kNot q.s).2) (d + 1)).2.s.1 + 1
      rw [List.length_append, List.length_singleton]
      omega
    · have h2 := pSkip_mono P kOpen (pSkip P kNot q.s).2
      split
      · have h3 := altW_nd P (pFact P n) ih (q.to (pSkip P kOpen (pSkip P kNot q.s).2).2) (d + 1)
        have e1 : (q.to (pSkip P kOpen (pSkip P kNot q.s).2).2).s.1 = (pSkip P kOpen (pSkip P kNot q.s).2).2.1 := rfl
        have e2 : (q.to (pSkip P kOpen (pSkip P kNot q.s).2).2).nd = q.nd := rfl
        rw [e1, e2] at h3
        have h4 := pWant_mono P kShut (altW P (pFact P n) (q.to (pSkip P kOpen (pSkip P kNot q.s).2).2) (d + 1)).2.s
        show (altW P (pFact P n) (q.to (pSkip P kOpen (pSkip P kNot q.s).2).2) (d + 1)).2.nd.length + 2 * q.s.1 ≤ q.nd.length + 2 * (pWant P kShut (altW P (pFact P n) (q.to (pSkip P kOpen (pSkip P kNot q.s).2).2) (d + 1)).2.s).1 + 1
        omega
      · have h3 := pTest_mono P (pSkip P kOpen (pSkip P kNot q.s).2).2
        show (q.nd ++ [_]).length + 2 * q.s.1 ≤ q.nd.length + 2 * (pTest P (pSkip P kOpen (pSkip P kNot q.s).2).2).2.1 + 1
        rw [List.length_append, List.length_singleton]
        omega
theorem pGuard_nd (P : List PT) (s : St) : (pGuard P s).2.nd.length ≤ 2 * (pGuard P s).2.s.1 + 1 := by
  have := altW_nd P (pFact P P.length) (pFact_nd P P.length) ⟨s, [], 0, 0⟩ 0
  have e : (pGuard P s) = altW P (pFact P P.length) ⟨s, [], 0, 0⟩ 0 := rfl
  rw [e]
  simp only [List.length_nil] at this
  omega
theorem pLine_nd (P : List PT) (s : St) : (pLine P s).1.nd.length ≤ 2 * (pLine P s).2.1 + 1 := by
  unfold pLine
  split
  · exact Nat.zero_le _
  · split
    · exact Nat.zero_le _
    · split
      · generalize (pSkip P [114, 117, 108, 101] (pSkip P [102, 108, 97, 103] (pSkip P [110, 117, 109] s).2).2).2 = s3
        have h1 := pGuard_nd P (pWant P kWhen (pSum P (pWant P [61] (pName P (pWant P [58] (pName P s3).2)).2)).2)
        have h2 := pWant_mono P [59] (pGuard P (pWant P kWhen (pSum P (pWant P [61] (pName P (pWant P [58] (pName P s3).2)).2)).2)).2.s
        exact Nat.le_trans h1 (by show _ ≤ 2 * (pWant P [59] (pGuard P (pWant P kWhen (pSum P (pWant P [61] (pName P (pWant P [58] (pName P s3).2)).2)).2)).2.s).1 + 1; omega)
      · exact Nat.zero_le _
theorem lines_nd {ts : Toks} {len : Nat} (hts : TsOk ts) (hlen : ts.length ≤ 4000) (n : Nat) : ∀ (i : Nat) (acc : List PLine), i ≤ ts.length → (∀ x ∈ acc, x.nd.length ≤ 10000) → (pLines (pp ts len) n (i, false) acc).2.2 = false → ∀ x ∈ (pLines (pp ts len) n (i, false) acc).1, x.nd.length ≤ 10000 := by
  induction n with
  | zero => intro i acc _ ha _ x hx; exact ha x hx
  | succ n ih =>
    intro i acc hi ha
    rw [pLines]
    simp only
    by_cases hk : (cur (pp ts len) i).k = 0
    · rw [if_pos hk]; exact fun _ x hx => ha x hx
    · rw [if_neg hk]
      have hi' : i < ts.length := by
        rcases Nat.lt_or_ge i ts.length with h | h
        · exact h
        · exact absurd ((k_end (len := len) hi).2 (by omega)) hk
      have hL := line_sim (len := len) hts hlen hi'
      have hN := pLine_nd (pp ts len) (i, false)
      generalize pLine (pp ts len) (i, false) = r at hL hN ⊢
      obtain ⟨x, ⟨j, f⟩⟩ := r
      rcases hL with ⟨h1, h2⟩ | ⟨h1, h2, h3, _⟩
      · simp only at h1; subst h1
        rw [lines_f]
        intro h; exact absurd (show true = false from h) (by decide)
      · simp only at h1 h2 h3 hN; subst h1
        refine ih j (acc ++ [x]) h3 (fun y hy => ?_)
        rcases List.mem_append.1 hy with h | h
        · exact ha y h
        · rw [List.mem_singleton.1 h]; omega
theorem nd_few {l : Bs} (hl : l.length ≤ 4000) (hf : (readB l).2.2 = false) : ∀ x ∈ (readB l).1, x.nd.length ≤ 10000 := by
  have ht : (toksAt l 0).length ≤ 4000 := Nat.le_trans (toksAt_len l 0) hl
  exact lines_nd (len := l.length) (toksAt_ok l) ht (2 * (toP l).length + 1) 0 [] (Nat.zero_le _) (by simp) hf
end Go.Proofs.YtnbpdffdnphbeaaGreat

/- What Load of the program gives of every text, leniently. -/
namespace Go.Proofs.YtnbpdffdnphbeaaGreat
open Go.RowKit

theorem make_ok : MakeOk := fun w a c ls h hn => Make_s w a c ls h hn
theorem StLoad_lm (l : Bs) (w : World) (hmax : l.length ≤ maxLen) (hg : l.length ≤ 4000 → (readB l).2.2 = false → ∀ x ∈ (readB l).1, GoodP x) (hm : l.length ≤ 4000 → (readB l).1.length ≤ 10000) :
    Calls Tryz.prog 13 #[.string ⟨l.toArray⟩, .bool false] w fun e w' => LoadM l w w' e := by
  have bad : ∀ k : Int, k ≠ 0 → (chkP l).1 = k → Calls Tryz.prog 19 #[.string ⟨l.toArray⟩] w (fun e w' => e = .returned (.agg (mkC nilS nilS nilS gZ k)) ∧ Below w.heap.size w w') → Calls Tryz.prog 13 #[.string ⟨l.toArray⟩, .bool false] w fun e w' => LoadM l w w' e := fun k hk hc hR => by
    refine (StLoad_bad l w k hk hR).mono ?_
    rintro e w' ⟨h1, h2⟩
    exact ⟨.pointer none, by rw [hc]; exact h1, h2, fun _ => rfl, fun h => absurd (hc.symm.trans h) hk⟩
  by_cases hl : 4000 < l.length
  · have ec : chkP l = (1, 0) := by unfold chkP; rw [if_pos hl]
    exact bad 1 (by decide) (by rw [ec]) (StRead_err l w 1 (.inl rfl) 0 (fun o => BookRead_long l (w.alloc o) hmax hl))
  · cases hf : (readB l).2.2
    · have ec : chkP l = checkL (readB l).1 := by unfold chkP; rw [if_neg hl, hf]
      have hR := StRead_ok l w (by omega) hf (hg (by omega) hf) (hm (by omega)) (nd_few (by omega) hf) make_ok
      by_cases hk : (checkL (readB l).1).1 = 0
      · refine (StLoad_good l w (readB l).1 (hR.mono fun e w' h => h.2 hk)).mono ?_
        rintro e w' ⟨b, h1, ⟨rs, h2⟩, h3⟩
        have hc : (chkP l).1 = 0 := by rw [ec]; exact hk
        exact ⟨_, by rw [hc]; exact h1, h3, fun h => absurd hc h, fun _ => ⟨b, rs, rfl, h2⟩⟩
      · exact bad _ hk (by rw [ec]) (hR.mono fun e w' h => h.1 hk)
    · have ec : chkP l = (2, ((cur (toP l) (readB l).2.1).p : Int)) := by unfold chkP; rw [if_neg hl, hf]
      refine bad 2 (by decide) (by rw [ec]) (StRead_err l w 2 (.inr rfl) ((cur (toP l) (readB l).2.1).p : Int) (fun o => (BookRead_any l (w.alloc o) (by omega)).mono ?_))
      rintro e w' ⟨h1, h2⟩
      unfold ReadIs at h1
      rw [hf] at h1
      exact ⟨h1, h2⟩
theorem StLoad_any (l : Bs) (w : World) (hmax : l.length ≤ maxLen) (hg : l.length ≤ 4000 → (readB l).2.2 = false → ∀ x ∈ (readB l).1, GoodP x) (hm : l.length ≤ 4000 → (readB l).1.length ≤ 10000) :
    Calls Tryz.prog 13 #[.string ⟨l.toArray⟩, .bool false] w fun e w' => LoadIs l w w' e :=
  (StLoad_lm l w hmax hg hm).mono fun _ _ h => h.is
end Go.Proofs.YtnbpdffdnphbeaaGreat

/- The law Looped answers true at every input. -/
namespace Go.Proofs.YtnbpdffdnphbeaaGreat
open Go.RowKit

/-- A text, and the lines that are read of it. -/
structure LoopT (l : Bs) (ls : List PLine) : Prop where
  read : (readB l).1 = ls
  ok : (readB l).2.2 = false
  len : l.length ≤ 1600
  good : ∀ x ∈ ls, GoodP x
  few : ls.length ≤ 100
theorem LoopT.chk {l : Bs} {ls : List PLine} (h : LoopT l ls) : chkP l = checkL ls := by
  unfold chkP; rw [if_neg (by have := h.len; omega), h.ok, h.read]
theorem LoopT.max {l : Bs} {ls : List PLine} (h : LoopT l ls) : l.length ≤ maxLen := by have := h.len; unfold maxLen; omega
theorem LoopT.g1 {l : Bs} {ls : List PLine} (h : LoopT l ls) : l.length ≤ 4000 → (readB l).2.2 = false → ∀ x ∈ (readB l).1, GoodP x := fun _ _ => by rw [h.read]; exact h.good
theorem LoopT.g2 {l : Bs} {ls : List PLine} (h : LoopT l ls) : l.length ≤ 4000 → (readB l).1.length ≤ 10000 := fun _ => by rw [h.read]; have := h.few; omega
/-- What Check, Load and Ring give of such a text. -/
structure CallsT (l : Bs) (k p : Int) (e : Int) (R : List Bs) : Prop where
  chk : ∀ w, Calls Tryz.prog 12 #[.string ⟨l.toArray⟩] w fun e w' => e = .returned (.tuple #[.int .i64 k, .int .i64 p]) ∧ Below w.heap.size w w'
  load : ∀ w, Calls Tryz.prog 13 #[.string ⟨l.toArray⟩, .bool false] w fun e w' => ∃ pv, e = .returned (.tuple #[pv, .int .i64 k]) ∧ Below w.heap.size w w' ∧ (k ≠ 0 → pv = .pointer none) ∧ (k = 0 → ∃ b, pv = .pointer (some ⟨b, 0, none⟩))
  ring : ∀ w, Calls Tryz.prog 14 #[.string ⟨l.toArray⟩] w fun f w' => ∃ a c, f = .returned (.tuple #[.slice a R.length c, .int .i64 e]) ∧ StrV w' a R ∧ Below w.heap.size w w'
theorem LoopT.calls {l : Bs} {ls : List PLine} (h : LoopT l ls) {k p : Int} (hc : checkL ls = (k, p)) {e : Int} (he : e = if k = 0 then 9 else if k = 7 then 0 else k) {R : List Bs} (hR : R = if k = 7 then ringL ls else []) (hf : R.length ≤ 10000) : CallsT l k p e R := by
  have ec : chkP l = (k, p) := h.chk.trans hc
  have e1 : ringE l = e := by unfold ringE; rw [ec, he]
  have e2 : ringA l = R := by unfold ringA; rw [ec, h.read, hR]
  refine ⟨fun w => ?_, fun w => ?_, fun w => ?_⟩
  · have := StCheck_any l w h.max h.g1 h.g2
    rw [ec] at this; exact this
  · refine (StLoad_lm l w h.max h.g1 h.g2).mono ?_
    rintro e w' ⟨pv, h1, h2, h3, h4⟩
    rw [ec] at h1 h3 h4
    exact ⟨pv, h1, h2, h3, fun hk => by obtain ⟨b, _, h5, _⟩ := h4 hk; exact ⟨b, h5⟩⟩
  · refine (StRing_any l w h.max h.g1 h.g2).mono ?_
    rintro f w' ⟨v, h1, h2, h3⟩
    rw [e1] at h1
    rw [e2] at h2
    obtain ⟨a, c, rfl, h4⟩ := own_str h2 hf
    exact ⟨a, c, h1, h4, h3⟩

set_option maxHeartbeats 2000000 in
theorem kLoaded_s (l : Bs) (w : World) (R : List Bs) (h : CallsT l 0 0 9 R) :
    Calls Tryz.prog 16 #[.string ⟨l.toArray⟩] w fun e w' => ∃ b, e = .returned (.tuple #[.pointer (some ⟨b, 0, none⟩), .bool true]) ∧ Below w.heap.size w w' := by
  have HL := hideP2 h.load
  clear h
  go_enter Tryz.func16, Tryz.ntmps16
  go_wp2_with fail
  refine (HL.out _).mono ?_
  rintro e w1 ⟨pv, rfl, hb, _, h4⟩
  obtain ⟨b, rfl⟩ := h4 trivial
  have HB := hideP2 hb
  clear hb h4
  go_wp2_with fail
  go_ret2
  exact ⟨b, rfl, HB.out⟩

set_option maxHeartbeats 4000000 in
theorem looped_s (w : World) (l1 l2 : Bs) (kd : Int) (n : Nat) (f : UInt8) (fz : Int) (hfz : fz = (f.toNat : Int)) (R : List Bs) (h1 : 1 ≤ n) (h8 : n ≤ 8) (h : CallsT l1 7 kd 0 R) (hg : goR R n f = true) (h' : CallsT l2 0 0 9 []) :
    Calls Tryz.prog 6 #[.string ⟨l1.toArray⟩, .string ⟨l2.toArray⟩, .int .i64 kd, .int .i64 n, .int .u8 fz] w fun e w' => e = .returned (.bool true) ∧ Below w.heap.size w w' := by
  have HC1 := hideP2 h.chk
  have HL1 := hideP2 h.load
  have HR1 := hideP2 h.ring
  have HC2 := hideP2 h'.chk
  have HL2 := hideP2 (fun w => kLoaded_s l2 w [] h')
  have HR2 := hideP2 h'.ring
  have HG : Hid (∀ w a c, StrV w a R → Calls Tryz.prog 15 #[.slice a R.length c, .int .i64 n, .int .u8 fz] w fun e w' => e = .returned (.bool true) ∧ Below w.heap.size w w') := fun w a c hS => goesRound_s w a c R n f fz hfz hS h1 h8 hg
  clear h h' hg hfz
  go_enter Tryz.func6, Tryz.ntmps6
  go_wp2_with fail
  refine (HC1.out _).mono ?_
  rintro e w1 ⟨rfl, hb1⟩
  have HB1 := hideP2 hb1
  clear hb1 HC1
  go_wp2_with fail
  refine (HL1.out _).mono ?_
  rintro e w2 ⟨pv, rfl, hb2, h3, _⟩
  obtain rfl := h3 (by decide)
  have HB2 : Hid (Below w.heap.size w w2) := HB1.out.trans (hb2.mono HB1.out.size)
  clear hb2 h3 HB1 HL1
  go_wp2_with fail
  refine (HR1.out _).mono ?_
  rintro e w3 ⟨a, c, rfl, hS, hb3⟩
  have HB3 : Hid (Below w.heap.size w w3) := HB2.out.trans (hb3.mono HB2.out.size)
  have HS := hideP2 hS
  clear hb3 hS HB2 HR1
  go_wp2_with fail
  refine (HG.out _ _ _ HS.out).mono ?_
  rintro e w4 ⟨rfl, hb4⟩
  have HB4 : Hid (Below w.heap.size w w4) := HB3.out.trans (hb4.mono HB3.out.size)
  clear hb4 HS HB3 HG
  go_wp2_with fail
  refine (HC2.out _).mono ?_
  rintro e w5 ⟨rfl, hb5⟩
  have HB5 : Hid (Below w.heap.size w w5) := HB4.out.trans (hb5.mono HB4.out.size)
  clear hb5 HB4 HC2
  go_wp2_with fail
  refine (HL2.out _).mono ?_
  rintro e w6 ⟨b, rfl, hb6⟩
  have HB6 : Hid (Below w.heap.size w w6) := HB5.out.trans (hb6.mono HB5.out.size)
  clear hb6 HB5 HL2
  go_wp2_with fail
  refine (HR2.out _).mono ?_
  rintro e w7 ⟨a2, c2, rfl, _, hb7⟩
  have HB7 : Hid (Below w.heap.size w w7) := HB6.out.trans (hb7.mono HB6.out.size)
  clear hb7 HB6 HR2
  go_wp2_with fail
  go_ret
  exact ⟨rfl, HB7.out⟩

/- The texts. -/
theorem rg_loopT {n : Nat} (hn : n ≤ 8) (h : Nat → Nat) (shut : Bool) (k : Nat) : LoopT (wrB ((turnI n k).map (rgW n h shut))) ((turnI n k).map (rgL n h shut)) := by
  obtain ⟨h1, h2⟩ := rg_read hn h shut k
  refine ⟨h1, h2, rg_text hn h shut k, fun x hx => ?_, by rw [List.length_map, turnI_len]; omega⟩
  obtain ⟨i, _, rfl⟩ := List.mem_map.1 hx
  exact good_rgX _ _ _ _
theorem ov_loopT {n m : Nat} (hn : n ≤ 8) (hm : m ≤ 2 * n) (k : Nat) : LoopT (wrB ((turnI m k).map (ovW n))) ((turnI m k).map (ovN n)) := by
  obtain ⟨h1, h2⟩ := ov_read hn hm k
  refine ⟨h1, h2, ov_text (by omega) k, fun x hx => ?_, by rw [List.length_map, turnI_len]; omega⟩
  obtain ⟨i, _, rfl⟩ := List.mem_map.1 hx
  exact good_ov _ _
theorem goR_len {R : List Bs} {n : Nat} {f : UInt8} (h : goR R n f = true) : R.length = n := (goR_of h).1
theorem rg_looped (w : World) (n k1 k2 : Nat) (h : Nat → Nat) (hh : ∀ i, h i ≤ 2) (h1 : 1 ≤ n) (h8 : n ≤ 8) (hk1 : k1 < n) (hk2 : k2 < n) :
    Calls Tryz.prog 6 #[.string ⟨(wrB ((turnI n k1).map (rgW n h true))).toArray⟩, .string ⟨(wrB ((turnI n k2).map (rgW n h false))).toArray⟩, .int .i64 0, .int .i64 n, .int .u8 99] w fun e w' => e = .returned (.bool true) ∧ Below w.heap.size w w' := by
  obtain ⟨c1, g1⟩ := rg_shut (n := n) (k := k1) (by omega) hk1 h hh
  have c2 := rg_open (n := n) (k := k2) (by omega) hk2 h hh
  have hl := goR_len g1
  exact looped_s w _ _ 0 n 99 99 rfl _ h1 h8 ((rg_loopT h8 h true k1).calls c1 rfl rfl (by rw [if_pos rfl, hl]; omega)) (by rw [if_pos rfl]; exact g1) ((rg_loopT h8 h false k2).calls c2 rfl rfl (by simp))
theorem ov_looped (w : World) (n k1 k2 : Nat) (h1 : 2 ≤ n) (h8 : n ≤ 8) (hk1 : k1 < 2 * n) (hk2 : k2 < 2 * n - 1) :
    Calls Tryz.prog 6 #[.string ⟨(wrB ((turnI (2 * n) k1).map (ovW n))).toArray⟩, .string ⟨(wrB ((turnI (2 * n - 1) k2).map (ovW n))).toArray⟩, .int .i64 1, .int .i64 n, .int .u8 114] w fun e w' => e = .returned (.bool true) ∧ Below w.heap.size w w' := by
  obtain ⟨c1, g1⟩ := ov_shut (n := n) (k := k1) (by omega) (by omega) hk1
  have c2 := ov_open (n := n) (k := k2) (by omega) (by omega) hk2
  have hl := goR_len g1
  exact looped_s w _ _ 1 n 114 114 rfl _ (by omega) h8 ((ov_loopT h8 (Nat.le_refl _) k1).calls c1 rfl rfl (by rw [if_pos rfl, hl]; omega)) (by rw [if_pos rfl]; exact g1) ((ov_loopT h8 (by omega) k2).calls c2 rfl rfl (by simp))
end Go.Proofs.YtnbpdffdnphbeaaGreat
