/- Plain: a frame's whole guards, read; what is written of them. -/
import Derived.Test.YtnbpdffdnphbeaaGreatDoorPGrd
import Derived.Test.YtnbpdffdnphbeaaGreatDoorWsum
namespace Go.Proofs.YtnbpdffdnphbeaaGreatDoor
variable {P : List PT}

theorem tail_eqT (ts : List FTest) (lo : Bool) : ∀ (l : List FTest) (k : Nat), 0 < k → ts.drop k = l → ((List.range l.length).flatMap fun j => joinW (k + j) (ts.getD (k + j) ft0) ++ tstW (ts.getD (k + j) ft0) lo) = tailT l lo := by
  intro l
  induction l with
  | nil => intro k _ _; rfl
  | cons q r ih =>
    intro k hk hd
    have hlt : k < ts.length := by
      rcases Nat.lt_or_ge k ts.length with h | h
      · exact h
      · rw [List.drop_eq_nil_of_le h] at hd; cases hd
    rw [List.drop_eq_getElem_cons hlt] at hd
    injection hd with h1 h2
    have hg : ts.getD k ft0 = q := by simp [List.getD, hlt, h1]
    rw [List.length_cons, List.range_succ_eq_map, List.flatMap_cons, List.flatMap_map]
    have hi := ih (k + 1) (by omega) h2
    have e : ((List.range r.length).flatMap fun j => joinW (k + (j + 1)) (ts.getD (k + (j + 1)) ft0) ++ tstW (ts.getD (k + (j + 1)) ft0) lo) = tailT r lo := by
      rw [← hi]; congr 1; funext j; rw [show k + (j + 1) = k + 1 + j by omega]
    show (joinW (k + 0) (ts.getD (k + 0) ft0) ++ tstW (ts.getD (k + 0) ft0) lo) ++ ((List.range r.length).flatMap fun j => joinW (k + (j + 1)) (ts.getD (k + (j + 1)) ft0) ++ tstW (ts.getD (k + (j + 1)) ft0) lo) = _
    rw [e, Nat.add_zero, hg]
    have hs : joinW k q = joinB q := by unfold joinW joinB; rw [if_neg (by omega)]; rfl
    simp [tailT, hs]
theorem tsts_eq (t : FTest) (l : List FTest) (lo : Bool) : tstsN (t :: l) lo (t :: l).length = tstW t lo ++ tailT l lo := by
  unfold tstsN
  rw [List.length_cons, List.range_succ_eq_map, List.flatMap_cons, List.flatMap_map]
  have h := tail_eqT (t :: l) lo l 1 (by decide) rfl
  have e : ((List.range l.length).flatMap fun j => joinW (j + 1) ((t :: l).getD (j + 1) ft0) ++ tstW ((t :: l).getD (j + 1) ft0) lo) = tailT l lo := by
    rw [← h]; congr 1; funext j; rw [Nat.add_comm]
  show (joinW 0 t ++ tstW t lo) ++ ((List.range l.length).flatMap fun j => joinW (j + 1) ((t :: l).getD (j + 1) ft0) ++ tstW ((t :: l).getD (j + 1) ft0) lo) = _
  rw [e]
  simp [joinW]
theorem tail_in (lo : Bool) (q : FTest) (l : List FTest) : q ∈ l → (tstW q lo).length ≤ (tailT l lo).length := by
  induction l with
  | nil => intro h; cases h
  | cons a r ih =>
    intro hq
    have e : tailT (a :: r) lo = joinB a ++ tstW a lo ++ tailT r lo := by simp [tailT]
    rw [e, List.length_append, List.length_append]
    rcases List.mem_cons.1 hq with rfl | hq
    · omega
    · have := ih hq; omega
theorem tst_in (t : FTest) (l : List FTest) (lo : Bool) : ∀ q ∈ t :: l, (tstW q lo).length ≤ (tstW t lo ++ tailT l lo).length := by
  intro q hq
  rw [List.length_append]
  rcases List.mem_cons.1 hq with rfl | hq
  · omega
  · have := tail_in lo q l hq; omega
theorem tail_few (l : List FTest) (lo : Bool) : l.length ≤ (tailT l lo).length := by
  induction l with
  | nil => simp
  | cons a r ih =>
    have e : tailT (a :: r) lo = joinB a ++ tstW a lo ++ tailT r lo := by simp [tailT]
    have : 0 < (joinB a).length := by unfold joinB; split <;> simp
    rw [e, List.length_append, List.length_append, List.length_cons]; omega
def grdX (wh : Bool) (t : FTest) (l : List FTest) : GX := if wh = true then notX (decide (l ≠ [])) (goX none (tstX t) l) else goX none (tstX t) l
theorem grd_read {low : List Nat} (hl4 : ∀ d ∈ low, d < 4) (wh lo : Bool) {t : FTest} {l : List FTest} (h : TestsOk low (t :: l)) {a : Nat} (hA : AtL P a (grdW wh (t :: l) lo ++ [kEnd])) (hlen : a + (grdW wh (t :: l) lo).length < P.length) :
    ∃ root nd p k, pGuard P (a, false) = (root, ⟨(a + (grdW wh (t :: l) lo).length, false), nd, (l.length : Int) + 1, p⟩) ∧ p ≤ 4 ∧ GDn low nd root k (grdX wh t l) ∧ ∀ z ∈ nd, NdOk low z := by
  have hP : 0 < P.length := by omega
  have htl := tst_in t l lo
  have hfw := tail_few l lo
  have hts := tsts_eq t l lo
  unfold grdW at hA hlen ⊢
  rw [hts] at hA hlen ⊢
  cases wh
  · have hi : innW false lo (t :: l).length = false := rfl
    rw [hi] at hA hlen ⊢
    have e : ((if false = true then [[110, 111, 116]] else []) ++ (if false = true then [[40]] else []) ++ (tstW t lo ++ tailT l lo) ++ (if false = true then [[41]] else []) : List Bs) = tstW t lo ++ tailT l lo := by simp
    rw [e] at hA hlen ⊢
    have hlen2 := hlen
    rw [List.length_append] at hlen2
    obtain ⟨k, -, i, E, p', hy, hp', hG, hE⟩ := alt_read hl4 lo (n := P.length) 0 4 (.inl rfl) hP (by decide) t l a [] 0 0 (fun q hq => ⟨h.2.2 q hq, by have := htl q hq; omega⟩) hA (by omega) (by decide)
    refine ⟨i, E, p', k, ?_, hp', hG, hE⟩
    show altW P (pFact P P.length) ⟨(a, false), [], 0, 0⟩ 0 = _
    rw [hy]
    simp
  · cases hi : innW true lo (t :: l).length
    · rw [hi] at hA hlen
      have hl0 : l = [] := by
        unfold innW at hi
        rw [Bool.true_and, Bool.or_eq_false_iff] at hi
        have := of_decide_eq_false hi.2
        cases l with
        | nil => rfl
        | cons x r => exact absurd this (by simp)
      subst hl0
      have e : ((if true = true then [[110, 111, 116]] else []) ++ (if false = true then [[40]] else []) ++ (tstW t lo ++ tailT [] lo) ++ (if false = true then [[41]] else []) : List Bs) = kNot :: tstW t lo := by simp [tailT, kNot]
      rw [e] at hA hlen ⊢
      obtain ⟨h0, hA1⟩ := hA
      have hl1 : (kNot :: tstW t lo).length = (tstW t lo).length + 1 := rfl
      rw [hl1] at hlen ⊢
      obtain ⟨n, hn⟩ : ∃ k, P.length = k + 1 := ⟨P.length - 1, by omega⟩
      obtain ⟨k, hk, i, E, p', hy, hp', hG, hE⟩ := tst_read hl4 (h.2.2 t (by simp)) lo (n := n) [] 0 0 1 4 (.inl rfl) hA1 (by omega) hP (by decide) (by decide)
      have hend := hA1.app.2.1
      have hf : pFact P P.length ⟨(a, false), [], 0, 0⟩ 0 = ((((([] : List PNode) ++ E).length : Nat) : Int), ⟨(a + 1 + (tstW t lo).length, false), ([] ++ E) ++ [⟨3, i, 0, [], [], [], 0⟩], 0 + 1, p'⟩) := by
        rw [hn, factP_not [] 0 0 0 h0 hy]; rfl
      refine ⟨((([] : List PNode) ++ E).length : Nat), ([] ++ E) ++ [⟨3, i, 0, [], [], [], 0⟩], p', 3, ?_, hp', fun A hO => ?_, fun z hz => ?_⟩
      · show altW P (pFact P P.length) ⟨(a, false), [], 0, 0⟩ 0 = _
        rw [alt_one hP (terms_one hP hf hend (fun _ => by decide)) hend (fun _ => by decide)]
        rw [show a + 1 + (tstW t lo).length = a + ((tstW t lo).length + 1) by omega]
        rfl
      · have := hO.not _ _ _ _ (hG A hO)
        rw [decide_eq_false (by omega)] at this
        exact this
      · rcases List.mem_append.1 hz with hz | hz
        · exact hE z hz
        · rw [List.mem_singleton.1 hz]; exact .inl (.inr (.inr rfl))
    · rw [hi] at hA hlen
      have e : ((if true = true then [[110, 111, 116]] else []) ++ (if true = true then [[40]] else []) ++ (tstW t lo ++ tailT l lo) ++ (if true = true then [[41]] else []) : List Bs) = kNot :: kOpen :: (tstW t lo ++ tailT l lo ++ [kShut]) := by simp [kNot, kOpen, kShut]
      rw [e] at hA hlen ⊢
      obtain ⟨h0, h1, hA1⟩ := hA
      have hl1 : (kNot :: kOpen :: (tstW t lo ++ tailT l lo ++ [kShut])).length = (tstW t lo ++ tailT l lo).length + 3 := by simp only [List.length_cons, List.length_append, List.length_nil]
      rw [hl1] at hlen ⊢
      obtain ⟨hA2, hA3⟩ := AtL.app (us := [kEnd]) (ws := tstW t lo ++ tailT l lo ++ [kShut]) hA1
      have hsh := hA2.app.2.1
      have hend := hA3.1
      rw [show a + 1 + 1 + (tstW t lo ++ tailT l lo ++ [kShut]).length = a + ((tstW t lo ++ tailT l lo).length + 3) by simp only [List.length_cons, List.length_append, List.length_nil]; omega] at hend
      obtain ⟨n, hn⟩ : ∃ k, P.length = k + 1 + 1 := ⟨P.length - 2, by omega⟩
      have hlen2 := hlen
      rw [List.length_append] at hlen2
      obtain ⟨k, hk, i, E, p', hy, hp', hG, hE⟩ := alt_read hl4 lo (n := n) 2 4 (.inr rfl) hP (by decide) t l (a + 1 + 1) [] 0 0 (fun q hq => ⟨h.2.2 q hq, by have := htl q hq; omega⟩) hA2 (by omega) (by decide)
      have ho := factP_open (n := n) [] 0 0 1 h1 hy hsh
      have hf : pFact P P.length ⟨(a, false), [], 0, 0⟩ 0 = ((((([] : List PNode) ++ E).length : Nat) : Int), ⟨(a + 1 + 1 + (tstW t lo ++ tailT l lo).length + 1, false), ([] ++ E) ++ [⟨3, i, 0, [], [], [], 0⟩], 0 + ((l.length : Int) + 1), p'⟩) := by
        rw [hn, factP_not [] 0 0 0 h0 ho]; rfl
      rw [show a + 1 + 1 + (tstW t lo ++ tailT l lo).length + 1 = a + ((tstW t lo ++ tailT l lo).length + 3) by omega] at hf
      refine ⟨((([] : List PNode) ++ E).length : Nat), ([] ++ E) ++ [⟨3, i, 0, [], [], [], 0⟩], p', 3, ?_, hp', fun A hO => ?_, fun z hz => ?_⟩
      · show altW P (pFact P P.length) ⟨(a, false), [], 0, 0⟩ 0 = _
        rw [alt_one hP (terms_one hP hf hend (fun _ => by decide)) hend (fun _ => by decide)]
        rw [Int.zero_add]
      · have := hO.not _ _ _ _ (hG A hO)
        rw [decide_eq_decide.2 hk] at this
        exact this
      · rcases List.mem_append.1 hz with hz | hz
        · exact hE z hz
        · rw [List.mem_singleton.1 hz]; exact .inl (.inr (.inr rfl))

/- What is written of a guard. -/
def wWs (ws : List Bs) (st : WSt) : WSt := ws.foldl (fun s w => wPut w s) st
theorem wWs_app (a b : List Bs) (st : WSt) : wWs (a ++ b) st = wWs b (wWs a st) := by unfold wWs; rw [List.foldl_append]
theorem wWs_cons (a : Bs) (b : List Bs) (st : WSt) : wWs (a :: b) st = wWs b (wPut a st) := rfl
def WrJ (N : List PNode) (i k : Int) (ws : List Bs) : Prop := i.toNat < N.length ∧ (nAt N i.toNat).kind = k ∧ ∀ E n st, i.toNat < n → wNode (N ++ E) n i.toNat st = wWs ws st
def wrA : GA := ⟨List Bs, coreW, fun x y => x ++ kAnd :: y, fun x y => x ++ kOr :: y, fun b x => if b = true then kNot :: kOpen :: (x ++ [kShut]) else kNot :: x, WrJ⟩
theorem nAt_ap {N : List PNode} (E : List PNode) {i : Nat} (h : i < N.length) : nAt (N ++ E) i = nAt N i := by
  unfold nAt; rw [List.getD_eq_getElem?_getD, List.getD_eq_getElem?_getD, List.getElem?_append_left h]
theorem nAt_new (N : List PNode) (x : PNode) (E : List PNode) : nAt (N ++ [x] ++ E) N.length = x := by
  unfold nAt; simp [List.getD]
theorem inpF_ne (i : Nat) : (inpF i).isEmpty = false := by unfold inpF nmB; split <;> rfl
theorem wTest_core {low : List Nat} {t : FTest} (h : TestOk low t) (st : WSt) : wTest (tNd t) st = wWs (coreW t) st := by
  unfold coreW tNd wTest
  rcases h with h | ⟨h, -⟩ | ⟨h, -⟩ | ⟨h, -⟩
  · simp only [if_pos h]; rfl
  · rw [if_neg (show ¬ t.kind = 0 by omega), if_pos h, if_neg (show ¬ t.kind = 0 by omega), if_pos h]; rfl
  · rw [if_neg (show ¬ t.kind = 0 by omega), if_neg (show ¬ t.kind = 1 by omega), if_pos h, if_neg (show ¬ t.kind = 0 by omega), if_neg (show ¬ t.kind = 1 by omega), if_pos h]; rfl
  · rcases h with h | h
    · rw [if_neg (show ¬ t.kind = 0 by omega), if_neg (show ¬ t.kind = 1 by omega), if_neg (show ¬ t.kind = 2 by omega), if_pos h, if_neg (show ¬ t.kind = 0 by omega), if_neg (show ¬ t.kind = 1 by omega), if_neg (show ¬ t.kind = 2 by omega), if_pos h]; rfl
    · rw [if_neg (show ¬ t.kind = 0 by omega), if_neg (show ¬ t.kind = 1 by omega), if_neg (show ¬ t.kind = 2 by omega), if_neg (show ¬ t.kind = 3 by omega), if_neg (show ¬ t.kind = 0 by omega), if_neg (show ¬ t.kind = 1 by omega), if_neg (show ¬ t.kind = 2 by omega), if_neg (show ¬ t.kind = 3 by omega)]
      show (if (7 : Int) = 4 then _ else if (7 : Int) = 5 then _ else if (7 : Int) = 6 then _ else if (inpF t.y.toNat).isEmpty = true then _ else _) = _
      rw [inpF_ne]; rfl
theorem wrA_ok (low : List Nat) : wrA.Ok low where
  ext := fun N E i k x ⟨h1, h2, h3⟩ => ⟨by rw [List.length_append]; omega, by rw [nAt_ap E h1]; exact h2, fun E' n st hn => by rw [List.append_assoc]; exact h3 _ n st hn⟩
  core := fun N t ht => by
    refine ⟨by rw [List.length_append]; simp, ?_, fun E n st hn => ?_⟩
    · have := nAt_new N (tNd t) []
      rw [List.append_nil] at this
      exact congrArg PNode.kind this
    · have hk := tNd_kind t
      have e := nAt_new N (tNd t) E
      obtain ⟨n, rfl⟩ : ∃ k, n = k + 1 := ⟨n - 1, by omega⟩
      rw [Int.toNat_natCast, wNode, e, if_neg (by omega), if_neg (by omega), if_neg (by omega)]
      exact wTest_core ht st
  and := fun N l kl (x : List Bs) r kr (y : List Bs) ⟨a1, a2, a3⟩ ⟨b1, b2, b3⟩ hl hr => by
    refine ⟨by rw [List.length_append]; simp, ?_, fun E n st hn => ?_⟩
    · have := nAt_new N ⟨2, l, r, [], [], [], 0⟩ []
      rw [List.append_nil] at this
      exact congrArg PNode.kind this
    · have e := nAt_new N ⟨2, l, r, [], [], [], 0⟩ E
      rw [Int.toNat_natCast] at hn
      obtain ⟨n, rfl⟩ : ∃ k, n = k + 1 := ⟨n - 1, by omega⟩
      rw [Int.toNat_natCast, wNode, e, if_neg (show ¬ (2 : Int) = 1 by decide), if_pos rfl]
      unfold sideW
      simp only
      rw [List.append_assoc, nAt_ap _ a1, nAt_ap _ b1, a2, b2, if_neg hl, if_neg hr, a3 _ n st (by omega), b3 _ n _ (by omega)]
      show _ = wWs (x ++ kAnd :: y) st
      rw [wWs_app]; rfl
  or := fun N l kl (x : List Bs) r kr (y : List Bs) ⟨a1, a2, a3⟩ ⟨b1, b2, b3⟩ => by
    refine ⟨by rw [List.length_append]; simp, ?_, fun E n st hn => ?_⟩
    · have := nAt_new N ⟨1, l, r, [], [], [], 0⟩ []
      rw [List.append_nil] at this
      exact congrArg PNode.kind this
    · have e := nAt_new N ⟨1, l, r, [], [], [], 0⟩ E
      rw [Int.toNat_natCast] at hn
      obtain ⟨n, rfl⟩ : ∃ k, n = k + 1 := ⟨n - 1, by omega⟩
      rw [Int.toNat_natCast, wNode, e, if_pos rfl]
      simp only
      rw [List.append_assoc, a3 _ n st (by omega), b3 _ n _ (by omega)]
      show _ = wWs (x ++ kOr :: y) st
      rw [wWs_app]; rfl
  not := fun N l kl (x : List Bs) ⟨a1, a2, a3⟩ => by
    refine ⟨by rw [List.length_append]; simp, ?_, fun E n st hn => ?_⟩
    · have := nAt_new N ⟨3, l, 0, [], [], [], 0⟩ []
      rw [List.append_nil] at this
      exact congrArg PNode.kind this
    · have e := nAt_new N ⟨3, l, 0, [], [], [], 0⟩ E
      rw [Int.toNat_natCast] at hn
      obtain ⟨n, rfl⟩ : ∃ k, n = k + 1 := ⟨n - 1, by omega⟩
      rw [Int.toNat_natCast, wNode, e, if_neg (show ¬ (3 : Int) = 1 by decide), if_neg (show ¬ (3 : Int) = 2 by decide), if_pos rfl]
      unfold negW
      simp only
      rw [List.append_assoc, nAt_ap _ a1, a2]
      by_cases hk : kl = 1 ∨ kl = 2
      · rw [if_pos hk, a3 _ n _ (by omega)]
        show _ = wWs (if decide (kl = 1 ∨ kl = 2) = true then kNot :: kOpen :: (x ++ [kShut]) else kNot :: x) st
        rw [if_pos (decide_eq_true hk), wWs_cons, wWs_cons, wWs_app]; rfl
      · rw [if_neg hk, a3 _ n _ (by omega)]
        show _ = wWs (if decide (kl = 1 ∨ kl = 2) = true then kNot :: kOpen :: (x ++ [kShut]) else kNot :: x) st
        rw [if_neg (by rw [decide_eq_false hk]; decide)]; rfl
def wrV (x : GX) : List Bs := x wrA
theorem tstX_wr (t : FTest) : wrV (tstX t) = tstW t false := by
  have e := tstW_br t false
  have e2 : brW t false = coreW t := by simp [brW]
  rw [e, e2]
  unfold tstX wrV
  cases t.not <;> rfl
theorem goX_nil (acc : Option GX) (c : GX) : goX acc c [] = joinX acc c := rfl
theorem goX_cons (acc : Option GX) (c : GX) (t : FTest) (r : List FTest) : goX acc c (t :: r) = if t.or = true then goX (some (joinX acc c)) (tstX t) r else goX acc (andX c (tstX t)) r := rfl
theorem goX_wr (l : List FTest) : ∀ (acc : Option GX) (c : GX), wrV (goX acc c l) = wrV (joinX acc c) ++ tailT l false := by
  induction l with
  | nil => intro acc c; rw [goX_nil]; simp [tailT]
  | cons t r ih =>
    intro acc c
    have e : tailT (t :: r) false = joinB t ++ tstW t false ++ tailT r false := by simp [tailT]
    rw [goX_cons, e]
    cases ho : t.or
    · rw [if_neg (by decide), ih]
      have e1 : wrV (joinX acc (andX c (tstX t))) = wrV (joinX acc c) ++ (joinB t ++ tstW t false) := by
        have e2 : wrV (andX c (tstX t)) = wrV c ++ kAnd :: tstW t false := by rw [← tstX_wr]; rfl
        have e3 : joinB t = [kAnd] := by unfold joinB; rw [ho]; rfl
        rw [e3]
        cases acc with
        | none => exact e2
        | some a =>
          show wrV a ++ kOr :: wrV (andX c (tstX t)) = (wrV a ++ kOr :: wrV c) ++ _
          rw [e2]; simp
      rw [e1]
      simp
    · rw [if_pos rfl, ih]
      have e3 : joinB t = [kOr] := by unfold joinB; rw [ho]; rfl
      have e1 : wrV (joinX (some (joinX acc c)) (tstX t)) = wrV (joinX acc c) ++ kOr :: tstW t false := by rw [← tstX_wr]; rfl
      rw [e1, e3]
      simp
theorem grdX_wr (wh : Bool) (t : FTest) (l : List FTest) : wrV (grdX wh t l) = grdW wh (t :: l) false := by
  have h : wrV (goX none (tstX t) l) = tstW t false ++ tailT l false := by
    rw [goX_wr, ← tstX_wr]; rfl
  unfold grdW
  rw [tsts_eq, ← h]
  unfold grdX innW
  cases wh
  · simp
  · rw [if_pos rfl, Bool.true_and, Bool.false_or, if_pos rfl]
    show (if decide (l ≠ []) = true then kNot :: kOpen :: (wrV (goX none (tstX t) l) ++ [kShut]) else kNot :: wrV (goX none (tstX t) l)) = _
    cases l with
    | nil => simp [kNot]
    | cons q r => simp [kNot, kOpen, kShut]
end Go.Proofs.YtnbpdffdnphbeaaGreatDoor

/- Plain: a frame's lines, read; the text that is written of them. -/
namespace Go.Proofs.YtnbpdffdnphbeaaGreatDoor
variable {P : List PT}

structure GR where
  nd : List PNode
  root : Int
  t : Int
  p : Int
/-- What is so of a rule's guard as it was read. -/
structure GrOk (low : List Nat) (r : FRule) (g : GR) : Prop where
  dep : g.p ≤ 4
  few : g.t = (r.tests.length : Nat)
  nds : ∀ z ∈ g.nd, NdOk low z
  den : ∃ t l k, r.tests = t :: l ∧ GDn low g.nd g.root k (grdX r.whole t l)
def inX (M : FMade) (i : Nat) : PLine := if i < 3 then ⟨1, inpF i, M.lo i, M.hi i, [], [], [], 0, 0, 0, []⟩ else ⟨2, inpF i, 0, 0, [], [], [], 0, 0, 0, []⟩
def ruX (r : FRule) (i : Nat) (g : GR) : PLine := ⟨3, nmB 114 i, 0, 0, nmB 99 r.head, fPPs r.parts, g.nd, g.root, g.t, g.p, []⟩
def ovXF (p : Nat × Nat) : PLine := ⟨4, nmB 114 p.1, 0, 0, [], [], [], 0, 0, 0, nmB 114 p.2⟩
def ovP (M : FMade) : List (Nat × Nat) := (List.range M.rules.length).flatMap fun i => (List.range M.rules.length).flatMap fun k => if M.over i k = true then [(i, k)] else []
def ruM (M : FMade) (i : Nat) : FRule := M.rules.getD i fr0
def frmX (M : FMade) (G : Nat → GR) : List PLine := (List.range 5).map (inX M) ++ (List.range M.rules.length).map (fun i => ruX (ruM M i) i (G i)) ++ (ovP M).map ovXF
theorem ruM_mem {M : FMade} {i : Nat} (hi : i < M.rules.length) : ruM M i ∈ M.rules := gd_mem fr0 hi

/-- A line that is read as one of which Q holds. -/
def RdK (P : List PT) (l : List Bs) (Q : PLine → Prop) : Prop := (∀ w r, l = w :: r → pkind w ≠ 0) ∧ 0 < l.length ∧ ∀ a, AtL P a l → a + l.length < P.length → ∃ x, Q x ∧ pLine P (a, false) = (x, (a + l.length, false))
theorem rdk_of {x : PLine} {ws : List Bs} (h : Reads x ws) : RdK P ws (· = x) := ⟨h.1, h.2.1, fun a hA hl => ⟨x, rfl, h.2.2 P a hA hl⟩⟩
theorem rule_k {M : FMade} (hM : MadeOk M) {i : Nat} (hi : i < M.rules.length) (lo : Bool) : RdK P (rulW (ruM M i) i lo) (fun x => ∃ g, GrOk (lowOf M.heads (ruM M i).head) (ruM M i) g ∧ x = ruX (ruM M i) i g) := by
  have h8 := hM.few
  have hr := hM.rules _ (ruM_mem hi)
  generalize ruM M i = r at *
  have hh := hr.head
  have hl4 : ∀ d ∈ lowOf M.heads r.head, d < 4 := fun d hd => by have := lowOf_lt hd; omega
  have hn : pkind (nmB 114 i) = 2 := nmB_kind (.inr (.inr (.inr rfl))) (by omega)
  have hc : pkind (nmB 99 r.head) = 2 := nmB_kind (.inr (.inr (.inl rfl))) (by omega)
  have hS := sum_read hl4 hr.parts
  obtain ⟨t, l, htl⟩ : ∃ t l, r.tests = t :: l := by
    have := hr.tests.1
    cases h : r.tests with
    | nil => rw [h] at this; simp at this
    | cons t l => exact ⟨t, l, rfl⟩
  have hT := hr.tests
  rw [htl] at hT
  have e : rulW r i lo = kRule :: nmB 114 i :: [58] :: nmB 99 r.head :: [61] :: (sumW r.parts ++ kWhen :: (grdW r.whole (t :: l) lo ++ [kEnd])) := by
    unfold rulW; rw [htl]; simp [kRule, kWhen, kEnd]
  rw [e]
  refine ⟨fun w r h => by cases h; decide, by simp, fun a h hlen => ?_⟩
  obtain ⟨h0, h1, h2, h3, h4, h5⟩ := h
  generalize hSS : sumW r.parts = S at *
  generalize hGG : grdW r.whole (t :: l) lo = GG at *
  have hl : a + (S.length + GG.length + 7) < P.length := by simp at hlen; omega
  rw [show S ++ kWhen :: (GG ++ [kEnd]) = (S ++ [kWhen]) ++ (GG ++ [kEnd]) by simp] at h5
  obtain ⟨hs, hg⟩ := h5.app
  obtain ⟨_, hw⟩ := hs.app
  obtain ⟨hg1, hge⟩ := hg.app
  have es := hS P _ hs (by omega)
  rw [List.length_append, List.length_singleton, ← Nat.add_assoc] at hg hg1 hge
  rw [← hGG] at hg
  obtain ⟨root, nd, p, k, eg, hp, hD, hN⟩ := grd_read hl4 r.whole lo hT hg (by rw [hGG]; omega)
  rw [hGG] at eg
  have ew := want_y hw.1 (by decide)
  have ee := want_y hge.1 (by decide)
  refine ⟨ruX r i ⟨nd, root, (l.length : Int) + 1, p⟩, ⟨⟨nd, root, (l.length : Int) + 1, p⟩, ⟨hp, by rw [htl]; simp, hN, t, l, k, htl, hD⟩, rfl⟩, ?_⟩
  have el : pRuleLine P (a + 1, false) = (ruX r i ⟨nd, root, (l.length : Int) + 1, p⟩, (a + (kRule :: nmB 114 i :: [58] :: nmB 99 r.head :: [61] :: (S ++ kWhen :: (GG ++ [kEnd]))).length, false)) := by
    unfold pRuleLine
    simp only [name_y h1 hn, want_y h2 (by decide), name_y h3 hc, want_y h4 (by decide), es, ew, eg, show ([59] : Bs) = kEnd from rfl, ee]
    refine Prod.ext rfl (Prod.ext ?_ rfl)
    simp; omega
  unfold pLine
  simp only [skip_n h0 [110, 117, 109] (fun _ => by decide), skip_n h0 [102, 108, 97, 103] (fun _ => by decide), show ([114, 117, 108, 101] : Bs) = kRule from rfl, skip_y h0 (by decide)]
  exact el
theorem in_k {M : FMade} (hM : MadeOk M) {i : Nat} (hi : i < 5) : RdK P (inLn M i) (· = inX M i) := by
  unfold inLn inX
  have hk := inpF_kind hi
  by_cases h3 : i < 3
  · rw [if_pos h3, if_pos h3]
    have hn := hM.nums i h3
    obtain ⟨a1, a2⟩ := it_kind (n := M.lo i) (by omega) (by omega)
    obtain ⟨b1, b2⟩ := it_kind (n := M.hi i) (by omega) (by omega)
    have := reads_num hk a1 b1
    rw [a2, b2] at this
    exact rdk_of this
  · rw [if_neg h3, if_neg h3]
    exact rdk_of (reads_flag hk)
theorem ovP_lt {M : FMade} (h : MadeOk M) {p : Nat × Nat} (hp : p ∈ ovP M) : p.1 < p.2 ∧ p.2 < M.rules.length ∧ M.over p.1 p.2 = true := by
  unfold ovP at hp
  obtain ⟨i, hi, hp⟩ := List.mem_flatMap.1 hp
  obtain ⟨k, hk, hp⟩ := List.mem_flatMap.1 hp
  split at hp
  · rename_i ho
    rw [List.mem_singleton.1 hp]
    have := h.over i k ho
    exact ⟨this.1, this.2.1, ho⟩
  · cases hp
theorem ov_k {M : FMade} (hM : MadeOk M) {p : Nat × Nat} (hp : p ∈ ovP M) : RdK P (ovLn p.1 p.2) (· = ovXF p) := by
  have h1 := ovP_lt hM hp
  have h8 := hM.few
  exact rdk_of (reads_over (nmB_kind (.inr (.inr (.inr rfl))) (by omega)) (nmB_kind (.inr (.inr (.inr rfl))) (by omega)))

def AllSF : List (PLine → Prop) → List PLine → Prop
  | [], [] => True
  | Q :: r, x :: xs => Q x ∧ AllSF r xs
  | _, _ => False
theorem lines_readS (P : List PT) : ∀ (K : List (List Bs × (PLine → Prop))) (n a : Nat) (acc : List PLine), (∀ y ∈ K, RdK P y.1 y.2) → AtL P a (K.map Prod.fst).flatten → (cur P (a + (K.map Prod.fst).flatten.length)).k = 0 → a + (K.map Prod.fst).flatten.length < P.length → K.length < n → ∃ xs, AllSF (K.map Prod.snd) xs ∧ pLines P n (a, false) acc = (acc ++ xs, (a + (K.map Prod.fst).flatten.length, false)) := by
  intro K
  induction K with
  | nil =>
    intro n a acc hR hA hk hl hn
    obtain ⟨n, rfl⟩ : ∃ k, n = k + 1 := ⟨n - 1, by simp at hn; omega⟩
    refine ⟨[], trivial, ?_⟩
    rw [pLines]; simp only [List.map_nil, List.flatten_nil, List.length_nil, Nat.add_zero] at hk ⊢
    rw [if_pos hk, List.append_nil]
  | cons y K ih =>
    intro n a acc hR hA hk hl hn
    obtain ⟨n, rfl⟩ : ∃ k, n = k + 1 := ⟨n - 1, by simp at hn; omega⟩
    obtain ⟨hx0, hx1, hx⟩ := hR y (by simp)
    obtain ⟨l, Q⟩ := y
    simp only at hx0 hx1 hx
    have e0 : (List.map Prod.fst ((l, Q) :: K)).flatten = l ++ (List.map Prod.fst K).flatten := rfl
    rw [e0] at hA hk hl ⊢
    rw [List.length_append] at hk hl ⊢
    obtain ⟨h1, h2⟩ := hA.app
    obtain ⟨x, hQ, e⟩ := hx a h1 (by omega)
    have hk0 : (cur P a).k ≠ 0 := by
      cases l with
      | nil => simp at hx1
      | cons w r => rw [h1.1.1]; exact hx0 w r rfl
    obtain ⟨xs, hxs, ex⟩ := ih n (a + l.length) (acc ++ [x]) (fun y hy => hR y (List.mem_cons_of_mem _ hy)) h2 (by rw [Nat.add_assoc]; exact hk) (by omega) (by simp at hn; omega)
    refine ⟨x :: xs, ⟨hQ, hxs⟩, ?_⟩
    rw [pLines]; simp only [e]
    rw [if_neg hk0, ex, List.append_assoc, List.singleton_append, Nat.add_assoc]
theorem AllSF.app {A B : List (PLine → Prop)} : ∀ {xs : List PLine}, AllSF (A ++ B) xs → ∃ xa xb, xs = xa ++ xb ∧ AllSF A xa ∧ AllSF B xb := by
  induction A with
  | nil => intro xs h; exact ⟨[], xs, rfl, trivial, h⟩
  | cons Q r ih =>
    intro xs h
    cases xs with
    | nil => exact absurd h id
    | cons x xs =>
      obtain ⟨xa, xb, e, h1, h2⟩ := ih h.2
      exact ⟨x :: xa, xb, by rw [e]; rfl, ⟨h.1, h1⟩, h2⟩
theorem AllSF.eq {β : Type} {f : β → PLine} {zs : List β} : ∀ {xs : List PLine}, AllSF (zs.map fun z x => x = f z) xs → xs = zs.map f := by
  induction zs with
  | nil => intro xs h; cases xs with
    | nil => rfl
    | cons x xs => exact absurd h id
  | cons z r ih => intro xs h; cases xs with
    | nil => exact absurd h id
    | cons x xs => rw [List.map_cons, ih h.2, h.1]
theorem AllSF.one {Q : PLine → Prop} {xs : List PLine} (h : AllSF [Q] xs) : ∃ x, xs = [x] ∧ Q x := by
  cases xs with
  | nil => exact absurd h id
  | cons x xs =>
    cases xs with
    | nil => exact ⟨x, rfl, h.1⟩
    | cons y ys => exact absurd h.2 id
theorem AllSF.ex {S : Nat → GR → Prop} {F : Nat → GR → PLine} (n : Nat) : ∀ {xs : List PLine}, AllSF ((List.range n).map fun i x => ∃ g, S i g ∧ x = F i g) xs → ∃ G : Nat → GR, (∀ i, i < n → S i (G i)) ∧ xs = (List.range n).map fun i => F i (G i) := by
  induction n with
  | zero =>
    intro xs h
    cases xs with
    | nil => exact ⟨fun _ => ⟨[], 0, 0, 0⟩, fun i hi => absurd hi (by simp), rfl⟩
    | cons x xs => exact absurd h id
  | succ n ih =>
    intro xs h
    rw [List.range_succ, List.map_append] at h
    obtain ⟨xa, xb, e, h1, h2⟩ := AllSF.app h
    obtain ⟨G, hG, ea⟩ := ih h1
    obtain ⟨x, ex, g, hg, eg⟩ := AllSF.one h2
    refine ⟨fun i => if i = n then g else G i, fun i hi => ?_, ?_⟩
    · show S i (if i = n then g else G i)
      by_cases hin : i = n
      · rw [if_pos hin, hin]; exact hg
      · rw [if_neg hin]; exact hG i (by omega)
    · rw [e, ea, ex, eg, List.range_succ, List.map_append]
      congr 1
      · refine List.map_congr_left fun i hi => ?_
        have := List.mem_range.1 hi
        show F i (G i) = F i (if i = n then g else G i)
        rw [if_neg (show ¬ i = n by omega)]
      · simp
def frmK (M : FMade) (lo : Bool) : List (List Bs × (PLine → Prop)) :=
  (List.range 5).map (fun i => (inLn M i, fun x => x = inX M i)) ++ (List.range M.rules.length).map (fun i => (rulW (ruM M i) i lo, fun x => ∃ g, GrOk (lowOf M.heads (ruM M i).head) (ruM M i) g ∧ x = ruX (ruM M i) i g)) ++ (ovP M).map (fun p => (ovLn p.1 p.2, fun x => x = ovXF p))
theorem ov_lines (M : FMade) : ((List.range M.rules.length).flatMap fun i => fovN M i M.rules.length) = (ovP M).map fun p => ovLn p.1 p.2 := by
  unfold ovP fovN
  rw [List.map_flatMap]
  congr 1
  funext i
  rw [List.map_flatMap]
  congr 1
  funext k
  split <;> rfl
theorem frmK_lines (M : FMade) (lo : Bool) : (frmK M lo).map Prod.fst = linesW M lo := by
  unfold frmK linesW
  rw [ov_lines, List.map_append, List.map_append, List.map_map, List.map_map, List.map_map]
  rfl
theorem frmK_ok {M : FMade} (h : MadeOk M) (lo : Bool) : ∀ y ∈ frmK M lo, RdK P y.1 y.2 := fun y hy => by
  unfold frmK at hy
  rcases List.mem_append.1 hy with hy | hy
  · rcases List.mem_append.1 hy with hy | hy
    · obtain ⟨i, hi, rfl⟩ := List.mem_map.1 hy
      exact in_k h (List.mem_range.1 hi)
    · obtain ⟨i, hi, rfl⟩ := List.mem_map.1 hy
      exact rule_k h (List.mem_range.1 hi) lo
  · obtain ⟨p, hp, rfl⟩ := List.mem_map.1 hy
    exact ov_k h hp
theorem frmK_few {M : FMade} (h : MadeOk M) (lo : Bool) : (frmK M lo).length ≤ (linesW M lo).flatten.length := by
  have : ∀ K : List (List Bs × (PLine → Prop)), (∀ y ∈ K, RdK [] y.1 y.2) → K.length ≤ (K.map Prod.fst).flatten.length := by
    intro K
    induction K with
    | nil => intro _; simp
    | cons y r ih =>
      intro hK
      have h1 := ih (fun z hz => hK z (List.mem_cons_of_mem _ hz))
      have h2 := (hK y (by simp)).2.1
      rw [List.map_cons, List.flatten_cons, List.length_append, List.length_cons]; omega
  have h2 := this _ (frmK_ok (P := []) h lo)
  rwa [frmK_lines] at h2
/-- A text whose tokens are a frame's words, read. -/
theorem frame_read {M : FMade} (h : MadeOk M) (lo : Bool) {l : Bs} (ht : tw l = (linesW M lo).flatten) : ∃ G : Nat → GR, (∀ i, i < M.rules.length → GrOk (lowOf M.heads (ruM M i).head) (ruM M i) (G i)) ∧ (readB l).1 = frmX M G ∧ (readB l).2.2 = false := by
  have hn := toP_n l
  have hk := toP_k0 l
  have hA := toP_atl l
  have hf := frmK_few h lo
  rw [ht, ← frmK_lines] at hn hk hA
  rw [← frmK_lines] at hf
  obtain ⟨xs, hxs, e⟩ := lines_readS (toP l) (frmK M lo) (2 * (toP l).length + 1) 0 [] (frmK_ok h lo) hA (by rw [Nat.zero_add]; exact hk) (by omega) (by omega)
  have es : (frmK M lo).map Prod.snd = (List.range 5).map (fun i x => x = inX M i) ++ (List.range M.rules.length).map (fun i x => ∃ g, GrOk (lowOf M.heads (ruM M i).head) (ruM M i) g ∧ x = ruX (ruM M i) i g) ++ (ovP M).map (fun p x => x = ovXF p) := by
    unfold frmK
    rw [List.map_append, List.map_append, List.map_map, List.map_map, List.map_map]
    rfl
  rw [es] at hxs
  obtain ⟨xa, x3, e1, h1, h3⟩ := AllSF.app hxs
  obtain ⟨x1, x2, e2, h1, h2⟩ := AllSF.app h1
  have q1 := AllSF.eq h1
  have q3 := AllSF.eq h3
  obtain ⟨G, hG, q2⟩ := AllSF.ex (S := fun i g => GrOk (lowOf M.heads (ruM M i).head) (ruM M i) g) (F := fun i g => ruX (ruM M i) i g) M.rules.length h2
  refine ⟨G, hG, ?_, ?_⟩
  · unfold readB
    rw [e]
    show [] ++ xs = _
    rw [e1, e2, q1, q2, q3]; rfl
  · unfold readB
    rw [e]

/- The text. -/
theorem wWs_true (r : List Bs) : ∀ s, wWs r (s, true) = (s ++ r.flatMap (fun w => 32 :: w), true) := by
  induction r with
  | nil => intro s; simp [wWs]
  | cons w r ih =>
    intro s
    rw [wWs_cons, show wPut w (s, true) = (s ++ [32] ++ w, true) from rfl, ih]
    simp
theorem wrL_end (r : List Bs) (hr : ∀ x ∈ r, x ≠ [59]) : wrL (r ++ [[59]]) = r.flatMap (fun w => 32 :: w) ++ [59, 10] := by
  induction r with
  | nil => rfl
  | cons w r ih =>
    rw [List.cons_append, wrL, if_neg (hr w (by simp)), ih (fun x hx => hr x (List.mem_cons_of_mem _ hx))]
    simp
theorem wEnd_ws (w : Bs) (r : List Bs) (s : Bs) (hr : ∀ x ∈ r, x ≠ [59]) : wEnd (wWs (w :: r) (s, false)) = (s ++ wrLine (w :: (r ++ [[59]])), false) := by
  rw [wWs_cons, show wPut w (s, false) = (s ++ w, true) from rfl, wWs_true]
  unfold wEnd
  rw [wrLine, wrL_end r hr]
  simp
theorem semi_q : WordQ (· ≠ [59]) := by
  refine ⟨by decide, fun f i _ _ => ?_, fun n h0 h1 e => ?_, fun k hk => (show ∀ k, k < 6 → mkF k ≠ [59] by decide) k hk⟩
  · unfold nmB; simp
  · have := (it_ok h0 h1).2.1 59 (by rw [e]; simp)
    exact absurd this (by decide)
theorem wPart_ws {low : List Nat} {p : FPart} (h : PartOk low p) (m : Bool) (st : WSt) : wPart (fPP m p) st = wWs (bodyW p) st := by
  obtain ⟨mi, ti, n, nu, hd⟩ := p
  rcases h with ⟨h0, h1, h2, h3⟩ | ⟨h0, h1, h2⟩ | ⟨h0, h1, h2, h3⟩ | ⟨h1, h2, d, hd4, h3⟩
  · simp only at h0 h1 h2 h3
    subst h0 h2 h3
    have e : bodyW ⟨mi, false, n, -1, -1⟩ = [Lib.itoa n] := by simp [bodyW, timesW, starW, nameW]
    rw [e]; rfl
  · simp only at h0 h1 h2
    subst h0 h2
    have e : bodyW ⟨mi, false, n, nu, -1⟩ = [inpF nu.toNat] := by simp [bodyW, timesW, starW, nameW, h1.1]
    have e2 : fPP m ⟨mi, false, n, nu, -1⟩ = ⟨m, false, 0, inpF nu.toNat⟩ := by simp [fPP, h1.1]
    rw [e, e2]
    unfold wPart
    simp only [inpF_ne]; rfl
  · simp only at h0 h1 h2 h3
    subst h0 h3
    have e : bodyW ⟨mi, true, n, nu, -1⟩ = [Lib.itoa n, [42], inpF nu.toNat] := by simp [bodyW, timesW, starW, nameW, h2.1]
    have e2 : fPP m ⟨mi, true, n, nu, -1⟩ = ⟨m, true, n, inpF nu.toNat⟩ := by simp [fPP, h2.1]
    rw [e, e2]; rfl
  · simp only at h1 h2 h3
    subst h2 h3
    cases ti
    · have e : bodyW ⟨mi, false, n, -1, d⟩ = [nmB 99 d] := by simp [bodyW, timesW, starW, nameW]
      have e2 : fPP m ⟨mi, false, n, -1, d⟩ = ⟨m, false, 0, nmB 99 d⟩ := by simp [fPP]
      rw [e, e2]; rfl
    · have e : bodyW ⟨mi, true, n, -1, d⟩ = [Lib.itoa n, [42], nmB 99 d] := by simp [bodyW, timesW, starW, nameW]
      have e2 : fPP m ⟨mi, true, n, -1, d⟩ = ⟨m, true, n, nmB 99 d⟩ := by simp [fPP]
      rw [e, e2]; rfl
theorem fPP_minus (m : Bool) (p : FPart) : (fPP m p).minus = m := by unfold fPP; split; rfl; split; rfl; split <;> rfl
theorem wSumG_ws {low : List Nat} (l : List FPart) : ∀ (i : Nat) (st : WSt), (∀ q ∈ l, PartOk low q) → 0 < i → wSumG (l.map fun q => fPP q.minus q) i st = wWs (tailW l) st := by
  induction l with
  | nil => intro i st _ _; rfl
  | cons q r ih =>
    intro i st h hi
    have e : tailW (q :: r) = signB q ++ (bodyW q ++ tailW r) := by simp [tailW]
    rw [List.map_cons, wSumG, e, wWs_app, wWs_app, ih _ _ (fun x hx => h x (List.mem_cons_of_mem _ hx)) (by omega), wPart_ws (h q (by simp)), fPP_minus]
    congr 2
    unfold wSign signB
    cases q.minus
    · simp only [hi, if_true]; rfl
    · rfl
theorem wSum_ws {low : List Nat} {ps : List FPart} (h : PartsOk low ps) (st : WSt) : wSumG (fPPs ps) 0 st = wWs (sumW ps) st := by
  cases ps with
  | nil => exact absurd h.1 (by simp)
  | cons p r =>
    rw [sumW_eq, wWs_app]
    show wSumG (r.map fun q => fPP q.minus q) (0 + 1) (wPart (fPP false p) (wSign (fPP false p).minus 0 st)) = _
    rw [wSumG_ws r _ _ (fun x hx => h.2.2 x (List.mem_cons_of_mem _ hx)) (by omega), wPart_ws (h.2.2 p (by simp)), fPP_minus]
    rfl
theorem wLine_in (M : FMade) {i : Nat} (hM : MadeOk M) (hi : i < 5) (s : Bs) : wLine (inX M i) (s, false) = (s ++ wrLine (inLn M i), false) := by
  unfold inX inLn
  have hq : inpF i ≠ [59] := semi_q.inp hi
  by_cases h3 : i < 3
  · rw [if_pos h3, if_pos h3]
    have hn := hM.nums i h3
    have h1 := semi_q.num (M.lo i) (by omega) (by omega)
    have h2 := semi_q.num (M.hi i) (by omega) (by omega)
    exact wEnd_ws [110, 117, 109] [inpF i, Lib.itoa (M.lo i), [46, 46], Lib.itoa (M.hi i)] s (all_cons (P := (· ≠ [59])) hq (all_cons h1 (all_cons (by decide) (all_cons h2 all_nil))))
  · rw [if_neg h3, if_neg h3]
    exact wEnd_ws [102, 108, 97, 103] [inpF i] s (all_cons (P := (· ≠ [59])) hq all_nil)
theorem wLine_ru {M : FMade} (hM : MadeOk M) {i : Nat} (hi : i < M.rules.length) {g : GR} (hg : GrOk (lowOf M.heads (ruM M i).head) (ruM M i) g) (s : Bs) : wLine (ruX (ruM M i) i g) (s, false) = (s ++ wrLine (rulW (ruM M i) i false), false) := by
  have h8 := hM.few
  have hr := hM.rules _ (ruM_mem hi)
  generalize ruM M i = r at *
  have hh := hr.head
  have hl4 : ∀ d ∈ lowOf M.heads r.head, d < 4 := fun d hd => by have := lowOf_lt hd; omega
  obtain ⟨t, l, k, htl, hD⟩ := hg.den
  obtain ⟨j1, j2, j3⟩ := hD wrA (wrA_ok _)
  have hw : ∀ st, wNode g.nd g.nd.length g.root.toNat st = wWs (grdW r.whole r.tests false) st := fun st => by
    have := j3 [] g.nd.length st j1
    rw [List.append_nil] at this
    rw [this, htl, ← grdX_wr]; rfl
  have e1 : wLine (ruX r i g) (s, false) = wEnd (wWs (kRule :: ([nmB 114 i, [58], nmB 99 r.head, [61]] ++ sumW r.parts ++ [kWhen] ++ grdW r.whole r.tests false)) (s, false)) := by
    show wEnd (wNode g.nd g.nd.length g.root.toNat (wPut kWhen (wSumG (fPPs r.parts) 0 (wPut [61] (wPut (nmB 99 r.head) (wPut [58] (wPut (nmB 114 i) (wPut kRule (s, false))))))))) = _
    rw [hw, wSum_ws hr.parts, wWs_cons, wWs_app, wWs_app, wWs_app]
    rfl
  have e2 : rulW r i false = kRule :: (([nmB 114 i, [58], nmB 99 r.head, [61]] ++ sumW r.parts ++ [kWhen] ++ grdW r.whole r.tests false) ++ [[59]]) := by
    unfold rulW; simp [kRule, kWhen]
  rw [e1, e2]
  refine wEnd_ws _ _ _ ?_
  exact (((all_cons (P := (· ≠ [59])) (semi_q.nam 114 i (.inr (.inr (.inr rfl))) (by omega)) (all_cons (by decide) (all_cons (semi_q.nam 99 r.head (.inr (.inr (.inl rfl))) (by omega)) (all_cons (by decide) all_nil)))).app (sum_all semi_q hl4 hr.parts)).app (all_cons (by decide) all_nil)).app (grd_all semi_q hl4 hr.tests _ _)
theorem wLine_ov {M : FMade} (hM : MadeOk M) {p : Nat × Nat} (hp : p ∈ ovP M) (s : Bs) : wLine (ovXF p) (s, false) = (s ++ wrLine (ovLn p.1 p.2), false) := by
  have h1 := ovP_lt hM hp
  have h8 := hM.few
  exact wEnd_ws [111, 118, 101, 114] [nmB 114 p.1, nmB 114 p.2] s (all_cons (P := (· ≠ [59])) (semi_q.nam 114 p.1 (.inr (.inr (.inr rfl))) (by omega)) (all_cons (semi_q.nam 114 p.2 (.inr (.inr (.inr rfl))) (by omega)) all_nil))
theorem textL2_map {β : Type} (f : β → PLine) (w : β → List Bs) (zs : List β) : ∀ s, (∀ z ∈ zs, ∀ s, wLine (f z) (s, false) = (s ++ wrLine (w z), false)) → textL2 (zs.map f) (s, false) = (s ++ wrB (zs.map w), false) := by
  induction zs with
  | nil => intro s _; simp [textL2, wrB]
  | cons z r ih =>
    intro s h
    rw [List.map_cons, textL2, h z (by simp), ih _ (fun x hx => h x (List.mem_cons_of_mem _ hx))]
    simp [wrB]
theorem textL2_app (a b : List PLine) : ∀ st, textL2 (a ++ b) st = textL2 b (textL2 a st) := by
  induction a with
  | nil => intro st; rfl
  | cons x r ih => intro st; rw [List.cons_append, textL2, textL2, ih]
theorem wrB_app (a b : List (List Bs)) : wrB (a ++ b) = wrB a ++ wrB b := by unfold wrB; rw [List.flatMap_append]
/-- What is written of a frame's lines is its tidy text. -/
theorem frame_text {M : FMade} (h : MadeOk M) {G : Nat → GR} (hG : ∀ i, i < M.rules.length → GrOk (lowOf M.heads (ruM M i).head) (ruM M i) (G i)) : textL2 (frmX M G) ([], false) = (wrB (linesW M false), false) := by
  unfold frmX linesW
  rw [textL2_app, textL2_app, ov_lines, wrB_app, wrB_app]
  rw [textL2_map (inX M) (inLn M) (List.range 5) [] (fun i hi s => wLine_in M h (List.mem_range.1 hi) s)]
  rw [textL2_map (fun i => ruX (ruM M i) i (G i)) (fun i => rulW (ruM M i) i false) (List.range M.rules.length) _ (fun i hi s => wLine_ru h (List.mem_range.1 hi) (hG i (List.mem_range.1 hi)) s)]
  rw [textL2_map ovXF (fun p => ovLn p.1 p.2) (ovP M) _ (fun p hp s => wLine_ov h hp s)]
  rfl
end Go.Proofs.YtnbpdffdnphbeaaGreatDoor
