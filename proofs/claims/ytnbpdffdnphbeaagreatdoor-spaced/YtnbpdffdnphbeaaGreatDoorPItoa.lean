/- Plain: a number up to 9999, written: digits alone, one to four; its value; no word of a frame's lines is empty. -/
import Derived.Test.YtnbpdffdnphbeaaGreatDoorFStrew
import Derived.Test.YtnbpdffdnphbeaaGreatDoorPWords
namespace Go.Proofs.YtnbpdffdnphbeaaGreatDoor

theorem dgt_so {d : Nat} (h : d < 10) : so (UInt8.ofNat (48 + d)) = 2 := (show ∀ d : Nat, d < 10 → so (UInt8.ofNat (48 + d)) = 2 by decide) d h
theorem dgt_val {d : Nat} (h : d < 10) : ((UInt8.ofNat (48 + d)).toNat : Int) = 48 + d := (show ∀ d : Nat, d < 10 → ((UInt8.ofNat (48 + d)).toNat : Int) = 48 + d by decide) d h
theorem dec_step {u : Nat} (h : ¬ u < 10) : Lib.decDigits u = Lib.decDigits (u / 10) ++ [UInt8.ofNat (48 + u % 10)] := by
  rw [Lib.decDigits, dif_neg h]
theorem dec_so (u : Nat) : ∀ c ∈ Lib.decDigits u, so c = 2 := by
  induction u using Nat.strongRecOn with
  | _ u ih =>
    by_cases h : u < 10
    · rw [Lib.decDigits_one h]
      intro c hc
      rw [List.mem_singleton.1 hc]
      exact dgt_so h
    · rw [dec_step h]
      intro c hc
      rcases List.mem_append.1 hc with h1 | h1
      · exact ih (u / 10) (by omega) c h1
      · rw [List.mem_singleton.1 h1]; exact dgt_so (by omega)
theorem dec_ne (u : Nat) : Lib.decDigits u ≠ [] := fun e => by
  have h1 := Lib.decDigits_length u
  have h2 := Lib.nDigits_pos u
  rw [e] at h1
  simp at h1
  omega
theorem valF_app (s : Bs) (c : UInt8) : ∀ a : Int, valF a (s ++ [c]) = valF a s * 10 + ((c.toNat : Int) - 48) := by
  induction s with
  | nil => intro a; simp [valF]; omega
  | cons x r ih => intro a; simp only [List.cons_append, valF]; rw [ih]
theorem dec_valF (u : Nat) : valF 0 (Lib.decDigits u) = u := by
  induction u using Nat.strongRecOn with
  | _ u ih =>
    by_cases h : u < 10
    · rw [Lib.decDigits_one h]
      simp only [valF]
      rw [dgt_val h]
      omega
    · rw [dec_step h, valF_app, ih (u / 10) (by omega), dgt_val (by omega)]
      omega
theorem dec_len {u : Nat} (h : u ≤ 9999) : (Lib.decDigits u).length ≤ 4 := by
  rw [Lib.decDigits_length]
  by_cases h1 : u < 10
  · rw [Lib.nDigits_small h1]; decide
  · rw [Lib.nDigits_big h1]
    by_cases h2 : u / 10 < 10
    · rw [Lib.nDigits_small h2]; decide
    · rw [Lib.nDigits_big h2]
      by_cases h3 : u / 10 / 10 < 10
      · rw [Lib.nDigits_small h3]; decide
      · rw [Lib.nDigits_big h3, Lib.nDigits_small (by omega)]; decide
theorem it_dec {n : Int} (h : 0 ≤ n) : Lib.itoa n = Lib.decDigits n.toNat := by unfold Lib.itoa; rw [if_neg (by omega)]
/-- A number, written. -/
theorem it_ok {n : Int} (h0 : 0 ≤ n) (h1 : n ≤ 9999) : Lib.itoa n ≠ [] ∧ (∀ c ∈ Lib.itoa n, so c = 2) ∧ (Lib.itoa n).length ≤ 4 ∧ valF 0 (Lib.itoa n) = n := by
  rw [it_dec h0]
  exact ⟨dec_ne _, dec_so _, dec_len (by omega), by rw [dec_valF]; omega⟩
theorem dec_head (u : Nat) : 0 < u → (Lib.decDigits u).getD 0 0 ≠ 48 := by
  induction u using Nat.strongRecOn with
  | _ u ih =>
    intro h0
    by_cases h : u < 10
    · rw [Lib.decDigits_one h]
      exact (show ∀ u : Nat, u < 10 → 0 < u → ([UInt8.ofNat (48 + u)] : Bs).getD 0 0 ≠ 48 by decide) u h h0
    · rw [dec_step h]
      have h1 := ih (u / 10) (by omega) (by omega)
      have h2 := dec_ne (u / 10)
      cases hd : Lib.decDigits (u / 10) with
      | nil => exact absurd hd h2
      | cons a r => rw [hd] at h1; exact h1
theorem it_kind {n : Int} (h0 : 0 ≤ n) (h1 : n ≤ 9999) : pkind (Lib.itoa n) = 3 ∧ pval (Lib.itoa n) = n := by
  obtain ⟨a1, a2, a3, a4⟩ := it_ok h0 h1
  have hh : so ((Lib.itoa n).getD 0 0) = 2 := a2 _ (gd_mem 0 (List.length_pos_iff.2 a1))
  have hz : ¬ (4 < (Lib.itoa n).length ∨ 1 < (Lib.itoa n).length ∧ (Lib.itoa n).getD 0 0 = 48) := fun q => by
    rcases q with q | ⟨q1, q2⟩
    · omega
    · rw [it_dec h0] at q1 q2
      by_cases hp : 0 < n.toNat
      · exact dec_head _ hp q2
      · rw [show n.toNat = 0 by omega, Lib.decDigits_one (by decide)] at q1
        simp at q1
  have hk : pkind (Lib.itoa n) = 3 := by unfold pkind; rw [if_neg (by rw [hh]; decide), if_pos hh, if_neg hz]
  exact ⟨hk, by unfold pval; rw [if_pos hk]; exact a4⟩
end Go.Proofs.YtnbpdffdnphbeaaGreatDoor

/- Plain: what is so of the fixed words, of names, of marks and of numbers is so of every word of a frame's lines. -/
namespace Go.Proofs.YtnbpdffdnphbeaaGreatDoor

def fixW : List Bs := [[110, 111, 116], [40], [41], kAlwW, kHasW, [111, 114], [97, 110, 100], [45], [43], [42], [114, 117, 108, 101], [58], [61], [119, 104, 101, 110], [59], [110, 117, 109], [46, 46], [102, 108, 97, 103], [111, 118, 101, 114]]
def fixQ : List Bs := [[110, 111, 116], [40], [41], kAlwW, kHasW, [111, 114], [97, 110, 100], [45], [43], [42], [114, 117, 108, 101], [58], [61], [119, 104, 101, 110], [110, 117, 109], [46, 46], [102, 108, 97, 103], [111, 118, 101, 114]]
/-- The words but ';'. -/
structure WordQ (P : Bs → Prop) : Prop where
  fix : ∀ x ∈ fixQ, P x
  nam : ∀ f i, f = 110 ∨ f = 102 ∨ f = 99 ∨ f = 114 → i < 8 → P (nmB f i)
  num : ∀ n : Int, 0 ≤ n → n ≤ 9999 → P (Lib.itoa n)
  mark : ∀ k, k < 6 → P (mkF k)
structure WordP (P : Bs → Prop) : Prop where
  fix : ∀ x ∈ fixW, P x
  nam : ∀ f i, f = 110 ∨ f = 102 ∨ f = 99 ∨ f = 114 → i < 8 → P (nmB f i)
  num : ∀ n : Int, 0 ≤ n → n ≤ 9999 → P (Lib.itoa n)
  mark : ∀ k, k < 6 → P (mkF k)
theorem WordP.q {P : Bs → Prop} (h : WordP P) : WordQ P := ⟨fun x hx => h.fix x ((show ∀ x ∈ fixQ, x ∈ fixW by decide) x hx), h.nam, h.num, h.mark⟩
def AllP (P : Bs → Prop) (l : List Bs) : Prop := ∀ x ∈ l, P x
variable {P : Bs → Prop}
theorem AllP.app {a b : List Bs} (ha : AllP P a) (hb : AllP P b) : AllP P (a ++ b) := fun x hx => by
  rcases List.mem_append.1 hx with h | h
  · exact ha x h
  · exact hb x h
theorem all_nil : AllP P [] := fun x hx => by cases hx
theorem all_cons {a : Bs} {l : List Bs} (ha : P a) (hl : AllP P l) : AllP P (a :: l) := fun x hx => by
  rcases List.mem_cons.1 hx with rfl | h
  · exact ha
  · exact hl x h
theorem all_ite {p : Prop} [Decidable p] {a b : List Bs} (ha : p → AllP P a) (hb : ¬ p → AllP P b) : AllP P (if p then a else b) := by split <;> rename_i h; exact ha h; exact hb h
theorem all_flat {f : Nat → List Bs} {n : Nat} (h : ∀ i, i < n → AllP P (f i)) : AllP P ((List.range n).flatMap f) := fun x hx => by
  obtain ⟨i, hi, hx'⟩ := List.mem_flatMap.1 hx
  exact h i (List.mem_range.1 hi) x hx'
theorem WordQ.inp (h : WordQ P) {i : Nat} (hi : i < 5) : P (inpF i) := by
  unfold inpF
  split
  · exact h.nam _ _ (.inl rfl) (by omega)
  · exact h.nam _ _ (.inr (.inl rfl)) (by omega)
theorem WordQ.one (h : WordQ P) {x : Bs} (hx : x ∈ fixQ) {p : Prop} [Decidable p] : AllP P (if p then [x] else []) := all_ite (fun _ => all_cons (h.fix x hx) all_nil) (fun _ => all_nil)
theorem core_all (hP : WordQ P) {low : List Nat} (hl4 : ∀ d ∈ low, d < 4) {t : FTest} (h : TestOk low t) : AllP P (coreW t) := by
  unfold coreW
  rcases h with h | ⟨h, x1, x2⟩ | ⟨h, d, hd, hx⟩ | ⟨h, ⟨x1, x2⟩, ⟨y1, y2⟩, ⟨m1, m2⟩, n1, n2⟩
  · rw [if_pos h]; exact all_cons (hP.fix _ (by decide)) all_nil
  · rw [if_neg (by omega), if_pos h]; exact all_cons (hP.inp (by omega)) all_nil
  · rw [if_neg (by omega), if_neg (by omega), if_pos h]
    have := hl4 d hd
    exact all_cons (hP.fix _ (by decide)) (all_cons (hP.nam _ _ (.inr (.inr (.inl rfl))) (by omega)) all_nil)
  · rw [if_neg (by omega), if_neg (by omega), if_neg (by omega)]
    exact all_ite (fun _ => all_cons (hP.inp (by omega)) (all_cons (hP.mark _ (by omega)) (all_cons (hP.num _ n1 n2) all_nil))) (fun _ => all_cons (hP.inp (by omega)) (all_cons (hP.mark _ (by omega)) (all_cons (hP.inp (by omega)) all_nil)))
theorem tst_all (hP : WordQ P) {low : List Nat} (hl4 : ∀ d ∈ low, d < 4) {t : FTest} (h : TestOk low t) (lo : Bool) : AllP P (tstW t lo) := by
  unfold tstW
  exact (((hP.one (by decide)).app (hP.one (by decide))).app (core_all hP hl4 h)).app (hP.one (by decide))
theorem grd_all (hP : WordQ P) {low : List Nat} (hl4 : ∀ d ∈ low, d < 4) {ts : List FTest} (h : TestsOk low ts) (wh lo : Bool) : AllP P (grdW wh ts lo) := by
  unfold grdW tstsN
  refine (((hP.one (by decide)).app (hP.one (by decide))).app (all_flat fun i hi => ?_)).app (hP.one (by decide))
  refine AllP.app ?_ (tst_all hP hl4 (h.2.2 _ (gd_mem ft0 hi)) lo)
  unfold joinW
  exact all_ite (fun _ => all_nil) (fun _ => all_ite (fun _ => all_cons (hP.fix _ (by decide)) all_nil) (fun _ => all_cons (hP.fix _ (by decide)) all_nil))
theorem sum_all (hP : WordQ P) {low : List Nat} (hl4 : ∀ d ∈ low, d < 4) {ps : List FPart} (h : PartsOk low ps) : AllP P (sumW ps) := by
  unfold sumW sumWN
  refine all_flat fun i hi => ?_
  have hp := h.2.2 _ (gd_mem fp0 hi)
  generalize ps.getD i fp0 = p at *
  unfold partW signW timesW starW nameW
  refine (((all_ite (fun _ => all_nil) (fun _ => all_ite (fun _ => all_cons (hP.fix _ (by decide)) all_nil) (fun _ => all_cons (hP.fix _ (by decide)) all_nil))).app (all_ite (fun hc => all_cons ?_ all_nil) (fun _ => all_nil))).app (hP.one (by decide))).app (all_ite (fun hn => all_cons ?_ all_nil) (fun _ => all_ite (fun hh => all_cons ?_ all_nil) (fun _ => all_nil)))
  · rcases hp with ⟨-, h1, -, -⟩ | ⟨h0, h1, -⟩ | ⟨-, h1, -⟩ | ⟨h1, -, -⟩
    · exact hP.num _ h1.1 h1.2
    · rcases hc with hc | hc
      · exact absurd (hc.symm.trans h0) (by simp)
      · omega
    · exact hP.num _ h1.1 (by omega)
    · exact hP.num _ h1.1 (by omega)
  · rcases hp with ⟨-, -, h1, -⟩ | ⟨-, h1, -⟩ | ⟨-, -, h1, -⟩ | ⟨-, h1, -⟩
    · omega
    · exact hP.inp (by omega)
    · exact hP.inp (by omega)
    · omega
  · rcases hp with ⟨-, -, -, h1⟩ | ⟨-, -, h1⟩ | ⟨-, -, -, h1⟩ | ⟨-, -, d, hd, h1⟩
    · omega
    · omega
    · omega
    · have := hl4 d hd
      exact hP.nam _ _ (.inr (.inr (.inl rfl))) (by omega)
theorem lines_all (hP : WordP P) {M : FMade} (h : MadeOk M) (lo : Bool) : ∀ l ∈ linesW M lo, AllP P l := fun l hl => by
  have h8 := h.few
  unfold linesW at hl
  rcases List.mem_append.1 hl with hl | hl
  · rcases List.mem_append.1 hl with hl | hl
    · obtain ⟨i, hi, rfl⟩ := List.mem_map.1 hl
      have hi5 := List.mem_range.1 hi
      unfold inLn
      split
      · rename_i h3
        have := h.nums i h3
        exact all_cons (hP.fix _ (by decide)) (all_cons (hP.q.inp hi5) (all_cons (hP.num _ (by omega) (by omega)) (all_cons (hP.fix _ (by decide)) (all_cons (hP.num _ (by omega) (by omega)) (all_cons (hP.fix _ (by decide)) all_nil)))))
      · exact all_cons (hP.fix _ (by decide)) (all_cons (hP.q.inp hi5) (all_cons (hP.fix _ (by decide)) all_nil))
    · obtain ⟨i, hi, rfl⟩ := List.mem_map.1 hl
      have hr := h.rules _ (gd_mem fr0 (List.mem_range.1 hi))
      have hi8 := List.mem_range.1 hi
      generalize M.rules.getD i fr0 = r at *
      have hh := hr.head
      have hl4 : ∀ d ∈ lowOf M.heads r.head, d < 4 := fun d hd => by have := lowOf_lt hd; omega
      have q1 : AllP P [[114, 117, 108, 101], nmB 114 i, [58], nmB 99 r.head, [61]] := all_cons (hP.fix _ (by decide)) (all_cons (hP.nam _ _ (.inr (.inr (.inr rfl))) (by omega)) (all_cons (hP.fix _ (by decide)) (all_cons (hP.nam _ _ (.inr (.inr (.inl rfl))) (by omega)) (all_cons (hP.fix _ (by decide)) all_nil))))
      unfold rulW
      exact (((q1.app (sum_all hP.q hl4 hr.parts)).app (all_cons (hP.fix _ (by decide)) all_nil)).app (grd_all hP.q hl4 hr.tests _ _)).app (all_cons (hP.fix _ (by decide)) all_nil)
  · obtain ⟨i, hi, hl⟩ := List.mem_flatMap.1 hl
    have hi8 := List.mem_range.1 hi
    unfold fovN at hl
    obtain ⟨j, hj, hl⟩ := List.mem_flatMap.1 hl
    have hj8 := List.mem_range.1 hj
    split at hl
    · rw [List.mem_singleton.1 hl]
      exact all_cons (hP.fix _ (by decide)) (all_cons (hP.nam _ _ (.inr (.inr (.inr rfl))) (by omega)) (all_cons (hP.nam _ _ (.inr (.inr (.inr rfl))) (by omega)) (all_cons (hP.fix _ (by decide)) all_nil)))
    · cases hl
theorem ne_word : WordP (· ≠ []) := ⟨by decide, fun f i _ _ => by unfold nmB; simp, fun n h0 h1 => (it_ok h0 h1).1, fun k hk => (show ∀ k, k < 6 → mkF k ≠ [] by decide) k hk⟩
theorem lines_ne {M : FMade} (h : MadeOk M) (lo : Bool) : ∀ l ∈ linesW M lo, ∀ x ∈ l, x ≠ [] := lines_all ne_word h lo
end Go.Proofs.YtnbpdffdnphbeaaGreatDoor

/- Plain: each word of a frame's lines is one token; a frame's tidy text, read, gives its words. -/
namespace Go.Proofs.YtnbpdffdnphbeaaGreatDoor

theorem fnm_so {f : UInt8} {i : Nat} (hf : f = 110 ∨ f = 102 ∨ f = 99 ∨ f = 114) (hi : i < 8) : ∀ x ∈ nmB f i, so x = 1 := by
  have h : i = 0 ∨ i = 1 ∨ i = 2 ∨ i = 3 ∨ i = 4 ∨ i = 5 ∨ i = 6 ∨ i = 7 := by omega
  rcases hf with rfl | rfl | rfl | rfl <;> rcases h with rfl | rfl | rfl | rfl | rfl | rfl | rfl | rfl <;> decide
theorem wd_word : WordP Wd := by
  have run : ∀ x : Bs, x ≠ [] → (∀ c ∈ x, so c = 1) → Wd x := fun x h1 h2 => wd_run 1 (.inl rfl) h1 h2
  have m1 : ∀ m : UInt8, so m = 0 → amongB twoMarks [m, 32] = false → amongB twoMarks [m, 59] = false → amongB twoMarks [m, 10] = false → Wd [m] := fun m a b c d => wd_mark a b c d
  refine ⟨fun x hx => ?_, fun f i hf hi => run _ (by unfold nmB; simp) (fnm_so hf hi), fun n h0 h1 => wd_run 2 (.inr rfl) (it_ok h0 h1).1 (it_ok h0 h1).2.1, fun k hk => ?_⟩
  · simp only [fixW, List.mem_cons, List.not_mem_nil, or_false] at hx
    rcases hx with rfl | rfl | rfl | rfl | rfl | rfl | rfl | rfl | rfl | rfl | rfl | rfl | rfl | rfl | rfl | rfl | rfl | rfl | rfl
    all_goals first
      | exact run _ (by decide) (by decide)
      | exact m1 _ (by decide) (by decide) (by decide) (by decide)
      | exact wd_mark2 (by decide) (by decide)
  · have h : k = 0 ∨ k = 1 ∨ k = 2 ∨ k = 3 ∨ k = 4 ∨ k = 5 := by omega
    rcases h with rfl | rfl | rfl | rfl | rfl | rfl
    all_goals first
      | exact m1 _ (by decide) (by decide) (by decide) (by decide)
      | exact wd_mark2 (by decide) (by decide)
theorem lines_wd {M : FMade} (h : MadeOk M) (lo : Bool) : ∀ l ∈ linesW M lo, ∀ x ∈ l, Wd x := lines_all wd_word h lo
/-- A frame's tidy text, in tokens. -/
theorem text_tw {M : FMade} (h : MadeOk M) (lo : Bool) : tw (wrB (linesW M lo)) = (linesW M lo).flatten := tw_wrB _ (lines_wd h lo)
end Go.Proofs.YtnbpdffdnphbeaaGreatDoor

/- Plain: what the reader gives of a frame's lines: nums, flags, overs. -/
namespace Go.Proofs.YtnbpdffdnphbeaaGreatDoor

theorem reads_num {r a b : Bs} (hr : pkind r = 2) (ha : pkind a = 3) (hb : pkind b = 3) : Reads ⟨1, r, pval a, pval b, [], [], [], 0, 0, 0, []⟩ [[110, 117, 109], r, a, [46, 46], b, kEnd] := by
  refine ⟨fun w r h => by cases h; decide, by simp, fun P x h _ => ?_⟩
  obtain ⟨h0, h1, h2, h3, h4, h5, _⟩ := h
  unfold pLine
  simp only [skip_y h0 (by decide)]
  unfold pNumLine
  simp only [name_y h1 hr, number_y h2 ha, want_y h3 (by decide), number_y h4 hb, show ([59] : Bs) = kEnd from rfl, want_y h5 (by decide)]
  rfl
theorem reads_flag {r : Bs} (hr : pkind r = 2) : Reads ⟨2, r, 0, 0, [], [], [], 0, 0, 0, []⟩ [[102, 108, 97, 103], r, kEnd] := by
  refine ⟨fun w r h => by cases h; decide, by simp, fun P x h _ => ?_⟩
  obtain ⟨h0, h1, h2, _⟩ := h
  unfold pLine
  simp only [skip_n h0 [110, 117, 109] (fun _ => by decide), skip_y h0 (by decide)]
  unfold pFlagLine
  simp only [name_y h1 hr, show ([59] : Bs) = kEnd from rfl, want_y h2 (by decide)]
  rfl
end Go.Proofs.YtnbpdffdnphbeaaGreatDoor

/- Plain: what the reader gives of a frame's sums. -/
namespace Go.Proofs.YtnbpdffdnphbeaaGreatDoor

def bodyW (p : FPart) : List Bs := timesW p ++ starW p ++ nameW p
def signB (p : FPart) : List Bs := if p.minus = true then [[45]] else [[43]]
def tailW (l : List FPart) : List Bs := l.flatMap fun q => signB q ++ bodyW q
/-- A part, as the reader gives it. -/
def fPP (m : Bool) (p : FPart) : PPart := if p.times = true then ⟨m, true, p.n, if 0 ≤ p.num then inpF p.num.toNat else nmB 99 p.head.toNat⟩ else if 0 ≤ p.num then ⟨m, false, 0, inpF p.num.toNat⟩ else if 0 ≤ p.head then ⟨m, false, 0, nmB 99 p.head.toNat⟩ else ⟨m, false, p.n, []⟩
theorem nmB_kind {f : UInt8} {i : Nat} (hf : f = 110 ∨ f = 102 ∨ f = 99 ∨ f = 114) (hi : i < 8) : pkind (nmB f i) = 2 := by
  have h : i = 0 ∨ i = 1 ∨ i = 2 ∨ i = 3 ∨ i = 4 ∨ i = 5 ∨ i = 6 ∨ i = 7 := by omega
  rcases hf with rfl | rfl | rfl | rfl <;> rcases h with rfl | rfl | rfl | rfl | rfl | rfl | rfl | rfl <;> decide
theorem inpF_kind {i : Nat} (hi : i < 5) : pkind (inpF i) = 2 := by
  unfold inpF
  split
  · exact nmB_kind (.inl rfl) (by omega)
  · exact nmB_kind (.inr (.inl rfl)) (by omega)
theorem body_read {low : List Nat} (hl4 : ∀ d ∈ low, d < 4) {p : FPart} (h : PartOk low p) {P : List PT} {a : Nat} {v : Bs} (m : Bool) (hv : pkind v = 4 → v ≠ [42]) (hA : AtL P a (bodyW p ++ [v])) : pPart P m (a, false) = (fPP m p, (a + (bodyW p).length, false)) := by
  obtain ⟨mi, ti, n, nu, hd⟩ := p
  rcases h with ⟨h0, h1, h2, h3⟩ | ⟨h0, h1, h2⟩ | ⟨h0, h1, h2, h3⟩ | ⟨h1, h2, d, hd4, h3⟩
  · simp only at h0 h1 h2 h3
    subst h0 h2 h3
    have e : bodyW ⟨mi, false, n, -1, -1⟩ = [Lib.itoa n] := by simp [bodyW, timesW, starW, nameW]
    rw [e] at hA ⊢
    obtain ⟨k1, k2⟩ := it_kind h1.1 h1.2
    rw [part_num m hA.1 k1 hA.2.1 hv, k2]
    rfl
  · simp only at h0 h1 h2
    subst h0 h2
    have e : bodyW ⟨mi, false, n, nu, -1⟩ = [inpF nu.toNat] := by simp [bodyW, timesW, starW, nameW, h1.1]
    rw [e] at hA ⊢
    rw [part_name m hA.1 (inpF_kind (by omega))]
    simp [fPP, h1.1]
  · simp only at h0 h1 h2 h3
    subst h0 h3
    have e : bodyW ⟨mi, true, n, nu, -1⟩ = [Lib.itoa n, [42], inpF nu.toNat] := by simp [bodyW, timesW, starW, nameW, h2.1]
    rw [e] at hA ⊢
    obtain ⟨k1, k2⟩ := it_kind h1.1 (by omega)
    rw [part_star m hA.1 k1 hA.2.1 hA.2.2.1 (inpF_kind (by omega)), k2]
    simp [fPP, h2.1]
  · simp only at h1 h2 h3
    subst h2 h3
    have hd4' := hl4 d hd4
    cases ti
    · have e : bodyW ⟨mi, false, n, -1, d⟩ = [nmB 99 d] := by simp [bodyW, timesW, starW, nameW]
      rw [e] at hA ⊢
      rw [part_name m hA.1 (nmB_kind (.inr (.inr (.inl rfl))) (by omega))]
      simp [fPP]
    · have e : bodyW ⟨mi, true, n, -1, d⟩ = [Lib.itoa n, [42], nmB 99 d] := by simp [bodyW, timesW, starW, nameW]
      rw [e] at hA ⊢
      obtain ⟨k1, k2⟩ := it_kind h1.1 (by omega)
      rw [part_star m hA.1 k1 hA.2.1 hA.2.2.1 (nmB_kind (.inr (.inr (.inl rfl))) (by omega)), k2]
      simp [fPP]
theorem tail_read {low : List Nat} (hl4 : ∀ d ∈ low, d < 4) {P : List PT} : ∀ (l : List FPart) (p : FPart) (n a : Nat) (m : Bool) (acc : List PPart), (∀ q ∈ p :: l, PartOk low q) → AtL P a (bodyW p ++ tailW l ++ [kWhen]) → l.length < n → pSumG P n m (a, false) acc = (acc ++ fPP m p :: l.map (fun q => fPP q.minus q), (a + (bodyW p ++ tailW l).length, false)) := by
  intro l
  induction l with
  | nil =>
    intro p n a m acc hok hA hn
    obtain ⟨n, rfl⟩ : ∃ k, n = k + 1 := ⟨n - 1, by simp at hn; omega⟩
    have hA' : AtL P a (bodyW p ++ [kWhen]) := by simpa [tailW] using hA
    have hw := hA'.app.2.1
    rw [sum_end (body_read hl4 (hok p (by simp)) m (fun _ => by decide) hA') hw (fun _ => by decide)]
    simp [tailW]
  | cons q r ih =>
    intro p n a m acc hok hA hn
    obtain ⟨n, rfl⟩ : ∃ k, n = k + 1 := ⟨n - 1, by simp at hn; omega⟩
    have hq : ∀ x ∈ q :: r, PartOk low x := fun x hx => hok x (List.mem_cons_of_mem _ hx)
    have hp := hok p (by simp)
    cases hm : q.minus
    · have e : bodyW p ++ tailW (q :: r) ++ [kWhen] = (bodyW p ++ [[43]]) ++ (bodyW q ++ tailW r ++ [kWhen]) := by simp [tailW, signB, hm]
      rw [e] at hA
      obtain ⟨h1, h2⟩ := hA.app
      have hs := h1.app.2.1
      rw [sum_plus (body_read hl4 hp m (fun _ => by decide) h1) hs]
      rw [List.length_append, List.length_singleton, ← Nat.add_assoc] at h2
      rw [ih q n _ false _ hq h2 (by simp at hn; omega)]
      refine Prod.ext (by simp [hm]) (Prod.ext ?_ rfl)
      simp [tailW, signB, hm]; omega
    · have e : bodyW p ++ tailW (q :: r) ++ [kWhen] = (bodyW p ++ [[45]]) ++ (bodyW q ++ tailW r ++ [kWhen]) := by simp [tailW, signB, hm]
      rw [e] at hA
      obtain ⟨h1, h2⟩ := hA.app
      have hs := h1.app.2.1
      rw [sum_minus (body_read hl4 hp m (fun _ => by decide) h1) hs]
      rw [List.length_append, List.length_singleton, ← Nat.add_assoc] at h2
      rw [ih q n _ true _ hq h2 (by simp at hn; omega)]
      refine Prod.ext (by simp [hm]) (Prod.ext ?_ rfl)
      simp [tailW, signB, hm]; omega
theorem tail_eq (ps : List FPart) : ∀ (l : List FPart) (k : Nat), 0 < k → ps.drop k = l → ((List.range l.length).flatMap fun j => partW (k + j) (ps.getD (k + j) fp0)) = tailW l := by
  intro l
  induction l with
  | nil => intro k _ _; rfl
  | cons q r ih =>
    intro k hk hd
    have hlt : k < ps.length := by
      rcases Nat.lt_or_ge k ps.length with h | h
      · exact h
      · rw [List.drop_eq_nil_of_le h] at hd; cases hd
    rw [List.drop_eq_getElem_cons hlt] at hd
    injection hd with h1 h2
    have hg : ps.getD k fp0 = q := by simp [List.getD, hlt, h1]
    rw [List.length_cons, List.range_succ_eq_map, List.flatMap_cons, List.flatMap_map]
    have hi := ih (k + 1) (by omega) h2
    have e : ((List.range r.length).flatMap fun j => partW (k + (j + 1)) (ps.getD (k + (j + 1)) fp0)) = tailW r := by
      rw [← hi]; congr 1; funext j; rw [show k + (j + 1) = k + 1 + j by omega]
    show partW (k + 0) (ps.getD (k + 0) fp0) ++ ((List.range r.length).flatMap fun j => partW (k + (j + 1)) (ps.getD (k + (j + 1)) fp0)) = _
    rw [e, Nat.add_zero, hg]
    have hs : signW k q = signB q := by unfold signW signB; rw [if_neg (by omega)]
    simp [tailW, partW, bodyW, hs]
/-- The parts of a sum, as the reader gives them. -/
def fPPs : List FPart → List PPart
  | [] => []
  | p :: r => fPP false p :: r.map fun q => fPP q.minus q
theorem sumW_eq (p : FPart) (r : List FPart) : sumW (p :: r) = bodyW p ++ tailW r := by
  unfold sumW sumWN
  rw [List.length_cons, List.range_succ_eq_map, List.flatMap_cons, List.flatMap_map]
  have h := tail_eq (p :: r) r 1 (by decide) rfl
  have e : ((List.range r.length).flatMap fun j => partW (j + 1) ((p :: r).getD (j + 1) fp0)) = tailW r := by
    rw [← h]; congr 1; funext j; rw [Nat.add_comm]
  show partW 0 p ++ ((List.range r.length).flatMap fun j => partW (j + 1) ((p :: r).getD (j + 1) fp0)) = _
  rw [e]
  simp [partW, bodyW, signW]
theorem sum_read {low : List Nat} (hl4 : ∀ d ∈ low, d < 4) {ps : List FPart} (h : PartsOk low ps) : SumR (fPPs ps) (sumW ps) := by
  cases ps with
  | nil => exact absurd h.1 (by simp)
  | cons p r =>
    intro P a hA hl
    rw [sumW_eq] at hA hl ⊢
    unfold pSum
    have h1 := h.2.1
    rw [tail_read hl4 r p P.length a false [] h.2.2 hA (by
      have : r.length ≤ (tailW r).length := by
        clear h hA hl h1
        induction r with
        | nil => simp
        | cons q r ih => simp only [tailW, List.flatMap_cons, List.length_append, List.length_cons] at ih ⊢; have : (signB q).length = 1 := by unfold signB; split <;> rfl
                         omega
      rw [List.length_append] at hl
      omega)]
    rfl
end Go.Proofs.YtnbpdffdnphbeaaGreatDoor
