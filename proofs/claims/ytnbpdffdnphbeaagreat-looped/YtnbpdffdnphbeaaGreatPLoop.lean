/- Plain: a ring of conclusions, a row of rules each put over the next: the words, the lines that are read of them. -/
import Derived.Test.YtnbpdffdnphbeaaGreatPWords
namespace Go.Proofs.YtnbpdffdnphbeaaGreat

/-- A name of two letters. -/
def nmB (f : UInt8) (i : Nat) : Bs := [f, UInt8.ofNat (97 + i)]
theorem nm_kind (i : Nat) (h : i < 8) : pkind (nmB 99 i) = 2 ∧ pkind (nmB 114 i) = 2 :=
  (show ∀ i, i < 8 → pkind (nmB 99 i) = 2 ∧ pkind (nmB 114 i) = 2 by decide +kernel) i h
theorem nm_so (i : Nat) (h : i < 8) : so (UInt8.ofNat (97 + i)) = 1 :=
  (show ∀ i, i < 8 → so (UInt8.ofNat (97 + i)) = 1 by decide +kernel) i h
theorem nm_wd (f : UInt8) (hf : so f = 1) (i : Nat) (h : i < 8) : Wd (nmB f i) :=
  wd_run 1 (.inl rfl) (by simp [nmB]) (fun x hx => by
    unfold nmB at hx
    rcases List.mem_cons.1 hx with rfl | hx
    · exact hf
    · rw [List.mem_singleton.1 hx]; exact nm_so i h)

/-- A sum of one name, of one number; of a number, a product less. -/
theorem sumR_name {w : Bs} (h : pkind w = 2) : SumR [⟨false, false, 0, w⟩] [w] := by
  intro P a hA hl
  obtain ⟨k, hk⟩ : ∃ k, P.length = k + 1 := ⟨P.length - 1, by simp at hl; omega⟩
  unfold pSum; rw [hk, sum_end (part_name false hA.1 h) hA.2.1 (fun _ => by decide)]; rfl
theorem sumR_num {w : Bs} (h : pkind w = 3) : SumR [⟨false, false, pval w, []⟩] [w] := by
  intro P a hA hl
  obtain ⟨k, hk⟩ : ∃ k, P.length = k + 1 := ⟨P.length - 1, by simp at hl; omega⟩
  unfold pSum; rw [hk, sum_end (part_num false hA.1 h hA.2.1 (fun _ => by decide)) hA.2.1 (fun _ => by decide)]; rfl
theorem sumR_less {u v w : Bs} (hu : pkind u = 3) (hv : pkind v = 3) (h : pkind w = 2) : SumR [⟨false, false, pval u, []⟩, ⟨true, true, pval v, w⟩] [u, [45], v, [42], w] := by
  intro P a hA hl
  obtain ⟨k, hk⟩ : ∃ k, P.length = k + 1 + 1 := ⟨P.length - 2, by simp at hl; omega⟩
  obtain ⟨h0, h1, h2, h3, h4, h5, _⟩ := hA
  unfold pSum; rw [hk, sum_minus (part_num false h0 hu h1 (fun _ => by decide)) h1, sum_end (part_star true h2 hv h3 h4 h) h5 (fun _ => by decide)]; rfl
theorem guardR_alw : GuardR 0 [⟨4, 0, 0, [], [], [], 0⟩] 1 0 [kAlwW] := by
  intro P a hA hl
  obtain ⟨h0, h1, _⟩ := hA
  obtain ⟨k, hk⟩ : ∃ k, P.length = k + 1 := ⟨P.length - 1, by simp at hl; omega⟩
  have hP : 0 < P.length := by omega
  have hf := factP_test (n := k) [] 0 0 0 h0 (fun _ => by decide) (test_alw h0)
  unfold pGuard pAlt
  rw [← hk] at hf
  rw [alt_one hP (terms_one hP hf h1 (fun _ => by decide)) h1 (fun _ => by decide)]; rfl
theorem guardR_has {w : Bs} (h : pkind w = 2) : GuardR 0 [⟨5, 0, 0, w, [], [], 0⟩] 1 0 [kHasW, w] := by
  intro P a hA hl
  obtain ⟨h0, h1, h2, _⟩ := hA
  obtain ⟨k, hk⟩ : ∃ k, P.length = k + 1 := ⟨P.length - 1, by simp at hl; omega⟩
  have hP : 0 < P.length := by omega
  have hf := factP_test (n := k) [] 0 0 0 h0 (fun _ => by decide) (test_has h0 h1 h)
  unfold pGuard pAlt
  rw [← hk] at hf
  rw [alt_one hP (terms_one hP hf h2 (fun _ => by decide)) h2 (fun _ => by decide)]; rfl
theorem guardR_or {w : Bs} (h : pkind w = 2) : GuardR 3 [⟨5, 0, 0, w, [], [], 0⟩, ⟨3, 0, 0, [], [], [], 0⟩, ⟨4, 0, 0, [], [], [], 0⟩, ⟨1, 1, 2, [], [], [], 0⟩] 2 1 [kNot, kHasW, w, kOr, kAlwW] := by
  intro P a hA hl
  obtain ⟨h0, h1, h2, h3, h4, h5, _⟩ := hA
  obtain ⟨k, hk⟩ : ∃ k, P.length = k + 1 + 1 := ⟨P.length - 2, by simp at hl; omega⟩
  have hP : 0 < P.length := by omega
  have hf := factP_not [] 0 0 0 h0 (factP_test (n := k) [] 0 0 (0 + 1) h1 (fun _ => by decide) (test_has h1 h2 h))
  rw [← hk] at hf
  have ht : termsW P (pFact P P.length) ⟨(a, false), [], 0, 0⟩ 0 = (1, ⟨(a + 1 + 1 + 1, false), [⟨5, 0, 0, w, [], [], 0⟩, ⟨3, 0, 0, [], [], [], 0⟩], 1, 1⟩) := terms_one hP hf h3 (fun _ => by decide)
  have hf2 := factP_test (n := k + 1) [⟨5, 0, 0, w, [], [], 0⟩, ⟨3, 0, 0, [], [], [], 0⟩] 1 1 0 h4 (fun _ => by decide) (test_alw h4)
  rw [← hk] at hf2
  have ht2 : termsW P (pFact P P.length) ⟨(a + 1 + 1 + 1 + 1, false), [⟨5, 0, 0, w, [], [], 0⟩, ⟨3, 0, 0, [], [], [], 0⟩], 1, 1⟩ 0 = (2, ⟨(a + 1 + 1 + 1 + 1 + 1, false), [⟨5, 0, 0, w, [], [], 0⟩, ⟨3, 0, 0, [], [], [], 0⟩, ⟨4, 0, 0, [], [], [], 0⟩], 2, 1⟩) := terms_one hP hf2 h5 (fun _ => by decide)
  have key : ∀ item : GS → Int × GS, item ⟨(a + 1 + 1 + 1 + 1, false), [⟨5, 0, 0, w, [], [], 0⟩, ⟨3, 0, 0, [], [], [], 0⟩], 1, 1⟩ = (2, ⟨(a + 1 + 1 + 1 + 1 + 1, false), [⟨5, 0, 0, w, [], [], 0⟩, ⟨3, 0, 0, [], [], [], 0⟩, ⟨4, 0, 0, [], [], [], 0⟩], 2, 1⟩) → loopB P item kOr 1 (k + 1 + 1) 1 ⟨(a + 1 + 1 + 1, false), [⟨5, 0, 0, w, [], [], 0⟩, ⟨3, 0, 0, [], [], [], 0⟩], 1, 1⟩ = (3, ⟨(a + 1 + 1 + 1 + 1 + 1, false), [⟨5, 0, 0, w, [], [], 0⟩, ⟨3, 0, 0, [], [], [], 0⟩, ⟨4, 0, 0, [], [], [], 0⟩, ⟨1, 1, 2, [], [], [], 0⟩], 2, 1⟩) :=
    fun item hi => (loop_on h3 (by decide) hi).trans (loop_end h5 (fun _ => by decide))
  unfold pGuard pAlt altW
  rw [ht]
  exact (congrArg (fun m => loopB P (fun q => termsW P (pFact P P.length) q 0) kOr 1 m 1 ⟨(a + 1 + 1 + 1, false), [⟨5, 0, 0, w, [], [], 0⟩, ⟨3, 0, 0, [], [], [], 0⟩], 1, 1⟩) hk).trans (key _ ht2)

/- A ring of n conclusions, line by line: its words, what is read of them. -/
def rgTail (next : Bs) (kd : Nat) : List Bs :=
  if kd = 3 then [[49], kWhen, kAlwW, kEnd] else if kd = 0 then [next, kWhen, kAlwW, kEnd] else if kd = 1 then [[50], kWhen, kHasW, next, kEnd]
  else [[51], [45], [52], [42], next, kWhen, kNot, kHasW, next, kOr, kAlwW, kEnd]
/-- How the i-th one names the next: 3: not at all. -/
def rgKd (n : Nat) (h : Nat → Nat) (shut : Bool) (i : Nat) : Nat := if i = n - 1 ∧ shut = false then 3 else h i
def rgW (n : Nat) (h : Nat → Nat) (shut : Bool) (i : Nat) : List Bs := kRule :: nmB 114 i :: [58] :: nmB 99 i :: [61] :: rgTail (nmB 99 ((i + 1) % n)) (rgKd n h shut i)
def rgX (r c next : Bs) (kd : Nat) : PLine :=
  if kd = 3 then ⟨3, r, 0, 0, c, [⟨false, false, 1, []⟩], [⟨4, 0, 0, [], [], [], 0⟩], 0, 1, 0, []⟩
  else if kd = 0 then ⟨3, r, 0, 0, c, [⟨false, false, 0, next⟩], [⟨4, 0, 0, [], [], [], 0⟩], 0, 1, 0, []⟩
  else if kd = 1 then ⟨3, r, 0, 0, c, [⟨false, false, 2, []⟩], [⟨5, 0, 0, next, [], [], 0⟩], 0, 1, 0, []⟩
  else ⟨3, r, 0, 0, c, [⟨false, false, 3, []⟩, ⟨true, true, 4, next⟩], [⟨5, 0, 0, next, [], [], 0⟩, ⟨3, 0, 0, [], [], [], 0⟩, ⟨4, 0, 0, [], [], [], 0⟩, ⟨1, 1, 2, [], [], [], 0⟩], 3, 2, 1, []⟩
def rgL (n : Nat) (h : Nat → Nat) (shut : Bool) (i : Nat) : PLine := rgX (nmB 114 i) (nmB 99 i) (nmB 99 ((i + 1) % n)) (rgKd n h shut i)

theorem rgX_reads {r c next : Bs} (hr : pkind r = 2) (hc : pkind c = 2) (hn : pkind next = 2) (kd : Nat) : Reads (rgX r c next kd) (kRule :: r :: [58] :: c :: [61] :: rgTail next kd) := by
  unfold rgX rgTail
  split
  · exact reads_rule hr hc (S := [[49]]) (sumR_num (w := [49]) (by decide)) guardR_alw
  · split
    · exact reads_rule hr hc (S := [next]) (sumR_name hn) guardR_alw
    · split
      · exact reads_rule hr hc (S := [[50]]) (sumR_num (w := [50]) (by decide)) (guardR_has hn)
      · exact reads_rule hr hc (S := [[51], [45], [52], [42], next]) (sumR_less (u := [51]) (v := [52]) (by decide) (by decide) hn) (guardR_or hn)
theorem rgX_wd {r c next : Bs} (hr : Wd r) (hc : Wd c) (hn : Wd next) (kd : Nat) : ∀ w ∈ kRule :: r :: [58] :: c :: [61] :: rgTail next kd, Wd w := by
  have wl : ∀ w : Bs, w ≠ [] → (w.all fun x => decide (so x = 1)) = true → Wd w := fun w h0 h => wd_run 1 (.inl rfl) h0 (by simpa using h)
  have wd : ∀ w : Bs, w ≠ [] → (w.all fun x => decide (so x = 2)) = true → Wd w := fun w h0 h => wd_run 2 (.inr rfl) h0 (by simpa using h)
  have k1 : Wd kRule := wl _ (by decide) (by decide)
  have k2 : Wd kWhen := wl _ (by decide) (by decide)
  have k3 : Wd kAlwW := wl _ (by decide) (by decide)
  have k4 : Wd kHasW := wl _ (by decide) (by decide)
  have k5 : Wd kNot := wl _ (by decide) (by decide)
  have k6 : Wd kOr := wl _ (by decide) (by decide)
  have m1 : Wd [58] := wd_mark (by decide) (by decide) (by decide) (by decide)
  have m2 : Wd [61] := wd_mark (by decide) (by decide) (by decide) (by decide)
  have m3 : Wd kEnd := wd_mark (by decide) (by decide) (by decide) (by decide)
  have m4 : Wd [45] := wd_mark (by decide) (by decide) (by decide) (by decide)
  have m5 : Wd [42] := wd_mark (by decide) (by decide) (by decide) (by decide)
  have n1 : Wd [49] := wd _ (by decide) (by decide)
  have n2 : Wd [50] := wd _ (by decide) (by decide)
  have n3 : Wd [51] := wd _ (by decide) (by decide)
  have n4 : Wd [52] := wd _ (by decide) (by decide)
  unfold rgTail
  split
  · simp [*]
  · split
    · simp [*]
    · split <;> simp [*]
theorem rg_reads {n i : Nat} (hn : n ≤ 8) (h : Nat → Nat) (shut : Bool) (hi : i < n) : Reads (rgL n h shut i) (rgW n h shut i) := by
  have : (i + 1) % n < n := Nat.mod_lt _ (by omega)
  exact rgX_reads (nm_kind i (by omega)).2 (nm_kind i (by omega)).1 (nm_kind _ (by omega)).1 _
theorem rg_wd {n i : Nat} (hn : n ≤ 8) (h : Nat → Nat) (shut : Bool) (hi : i < n) : ∀ w ∈ rgW n h shut i, Wd w := by
  have : (i + 1) % n < n := Nat.mod_lt _ (by omega)
  exact rgX_wd (nm_wd _ (by decide) i (by omega)) (nm_wd _ (by decide) i (by omega)) (nm_wd _ (by decide) _ (by omega)) _

/- n rules of one conclusion, each put over the next. -/
def ovW (n j : Nat) : List Bs := if j % 2 = 0 then kRule :: nmB 114 (j / 2) :: [58] :: [99] :: [61] :: rgTail [] 3 else [kOver, nmB 114 (j / 2), nmB 114 ((j / 2 + 1) % n), kEnd]
def ovN (n j : Nat) : PLine := if j % 2 = 0 then rgX (nmB 114 (j / 2)) [99] [] 3 else ⟨4, nmB 114 (j / 2), 0, 0, [], [], [], 0, 0, 0, nmB 114 ((j / 2 + 1) % n)⟩
theorem ov_reads {n j : Nat} (hn : n ≤ 8) (hj : j < 2 * n) : Reads (ovN n j) (ovW n j) := by
  have : (j / 2 + 1) % n < n := Nat.mod_lt _ (by omega)
  unfold ovN ovW
  split
  · exact reads_rule (nm_kind _ (by omega)).2 (by decide) (S := [[49]]) (sumR_num (w := [49]) (by decide)) guardR_alw
  · exact reads_over (nm_kind _ (by omega)).2 (nm_kind _ (by omega)).2
theorem ov_wd {n j : Nat} (hn : n ≤ 8) (hj : j < 2 * n) : ∀ w ∈ ovW n j, Wd w := by
  have : (j / 2 + 1) % n < n := Nat.mod_lt _ (by omega)
  have hc : Wd [99] := wd_run 1 (.inl rfl) (by decide) (by simp; decide)
  have k1 : Wd kOver := wd_run 1 (.inl rfl) (by decide) (by simp [kOver]; decide)
  have k2 : Wd kEnd := wd_mark (by decide) (by decide) (by decide) (by decide)
  have k3 := nm_wd 114 (by decide) (j / 2) (by omega)
  have k4 := nm_wd 114 (by decide) ((j / 2 + 1) % n) (by omega)
  unfold ovW
  split
  · have := rgX_wd k3 hc hc 3
    unfold rgTail at this ⊢
    exact this
  · simp [*]

theorem allR_map {f : Nat → PLine} {g : Nat → List Bs} : ∀ is : List Nat, (∀ i ∈ is, Reads (f i) (g i)) → AllR (is.map f) (is.map g)
  | [], _ => trivial
  | i :: is, h => ⟨h i (by simp), allR_map is (fun j hj => h j (by simp [hj]))⟩
/-- The places of turned lines. -/
def turnI (m k : Nat) : List Nat := (List.range m).map fun i => (i + k) % m
theorem turnI_lt {m k i : Nat} (h : i ∈ turnI m k) : i < m := by
  unfold turnI at h
  obtain ⟨j, hj, rfl⟩ := List.mem_map.1 h
  exact Nat.mod_lt _ (by have := List.mem_range.1 hj; omega)
theorem rg_read {n : Nat} (hn : n ≤ 8) (h : Nat → Nat) (shut : Bool) (k : Nat) : (readB (wrB ((turnI n k).map (rgW n h shut)))).1 = (turnI n k).map (rgL n h shut) ∧ (readB (wrB ((turnI n k).map (rgW n h shut)))).2.2 = false := by
  refine read_wr (allR_map _ fun i hi => rg_reads hn h shut (turnI_lt hi)) fun ws hws => ?_
  obtain ⟨i, hi, rfl⟩ := List.mem_map.1 hws
  exact rg_wd hn h shut (turnI_lt hi)
theorem ov_read {n m : Nat} (hn : n ≤ 8) (hm : m ≤ 2 * n) (k : Nat) : (readB (wrB ((turnI m k).map (ovW n)))).1 = (turnI m k).map (ovN n) ∧ (readB (wrB ((turnI m k).map (ovW n)))).2.2 = false := by
  refine read_wr (allR_map _ fun i hi => ov_reads hn (by have := turnI_lt hi; omega)) fun ws hws => ?_
  obtain ⟨i, hi, rfl⟩ := List.mem_map.1 hws
  exact ov_wd hn (by have := turnI_lt hi; omega)
end Go.Proofs.YtnbpdffdnphbeaaGreat
