/- Plain: a frame's lines have no fault. -/
import Derived.Test.YtnbpdffdnphbeaaGreatDoorPGrd2
import Derived.Test.YtnbpdffdnphbeaaGreatDoorPStrw
import Derived.Test.YtnbpdffdnphbeaaGreatDoorCkErr2
import Derived.Test.YtnbpdffdnphbeaaGreatDoorPRing
import Derived.Test.YtnbpdffdnphbeaaGreatDoorFStrew
import Derived.Test.YtnbpdffdnphbeaaGreatDoorStCheck
namespace Go.Proofs.YtnbpdffdnphbeaaGreatDoor

theorem manyF_none {ls : List PLine} (n : Nat) : ∀ a, (∀ i, a ≤ i → i < a + n → manyP ls i = false) → manyG ls n a = none := by
  induction n with
  | zero => intro a _; rfl
  | succ n ih => intro a h; rw [manyG, h a (by omega) (by omega), if_neg (by decide)]; exact ih (a + 1) fun i h1 h2 => h i (by omega) (by omega)
theorem errF_none {ls : List PLine} (n : Nat) : ∀ a, (∀ i, a ≤ i → i < a + n → errP ls i = 0) → errG ls n a = none := by
  induction n with
  | zero => intro a _; rfl
  | succ n ih => intro a h; rw [errG, h a (by omega) (by omega), if_pos rfl]; exact ih (a + 1) fun i h1 h2 => h i (by omega) (by omega)
theorem take_at {ls : List PLine} {i : Nat} {x : PLine} (h : x ∈ ls.take i) : ∃ j, j < i ∧ j < ls.length ∧ x = lA ls j := by
  obtain ⟨j, hj, e⟩ := List.mem_iff_getElem.1 h
  rw [List.length_take] at hj
  refine ⟨j, by omega, by omega, ?_⟩
  rw [← e, List.getElem_take]
  unfold lA
  simp [List.getD, show j < ls.length by omega]
theorem has_no {ls : List PLine} {i : Nat} {k : Int} {nm : Bs} (h : ∀ j, j < i → j < ls.length → (lA ls j).kind = k → (lA ls j).name ≠ nm) : hasL (ls.take i) k nm = false := by
  cases hh : hasL (ls.take i) k nm
  · rfl
  · obtain ⟨x, hx, hp⟩ := List.any_eq_true.1 hh
    obtain ⟨j, h1, h2, rfl⟩ := take_at hx
    unfold isL at hp
    simp only [Bool.and_eq_true, decide_eq_true_eq] at hp
    exact absurd hp.2 (h j h1 h2 hp.1)
theorem has_yes {ls : List PLine} {k : Int} {nm : Bs} {x : PLine} (hx : x ∈ ls) (h1 : x.kind = k) (h2 : x.name = nm) : hasL ls k nm = true :=
  List.any_eq_true.2 ⟨x, hx, by unfold isL; simp [h1, h2]⟩
theorem cntF_app (k : Int) (a b : List PLine) : cntK k (a ++ b) = cntK k a + cntK k b := by
  induction a with
  | nil => simp [cntK]
  | cons x r ih => rw [List.cons_append, cntK, cntK, ih]; omega
theorem cntF_le (k : Int) (a : List PLine) : cntK k a ≤ a.length := by
  induction a with
  | nil => simp [cntK]
  | cons x r ih => rw [cntK, List.length_cons]; split <;> omega
theorem cntK_no {k : Int} {a : List PLine} (h : ∀ x ∈ a, x.kind ≠ k) : cntK k a = 0 := by
  induction a with
  | nil => rfl
  | cons x r ih => rw [cntK, if_neg (h x (by simp)), ih fun y hy => h y (List.mem_cons_of_mem _ hy)]
theorem cnt_lt {ls : List PLine} {i : Nat} (h : i < ls.length) : cntK (lA ls i).kind (ls.take i) < cntK (lA ls i).kind ls := by
  have e : ls = ls.take i ++ lA ls i :: ls.drop (i + 1) := by
    conv => lhs; rw [← List.take_append_drop i ls, List.drop_eq_getElem_cons h]
    unfold lA
    simp [List.getD, h]
  have h1 : cntK (lA ls i).kind ls = cntK (lA ls i).kind (ls.take i) + cntK (lA ls i).kind (lA ls i :: ls.drop (i + 1)) := by
    generalize (lA ls i).kind = k
    have h2 := congrArg (cntK k) e
    rw [cntF_app] at h2
    exact h2
  rw [h1, cntK, if_pos rfl]; omega

theorem inX_name (M : FMade) (i : Nat) : (inX M i).name = inpF i := by unfold inX; split <;> rfl
theorem inX_kind (M : FMade) (i : Nat) : (inX M i).kind = if i < 3 then 1 else 2 := by unfold inX; split <;> rfl
theorem inp_inj : ∀ i, i < 5 → ∀ j, j < 5 → inpF i = inpF j → i = j := by decide
theorem rn_inj : ∀ i, i < 8 → ∀ j, j < 8 → nmB 114 i = nmB 114 j → i = j := by decide
theorem inp_con : ∀ i, i < 5 → ∀ j, j < 4 → nmB 99 j ≠ inpF i := by decide
variable {M : FMade} {G : Nat → GR}
theorem frm_len (M : FMade) (G : Nat → GR) : (frmX M G).length = 5 + M.rules.length + (ovP M).length := by unfold frmX; simp only [List.length_append, List.length_map, List.length_range]
theorem frm_in {i : Nat} (h : i < 5) : lA (frmX M G) i = inX M i := by
  unfold lA frmX
  rw [List.getD_eq_getElem?_getD, List.append_assoc, List.getElem?_append_left (by simpa using h)]
  simp [h]
theorem frm_ru {j : Nat} (h : j < M.rules.length) : lA (frmX M G) (5 + j) = ruX (ruM M j) j (G j) := by
  unfold lA frmX
  rw [List.getD_eq_getElem?_getD, List.append_assoc, List.getElem?_append_right (by simp), List.getElem?_append_left (by simpa using h)]
  simp [h]
theorem frm_ov {i : Nat} (h : 5 + M.rules.length ≤ i) (h2 : i < (frmX M G).length) : ∃ p ∈ ovP M, lA (frmX M G) i = ovXF p := by
  have hl := frm_len M G
  have : lA (frmX M G) i ∈ (ovP M).map ovXF := by
    unfold lA frmX
    rw [List.getD_eq_getElem?_getD, List.getElem?_append_right (by simp; omega)]
    have h3 : i - (((List.range 5).map (inX M)) ++ (List.range M.rules.length).map (fun i => ruX (ruM M i) i (G i))).length < ((ovP M).map ovXF).length := by simp; omega
    rw [List.getElem?_eq_getElem h3]
    exact List.getElem_mem h3
  obtain ⟨p, hp, e⟩ := List.mem_map.1 this
  exact ⟨p, hp, e.symm⟩
theorem frm_at {i : Nat} (h : i < (frmX M G).length) : (i < 5 ∧ lA (frmX M G) i = inX M i) ∨ (∃ j, j < M.rules.length ∧ i = 5 + j ∧ lA (frmX M G) i = ruX (ruM M j) j (G j)) ∨ (∃ p ∈ ovP M, lA (frmX M G) i = ovXF p) := by
  by_cases h5 : i < 5
  · exact .inl ⟨h5, frm_in h5⟩
  · by_cases hn : i < 5 + M.rules.length
    · refine .inr (.inl ⟨i - 5, by omega, by omega, ?_⟩)
      have := frm_ru (M := M) (G := G) (j := i - 5) (by omega)
      rwa [show 5 + (i - 5) = i by omega] at this
    · exact .inr (.inr (frm_ov (by omega) h))
theorem frm_mem {x : PLine} (h : x ∈ frmX M G) : (∃ i, i < 5 ∧ x = inX M i) ∨ (∃ j, j < M.rules.length ∧ x = ruX (ruM M j) j (G j)) ∨ (∃ p ∈ ovP M, x = ovXF p) := by
  unfold frmX at h
  rcases List.mem_append.1 h with h | h
  · rcases List.mem_append.1 h with h | h
    · obtain ⟨i, hi, rfl⟩ := List.mem_map.1 h
      exact .inl ⟨i, List.mem_range.1 hi, rfl⟩
    · obtain ⟨i, hi, rfl⟩ := List.mem_map.1 h
      exact .inr (.inl ⟨i, List.mem_range.1 hi, rfl⟩)
  · obtain ⟨p, hp, rfl⟩ := List.mem_map.1 h
    exact .inr (.inr ⟨p, hp, rfl⟩)
theorem mem_in {i : Nat} (h : i < 5) : inX M i ∈ frmX M G := by
  unfold frmX
  exact List.mem_append_left _ (List.mem_append_left _ (List.mem_map.2 ⟨i, List.mem_range.2 h, rfl⟩))
theorem mem_ru {j : Nat} (h : j < M.rules.length) : ruX (ruM M j) j (G j) ∈ frmX M G := by
  unfold frmX
  exact List.mem_append_left _ (List.mem_append_right _ (List.mem_map.2 ⟨j, List.mem_range.2 h, rfl⟩))
theorem in_kind3 (M : FMade) (i : Nat) : (inX M i).kind ≠ 3 ∧ (inX M i).kind ≠ 4 := by rw [inX_kind]; split <;> decide
theorem ru_head (h : MadeOk M) {j : Nat} (hj : j < M.rules.length) : (ruM M j).head < 4 := (h.rules _ (ruM_mem hj)).head
/-- The names of a frame's lines, as the check finds them. -/
theorem num_has {i : Nat} (h : i < 3) : hasL (frmX M G) 1 (inpF i) = true := has_yes (mem_in (G := G) (show i < 5 by omega)) (by rw [inX_kind, if_pos h]) (inX_name M i)
theorem flag_has {i : Nat} (h : 3 ≤ i) (h5 : i < 5) : hasL (frmX M G) 2 (inpF i) = true := has_yes (mem_in (G := G) h5) (by rw [inX_kind, if_neg (by omega)]) (inX_name M i)
theorem con_has (h : MadeOk M) {d : Nat} (hd : d ∈ M.heads) : isCon (frmX M G) (nmB 99 d) = true := by
  rw [h.heads] at hd
  have hd2 : d ∈ M.rules.map FRule.head := by
    have := (foldH_mem (M.rules.map FRule.head) [] (x := d)).1 hd
    rcases this with h1 | h1
    · cases h1
    · exact h1
  obtain ⟨r, hr, e⟩ := List.mem_map.1 hd2
  obtain ⟨j, hj, ej⟩ := List.mem_iff_getElem.1 hr
  have er : ruM M j = r := by unfold ruM; simp [List.getD, hj, ej]
  refine List.any_eq_true.2 ⟨_, mem_ru (G := G) hj, ?_⟩
  unfold isC ruX
  simp [er, e]
theorem low_in {d h : Nat} (hd : d ∈ lowOf M.heads h) : d ∈ M.heads ∧ d < h := by
  unfold lowOf at hd
  rw [List.mem_filter, List.mem_range] at hd
  exact ⟨of_decide_eq_true hd.2, hd.1⟩
theorem inp_e (h : MadeOk M) {i : Nat} (hi : i < 5) : inpE (frmX M G) i = 0 := by
  unfold inpE
  rw [frm_in hi, inX_name]
  have h1 : ∀ k, hasL ((frmX M G).take i) k (inpF i) = false := fun k => has_no fun j hj hjl _ e => by
    rw [frm_in (by omega), inX_name] at e
    have := inp_inj j (by omega) i hi e
    omega
  have h2 : isCon (frmX M G) (inpF i) = false := by
    cases hc : isCon (frmX M G) (inpF i)
    · rfl
    · obtain ⟨x, hx, hp⟩ := List.any_eq_true.1 hc
      unfold isC at hp
      simp only [Bool.and_eq_true, decide_eq_true_eq] at hp
      rcases frm_mem hx with ⟨k, hk, rfl⟩ | ⟨j, hj, rfl⟩ | ⟨p, hp', rfl⟩
      · exact absurd hp.1 (in_kind3 M k).1
      · exact absurd hp.2 (inp_con i hi _ (ru_head h hj))
      · exact absurd hp.1 (show ¬ (4 : Int) = 3 by decide)
  rw [h1, h1, h2]; rfl
theorem fPPs_mem {ps : List FPart} {x : PPart} (h : x ∈ fPPs ps) : ∃ p ∈ ps, ∃ m, x = fPP m p := by
  cases ps with
  | nil => cases h
  | cons p r =>
    rcases List.mem_cons.1 h with rfl | h
    · exact ⟨p, by simp, false, rfl⟩
    · obtain ⟨q, hq, rfl⟩ := List.mem_map.1 h
      exact ⟨q, List.mem_cons_of_mem _ hq, q.minus, rfl⟩
theorem fPPs_len (ps : List FPart) : (fPPs ps).length = ps.length := by cases ps <;> simp [fPPs]
/-- What a part names. -/
theorem fPP_name {low : List Nat} {p : FPart} (h : PartOk low p) (m : Bool) : (fPP m p).name = [] ∨ (∃ i, i < 3 ∧ (fPP m p).name = inpF i) ∨ ∃ d ∈ low, (fPP m p).name = nmB 99 d := by
  obtain ⟨mi, ti, n, nu, hd⟩ := p
  rcases h with ⟨h0, h1, h2, h3⟩ | ⟨h0, h1, h2⟩ | ⟨h0, h1, h2, h3⟩ | ⟨h1, h2, d, hd4, h3⟩
  · simp only at h0 h1 h2 h3
    subst h0 h2 h3
    exact .inl rfl
  · simp only at h0 h1 h2
    subst h0 h2
    exact .inr (.inl ⟨nu.toNat, by omega, by simp [fPP, h1.1]⟩)
  · simp only at h0 h1 h2 h3
    subst h0 h3
    exact .inr (.inl ⟨nu.toNat, by omega, by simp [fPP, h2.1]⟩)
  · simp only at h1 h2 h3
    subst h2 h3
    exact .inr (.inr ⟨d, hd4, by cases ti <;> simp [fPP]⟩)
theorem fPP_big {low : List Nat} {p : FPart} (h : PartOk low p) (m : Bool) : partBig (fPP m p) = false := by
  unfold partBig
  obtain ⟨mi, ti, n, nu, hd⟩ := p
  cases ti
  · have : (fPP m ⟨mi, false, n, nu, hd⟩).starred = false := by
      unfold fPP
      rw [if_neg (by simp)]
      split
      · rfl
      · split <;> rfl
    rw [this]; rfl
  · have h9 : n ≤ 9 := by
      rcases h with ⟨h0, -⟩ | ⟨h0, -⟩ | ⟨-, h1, -⟩ | ⟨h1, -⟩
      · cases h0
      · cases h0
      · exact h1.2
      · exact h1.2
    have : (fPP m ⟨mi, true, n, nu, hd⟩).num = n := by unfold fPP; rw [if_pos rfl]
    rw [this, decide_eq_false (by omega), Bool.and_false]
theorem part_ok (h : MadeOk M) {j : Nat} (hj : j < M.rules.length) : ∀ x ∈ fPPs (ruM M j).parts, partOk (frmX M G) x = true := fun x hx => by
  obtain ⟨p, hp, m, rfl⟩ := fPPs_mem hx
  have hr := h.rules _ (ruM_mem hj)
  unfold partOk sumOk
  rcases fPP_name (hr.parts.2.2 p hp) m with e | ⟨i, hi, e⟩ | ⟨d, hd, e⟩
  · simp [e]
  · rw [e, num_has hi]; simp
  · rw [e, con_has h (low_in hd).1]; simp
/-- What a node of a test names. -/
theorem tNd_cases {low : List Nat} {t : FTest} (h : TestOk low t) : tNd t = ⟨4, 0, 0, [], [], [], 0⟩ ∨ (∃ i, 3 ≤ i ∧ i < 5 ∧ tNd t = ⟨6, 0, 0, inpF i, [], [], 0⟩) ∨ (∃ d ∈ low, tNd t = ⟨5, 0, 0, nmB 99 d, [], [], 0⟩) ∨ (∃ i o, i < 3 ∧ (tNd t).kind = 7 ∧ (tNd t).name = inpF i ∧ (tNd t).other = o ∧ (o = [] ∨ ∃ i', i' < 3 ∧ o = inpF i')) := by
  rcases h with h | ⟨h, x1, x2⟩ | ⟨h, d, hd, hx⟩ | ⟨h, ⟨x1, x2⟩, ⟨y1, y2⟩, ⟨m1, m2⟩, n1, n2⟩
  · left; unfold tNd; rw [if_pos h]
  · right; left; exact ⟨t.x.toNat, by omega, by omega, by unfold tNd; rw [if_neg (by omega), if_pos h]⟩
  · right; right; left; exact ⟨d, hd, by unfold tNd; rw [if_neg (by omega), if_neg (by omega), if_pos h, hx]; rfl⟩
  · right; right; right
    rcases h with h | h
    · have e : tNd t = ⟨7, 0, 0, inpF t.x.toNat, mkF t.mark.toNat, [], t.n⟩ := by unfold tNd; rw [if_neg (by omega), if_neg (by omega), if_neg (by omega), if_pos h]
      rw [e]; exact ⟨t.x.toNat, [], by omega, rfl, rfl, rfl, .inl rfl⟩
    · have e : tNd t = ⟨7, 0, 0, inpF t.x.toNat, mkF t.mark.toNat, inpF t.y.toNat, 0⟩ := by unfold tNd; rw [if_neg (by omega), if_neg (by omega), if_neg (by omega), if_neg (by omega)]
      rw [e]; exact ⟨t.x.toNat, _, by omega, rfl, rfl, rfl, .inr ⟨t.y.toNat, by omega, rfl⟩⟩
theorem nodF_ok (h : MadeOk M) {hd : Nat} {x : PNode} (hx : NdOk (lowOf M.heads hd) x) : nodeOk (frmX M G) x = true := by
  unfold nodeOk
  rcases hx with hk | ⟨t, ht, rfl⟩
  · rw [if_neg (by omega), if_neg (by omega), if_neg (by omega)]
  · rcases tNd_cases ht with e | ⟨i, h1, h2, e⟩ | ⟨d, hd, e⟩ | ⟨i, o, hi, e1, e2, e3, ho⟩
    · rw [e]; rfl
    · rw [e]; exact flag_has h1 h2
    · rw [e]; exact con_has h (low_in hd).1
    · rw [e1, if_neg (by decide), if_neg (by decide), if_pos rfl, e2, e3, num_has hi]
      rcases ho with rfl | ⟨i', hi', rfl⟩
      · rfl
      · rw [num_has hi']; simp
theorem find_at {p : PLine → Bool} {ls : List PLine} : ∀ {i : Nat} (a : Nat), i < ls.length → p (lA ls i) = true → (∀ j, j < i → p (lA ls j) = false) → findG p ls a = a + i := by
  induction ls with
  | nil => intro i a h; simp at h
  | cons x r ih =>
    intro i a h h1 h2
    rw [findG]
    cases i with
    | zero =>
      have : p x = true := h1
      rw [if_pos this]; rfl
    | succ i =>
      have h0 : p x = false := h2 0 (by omega)
      rw [if_neg (by rw [h0]; decide), ih (a + 1) (by simpa using h) h1 (fun j hj => h2 (j + 1) (by omega))]
      omega
theorem find_ru (h : MadeOk M) {j : Nat} (hj : j < M.rules.length) : findR (frmX M G) (nmB 114 j) = 5 + j := by
  have h8 := h.few
  unfold findR
  rw [find_at (i := 5 + j) 0 (by rw [frm_len]; omega) (by rw [frm_ru hj]; unfold isL ruX; simp) (fun k hk => ?_)]
  · omega
  · unfold isL
    rcases frm_at (M := M) (G := G) (i := k) (by rw [frm_len]; omega) with ⟨h1, e⟩ | ⟨j', h1, h2, e⟩ | ⟨p, hp, e⟩
    · rw [e, decide_eq_false (in_kind3 M k).1]; rfl
    · rw [e]
      have : nmB 114 j' ≠ nmB 114 j := fun e' => by have := rn_inj j' (by omega) j (by omega) e'; omega
      unfold ruX
      simp [this]
    · rw [e]; rfl
theorem headF_at {i : Nat} (hi : i < M.rules.length) : (M.rules.map FRule.head).getD i 0 = (ruM M i).head := by
  unfold ruM
  simp [List.getD, hi]
theorem err_ok (h : MadeOk M) (hG : ∀ i, i < M.rules.length → GrOk (lowOf M.heads (ruM M i).head) (ruM M i) (G i)) {i : Nat} (hi : i < (frmX M G).length) : errP (frmX M G) i = 0 := by
  have h8 := h.few
  unfold errP
  rcases frm_at hi with ⟨h5, e⟩ | ⟨j, hj, rfl, e⟩ | ⟨p, hp, e⟩
  · have hk := inX_kind M i
    by_cases h3 : i < 3
    · rw [if_pos h3] at hk
      rw [e, hk, if_pos rfl]
      unfold numE
      rw [inp_e h h5, if_pos rfl, e]
      have hn := h.nums i h3
      have e1 : (inX M i).high = M.hi i := by unfold inX; rw [if_pos h3]
      have e2 : (inX M i).low = M.lo i := by unfold inX; rw [if_pos h3]
      rw [e1, e2, if_neg (by omega)]
    · rw [if_neg h3] at hk
      rw [e, hk, if_neg (by decide), if_pos rfl]
      exact inp_e h h5
  · rw [e]
    show ruleE (frmX M G) (5 + j) = 0
    unfold ruleE
    rw [e]
    have h1 : hasL ((frmX M G).take (5 + j)) 3 (ruX (ruM M j) j (G j)).name = false := has_no fun k hk hkl hk3 e' => by
      rcases frm_at hkl with ⟨_, q⟩ | ⟨j', q1, q2, q⟩ | ⟨p, hp, q⟩
      · rw [q] at hk3; exact absurd hk3 (in_kind3 M k).1
      · rw [q] at e'
        have : j' = j := rn_inj j' (by omega) j (by omega) e'
        omega
      · rw [q] at hk3; exact absurd hk3 (show ¬ (4 : Int) = 3 by decide)
    have h2 : ((ruX (ruM M j) j (G j)).sum.any fun x => !partOk (frmX M G) x) = false := by
      rw [List.any_eq_false]
      intro x hx
      rw [part_ok h hj x hx]; decide
    have h3 : ((ruX (ruM M j) j (G j)).nd.any fun x => !nodeOk (frmX M G) x) = false := by
      rw [List.any_eq_false]
      intro x hx
      rw [nodF_ok h ((hG j hj).nds x hx)]; decide
    rw [h1, h2, h3]; rfl
  · obtain ⟨p1, p2, p3⟩ := ovP_lt h hp
    rw [e]
    show overE (frmX M G) (ovXF p) = 0
    unfold overE
    have q1 : findR (frmX M G) (ovXF p).name = 5 + p.1 := find_ru h (by omega)
    have q2 : findR (frmX M G) (ovXF p).lower = 5 + p.2 := find_ru h p2
    have hl := frm_len M G
    rw [q1, q2, if_neg (by omega), frm_ru (by omega), frm_ru p2]
    have hne : (ovXF p).name ≠ (ovXF p).lower := fun e' => by have := rn_inj p.1 (by omega) p.2 (by omega) e'; omega
    have hc : (ruX (ruM M p.1) p.1 (G p.1)).conc = (ruX (ruM M p.2) p.2 (G p.2)).conc := by
      have := (h.over p.1 p.2 p3).2.2
      rw [headF_at (by omega), headF_at p2] at this
      show nmB 99 _ = nmB 99 _
      rw [this]
    rw [if_neg (fun hh => by rcases hh with hh | hh; exact hne hh; exact hh hc)]
theorem ovP_few (h : MadeOk M) : (ovP M).length ≤ 28 := by
  have := ov_few h
  rw [ov_lines, List.length_map] at this
  exact this
theorem cnt_frm (h : MadeOk M) (k : Int) (hk : k = 1 ∨ k = 2 ∨ k = 3 ∨ k = 4) : (cntK k (frmX M G) : Int) ≤ limP k := by
  have h8 := h.few
  have hov := ovP_few h
  unfold frmX
  rw [cntF_app, cntF_app]
  have a1 := cntF_le k ((List.range M.rules.length).map fun i => ruX (ruM M i) i (G i))
  have a2 := cntF_le k ((ovP M).map ovXF)
  rw [List.length_map, List.length_range] at a1
  rw [List.length_map] at a2
  have b1 : k ≠ 3 → cntK k ((List.range M.rules.length).map fun i => ruX (ruM M i) i (G i)) = 0 := fun hk => cntK_no fun x hx e => by
    obtain ⟨i, _, rfl⟩ := List.mem_map.1 hx
    exact hk e.symm
  have b2 : k ≠ 4 → cntK k ((ovP M).map ovXF) = 0 := fun hk => cntK_no fun x hx e => by
    obtain ⟨i, _, rfl⟩ := List.mem_map.1 hx
    exact hk e.symm
  have c1 : cntK 1 ((List.range 5).map (inX M)) = 3 := by rfl
  have c2 : cntK 2 ((List.range 5).map (inX M)) = 2 := by rfl
  have c3 : ∀ k : Int, k = 3 ∨ k = 4 → cntK k ((List.range 5).map (inX M)) = 0 := fun k hk => cntK_no fun x hx e => by
    obtain ⟨i, _, rfl⟩ := List.mem_map.1 hx
    rcases hk with rfl | rfl
    · exact (in_kind3 M i).1 e
    · exact (in_kind3 M i).2 e
  rcases hk with rfl | rfl | rfl | rfl
  · rw [b1 (by decide), b2 (by decide), c1]; decide
  · rw [b1 (by decide), b2 (by decide), c2]; decide
  · rw [b2 (by decide), c3 3 (.inl rfl)]
    show _ ≤ (8 : Int)
    omega
  · rw [b1 (by decide), c3 4 (.inr rfl)]
    show _ ≤ (28 : Int)
    omega
theorem many_ok (h : MadeOk M) (hG : ∀ i, i < M.rules.length → GrOk (lowOf M.heads (ruM M i).head) (ruM M i) (G i)) {i : Nat} (hi : i < (frmX M G).length) : manyP (frmX M G) i = false := by
  unfold manyP
  have h1 := cnt_lt hi
  have hk : (lA (frmX M G) i).kind = 1 ∨ (lA (frmX M G) i).kind = 2 ∨ (lA (frmX M G) i).kind = 3 ∨ (lA (frmX M G) i).kind = 4 := by
    rcases frm_at hi with ⟨h5, e⟩ | ⟨j, hj, rfl, e⟩ | ⟨p, hp, e⟩
    · rw [e, inX_kind]; split
      · exact .inl rfl
      · exact .inr (.inl rfl)
    · rw [e]; exact .inr (.inr (.inl rfl))
    · rw [e]; exact .inr (.inr (.inr rfl))
  have h2 := cnt_frm (G := G) h _ hk
  rw [decide_eq_false (by omega), Bool.false_or]
  rcases frm_at hi with ⟨h5, e⟩ | ⟨j, hj, rfl, e⟩ | ⟨p, hp, e⟩
  · rw [e, decide_eq_false (in_kind3 M i).1]; rfl
  · rw [e]
    have hg := hG j hj
    have hr := h.rules _ (ruM_mem hj)
    have t6 := hr.tests.2.1
    have p4 := hr.parts.2.1
    have ht := hg.few
    have hd := hg.dep
    unfold manyX sumBig
    have e1 : (ruX (ruM M j) j (G j)).tests = (G j).t := rfl
    have e2 : (ruX (ruM M j) j (G j)).dep = (G j).p := rfl
    have e3 : (ruX (ruM M j) j (G j)).sum = fPPs (ruM M j).parts := rfl
    have e4 : (fPPs (ruM M j).parts).any partBig = false := by
      rw [List.any_eq_false]
      intro x hx
      obtain ⟨p, hp, m, rfl⟩ := fPPs_mem hx
      rw [fPP_big (hr.parts.2.2 p hp) m]; decide
    rw [e1, e2, e3, e4, fPPs_len, decide_eq_false (show ¬ 6 < (G j).t by omega), decide_eq_false (show ¬ 4 < (G j).p by omega), decide_eq_false (show ¬ 4 < (ruM M j).parts.length by omega)]
    simp
  · rw [e]; rfl

/- No rings. -/
def valF2 (nm : Bs) : Nat := if nm.getD 0 0 = 99 then (nm.getD 1 0).toNat else 0
theorem findI_get (nm : Bs) (l : List Bs) : ∀ (i a : Nat), findI nm l i = (a : Int) → i ≤ a ∧ l.getD (a - i) [] = nm := by
  induction l with
  | nil => intro i a h; rw [findI] at h; omega
  | cons x r ih =>
    intro i a h
    rw [findI] at h
    by_cases hx : x = nm
    · rw [if_pos hx] at h
      have : i = a := by omega
      subst this
      exact ⟨Nat.le_refl _, by rw [Nat.sub_self]; exact hx⟩
    · rw [if_neg hx] at h
      obtain ⟨h1, h2⟩ := ih (i + 1) a h
      refine ⟨by omega, ?_⟩
      rw [show a - i = (a - (i + 1)) + 1 by omega]
      exact h2
theorem findN_get {names : List Bs} {nm : Bs} {a : Nat} (h : findN names nm = (a : Int)) : names.getD a [] = nm := by
  have := (findI_get nm names 0 a h).2
  rwa [Nat.sub_zero] at this
theorem val_con : ∀ d, d < 4 → valF2 (nmB 99 d) = 97 + d := by decide
theorem val_inp : ∀ i, i < 5 → valF2 (inpF i) = 0 := by decide
theorem lab_val : ∀ d, d < 8 → ((nmB 114 d).getD 1 0).toNat = 97 + d := by decide
theorem no_ring {Gr : List Bool} (hl : Gr.length = 64) (R : Nat → Nat) (h : ∀ a b, a < 8 → b < 8 → gA Gr a b = true → R b < R a) : ringB Gr = false := by
  cases hr : ringB Gr
  · rfl
  · obtain ⟨a, ha, ht⟩ := (ringB_iff hl).1 hr
    have := ht (fun x y => R y < R x) (fun x y hxy => h x y hxy.1 hxy.2.1 hxy.2.2) (fun x y z h1 h2 => Nat.lt_trans h2 h1)
    exact absurd this (Nat.lt_irrefl _)
theorem gZ_no (a b : Nat) : gA gZ a b = false := by
  unfold gA gZ
  rw [List.getD_eq_getElem?_getD, List.getElem?_replicate]
  split <;> rfl
theorem ordF_len (labs : List Bs) (ls : List PLine) : ∀ Gr, (ordG labs ls Gr).length = Gr.length := by
  induction ls with
  | nil => intro Gr; rfl
  | cons x r ih => intro Gr; rw [ordG, ih]; split
                   · rw [addG_len]
                   · rfl
theorem nam_ring (h : MadeOk M) (hG : ∀ i, i < M.rules.length → GrOk (lowOf M.heads (ruM M i).head) (ruM M i) (G i)) (names : List Bs) : ringB (namG names (frmX M G) gZ) = false := by
  refine no_ring (by rw [namG_len, gZ_len]) (fun a => valF2 (names.getD a [])) fun a b ha hb hab => ?_
  rw [namG_get names (frmX M G) ha hb gZ gZ_len, gZ_no, Bool.false_or] at hab
  obtain ⟨x, hx, hp⟩ := List.any_eq_true.1 hab
  unfold arN at hp
  simp only [Bool.and_eq_true, Bool.or_eq_true, decide_eq_true_eq, List.any_eq_true] at hp
  rcases frm_mem hx with ⟨k, hk, rfl⟩ | ⟨j, hj, rfl⟩ | ⟨p, hp', rfl⟩
  · exact absurd hp.1 (in_kind3 M k).1
  · have hr := h.rules _ (ruM_mem hj)
    have hh := hr.head
    obtain ⟨-, ea, hp⟩ := hp
    have ea := findN_get ea
    have va : valF2 (names.getD a []) = 97 + (ruM M j).head := by rw [ea]; exact val_con _ hh
    show valF2 (names.getD b []) < valF2 (names.getD a [])
    rw [va]
    rcases hp with ⟨y, hy, eb⟩ | ⟨y, hy, e5, eb⟩
    · have eb := findN_get eb
      obtain ⟨p, hpp, m, rfl⟩ := fPPs_mem hy
      rw [eb]
      rcases fPP_name (hr.parts.2.2 p hpp) m with e | ⟨i, hi, e⟩ | ⟨d, hd, e⟩
      · rw [e, show valF2 [] = 0 from rfl]; omega
      · rw [e, val_inp i (by omega)]; omega
      · have := (low_in hd).2
        rw [e, val_con d (by omega)]; omega
    · have eb := findN_get eb
      rw [eb]
      rcases (hG j hj).nds y hy with hk | ⟨t, ht, rfl⟩
      · omega
      · rcases tNd_cases ht with e | ⟨i, h1, h2, e⟩ | ⟨d, hd, e⟩ | ⟨i, o, hi, e1, e2, e3, ho⟩
        · rw [e] at e5; cases e5
        · rw [e] at e5; cases e5
        · have := (low_in hd).2
          rw [e]
          show valF2 (nmB 99 d) < _
          rw [val_con d (by omega)]; omega
        · rw [e1] at e5; cases e5
  · exact absurd hp.1 (show ¬ (4 : Int) = 3 by decide)
theorem ord_ring (h : MadeOk M) (labs : List Bs) : ringB (ordG labs (frmX M G) gZ) = false := by
  have h8 := h.few
  refine no_ring (by rw [ordF_len, gZ_len]) (fun a => 300 - ((labs.getD a []).getD 1 0).toNat) fun a b ha hb hab => ?_
  rw [ordG_get labs (frmX M G) ha hb gZ gZ_len, gZ_no, Bool.false_or] at hab
  obtain ⟨x, hx, hp⟩ := List.any_eq_true.1 hab
  unfold arO at hp
  simp only [Bool.and_eq_true, decide_eq_true_eq] at hp
  rcases frm_mem hx with ⟨k, hk, rfl⟩ | ⟨j, hj, rfl⟩ | ⟨p, hp', rfl⟩
  · exact absurd hp.1 (in_kind3 M k).2
  · exact absurd hp.1 (show ¬ (3 : Int) = 4 by decide)
  · obtain ⟨p1, p2, -⟩ := ovP_lt h hp'
    obtain ⟨-, ea, eb⟩ := hp
    have ea := findN_get ea
    have eb := findN_get eb
    show 300 - ((labs.getD b []).getD 1 0).toNat < 300 - ((labs.getD a []).getD 1 0).toNat
    rw [ea, eb]
    have e1 := lab_val p.1 (by omega)
    have e2 := lab_val p.2 (by omega)
    show 300 - ((nmB 114 p.2).getD 1 0).toNat < 300 - ((nmB 114 p.1).getD 1 0).toNat
    rw [e1, e2]; omega
/-- A frame's lines have no fault. -/
theorem frame_check (h : MadeOk M) (hG : ∀ i, i < M.rules.length → GrOk (lowOf M.heads (ruM M i).head) (ruM M i) (G i)) : checkL (frmX M G) = (0, 0) := by
  unfold checkL
  rw [manyF_none _ 0 fun i _ hi => many_ok h hG (by omega)]
  show errsP _ = _
  unfold errsP
  rw [errF_none _ 0 fun i _ hi => err_ok h hG (by omega)]
  show ringsP _ = _
  unfold ringsP
  rw [nam_ring h hG, ord_ring h, if_neg (by decide), if_neg (by decide)]
end Go.Proofs.YtnbpdffdnphbeaaGreatDoor

/- The law Spaced answers true at every frame. -/
namespace Go.Proofs.YtnbpdffdnphbeaaGreatDoor
open Go.RowKit

theorem sp_ok {M : FMade} (h : MadeOk M) (lo : Bool) {l : Bs} (ht : tw l = (linesW M lo).flatten) (hl : l.length ≤ 4000) (w : World) (hv : TabK w) : SpOk w l (wrB (linesW M false)) := by
  obtain ⟨G, hG, e1, e2⟩ := frame_read h lo ht
  have hmax : l.length ≤ maxLen := by unfold maxLen; omega
  have hp : PureT 4001 l := pure_any hl (by decide)
  have htx := hp.text e2
  rw [e1, frame_text h hG] at htx
  refine ⟨?_, ?_⟩
  · refine (StTidy_any 4001 l w hmax hv fun _ => hp).mono ?_
    rintro e w' ⟨rfl, hb⟩
    rw [tidyB_ok (by omega) (hp.reads e2), ← htx]
    exact ⟨rfl, hb⟩
  · refine (StCheck_any l w hmax (fun _ hf => hp.good hf) (fun _ => hp.many)).mono ?_
    rintro e w' ⟨rfl, hb⟩
    have ec : chkP l = (0, 0) := by
      unfold chkP
      rw [if_neg (by omega), e2, e1]
      exact frame_check h hG
    rw [ec]
    exact ⟨rfl, hb⟩
theorem Spaced_any (w : World) (la wa ra ga : Option Addr) (ln lc wn wk rn rc gn gc : Nat) (hd : Nat → Int) (hL : RawE w la ln) (hW : RawE w wa wn) (hR : RawR w ra rn hd) (hG : RawE w ga gn) (hT : TabK w) :
    Calls Tryz.prog 9 #[.agg #[.slice la ln lc, .slice wa wn wk, .slice ra rn rc], .slice ga gn gc] w fun e w' => e = .returned (.bool true) ∧ Below w.heap.size w w' :=
  Spaced_of w la wa ra ga ln lc wn wk rn rc gn gc hd hL hW hR hG hT (fun _ h => lines_ne h true)
    (fun _ h _ _ _ hs w' hb => sp_ok h true (strewn_tw h true hs) (strewn_len h true hs) w' (hT.below hb))
    (fun _ h w' hb => sp_ok h false (text_tw h false) (text_len h false) w' (hT.below hb))
end Go.Proofs.YtnbpdffdnphbeaaGreatDoor
