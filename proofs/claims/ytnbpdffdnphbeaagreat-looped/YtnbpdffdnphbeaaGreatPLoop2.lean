/- Plain: what Check and Ring tell of such lines. -/
import Derived.Test.YtnbpdffdnphbeaaGreatPLoop
import Derived.Test.YtnbpdffdnphbeaaGreatCkAll
import Derived.Test.YtnbpdffdnphbeaaGreatRkGraph
namespace Go.Proofs.YtnbpdffdnphbeaaGreat

/-- Two rules' lines that Check can't tell apart, where no line is a num's. -/
structure Sim (x y : PLine) : Prop where
  k : x.kind = 3
  k' : y.kind = 3
  nm : x.name = y.name
  cc : x.conc = y.conc
  c0 : x.conc ≠ []
  mn : manyX x = manyX y
  er : ∀ ls, (∀ nm, hasL ls 1 nm = false) → (x.sum.any (fun p => !partOk ls p) || x.nd.any (fun p => !nodeOk ls p)) = (y.sum.any (fun p => !partOk ls p) || y.nd.any (fun p => !nodeOk ls p))
  gr : ∀ names f G, findN names [] = -1 → nodeG names f x.nd (partG names f x.sum G) = nodeG names f y.nd (partG names f y.sum G)
def AllS : List PLine → List PLine → Prop
  | [], [] => True
  | x :: xs, y :: ys => Sim x y ∧ AllS xs ys
  | _, _ => False

theorem AllS.ind {M : List PLine → List PLine → Prop} (h0 : M [] []) (h1 : ∀ x y xs ys, Sim x y → AllS xs ys → M xs ys → M (x :: xs) (y :: ys)) : ∀ xs ys, AllS xs ys → M xs ys
  | [], [], _ => h0
  | x :: xs, y :: ys, h => h1 x y xs ys h.1 h.2 (AllS.ind h0 h1 xs ys h.2)
  | [], _ :: _, h => absurd h id
  | _ :: _, [], h => absurd h id
theorem AllS.len {xs ys : List PLine} (h : AllS xs ys) : xs.length = ys.length :=
  AllS.ind (M := fun xs ys => xs.length = ys.length) rfl (fun _ _ _ _ _ _ h => by simp [h]) xs ys h
theorem AllS.cnt {xs ys : List PLine} (h : AllS xs ys) (k : Int) : cntK k xs = cntK k ys :=
  AllS.ind (M := fun xs ys => cntK k xs = cntK k ys) rfl (fun _ _ _ _ s _ h => by rw [cntK, cntK, s.k, s.k', h]) xs ys h
theorem AllS.take {xs ys : List PLine} (h : AllS xs ys) : ∀ n, AllS (xs.take n) (ys.take n) :=
  AllS.ind (M := fun xs ys => ∀ n, AllS (xs.take n) (ys.take n)) (fun n => by simp [AllS]) (fun x y xs ys s _ h n => by
    cases n with
    | zero => trivial
    | succ n => exact ⟨s, h n⟩) xs ys h
theorem AllS.get {xs ys : List PLine} (h : AllS xs ys) : ∀ i, i < ys.length → Sim (lA xs i) (lA ys i) :=
  AllS.ind (M := fun xs ys => ∀ i, i < ys.length → Sim (lA xs i) (lA ys i)) (fun i hi => absurd hi (by simp)) (fun x y xs ys s _ h i hi => by
    cases i with
    | zero => exact s
    | succ i => exact h i (by simpa using hi)) xs ys h
theorem AllS.has {xs ys : List PLine} (h : AllS xs ys) (k : Int) (nm : Bs) : hasL xs k nm = hasL ys k nm :=
  AllS.ind (M := fun xs ys => hasL xs k nm = hasL ys k nm) rfl (fun _ _ _ _ s _ h => by
    unfold hasL isL at *; rw [List.any_cons, List.any_cons, s.k, s.k', s.nm, h]) xs ys h
theorem AllS.con {xs ys : List PLine} (h : AllS xs ys) (nm : Bs) : isCon xs nm = isCon ys nm :=
  AllS.ind (M := fun xs ys => isCon xs nm = isCon ys nm) rfl (fun _ _ _ _ s _ h => by
    unfold isCon isC at *; rw [List.any_cons, List.any_cons, s.k, s.k', s.cc, h]) xs ys h
theorem AllS.no {xs ys : List PLine} (h : AllS xs ys) (nm : Bs) : hasL ys 1 nm = false :=
  AllS.ind (M := fun _ ys => hasL ys 1 nm = false) rfl (fun _ _ _ _ s _ h => by
    unfold hasL isL at *; rw [List.any_cons, s.k', h]; rfl) xs ys h
theorem AllS.heads {xs ys : List PLine} (h : AllS xs ys) : ∀ acc, headsG xs acc = headsG ys acc :=
  AllS.ind (M := fun xs ys => ∀ acc, headsG xs acc = headsG ys acc) (fun _ => rfl) (fun _ _ _ _ s _ h acc => by rw [headsG, headsG, s.k, s.k', s.cc, h]) xs ys h
theorem AllS.labs {xs ys : List PLine} (h : AllS xs ys) : ∀ acc, labsG xs acc = labsG ys acc :=
  AllS.ind (M := fun xs ys => ∀ acc, labsG xs acc = labsG ys acc) (fun _ => rfl) (fun _ _ _ _ s _ h acc => by rw [labsG, labsG, s.k, s.k', s.nm, h]) xs ys h
theorem AllS.ord {xs ys : List PLine} (h : AllS xs ys) (l : List Bs) : ∀ G, ordG l xs G = ordG l ys G :=
  AllS.ind (M := fun xs ys => ∀ G, ordG l xs G = ordG l ys G) (fun _ => rfl) (fun _ _ _ _ s _ h G => by rw [ordG, ordG, s.k, s.k', if_neg (by decide), if_neg (by decide), h]) xs ys h
theorem AllS.nam {xs ys : List PLine} (h : AllS xs ys) (l : List Bs) (hl : findN l [] = -1) : ∀ G, namG l xs G = namG l ys G :=
  AllS.ind (M := fun xs ys => ∀ G, namG l xs G = namG l ys G) (fun _ => rfl) (fun _ _ _ _ s _ h G => by rw [namG, namG, s.k, s.k', if_pos rfl, if_pos rfl, s.cc, s.gr l _ G hl, h]) xs ys h
theorem findI_nil (l : List Bs) (h : ∀ x ∈ l, x ≠ []) : ∀ i, findI [] l i = -1 := by
  induction l with
  | nil => intro i; rfl
  | cons x r ih => intro i; rw [findI, if_neg (h x (by simp)), ih (fun y hy => h y (by simp [hy]))]
theorem AllS.full {xs ys : List PLine} (h : AllS xs ys) : ∀ acc : List Bs, (∀ x ∈ acc, x ≠ []) → ∀ x ∈ headsG ys acc, x ≠ [] :=
  AllS.ind (M := fun _ ys => ∀ acc : List Bs, (∀ x ∈ acc, x ≠ []) → ∀ x ∈ headsG ys acc, x ≠ []) (fun _ h => h) (fun a b _ _ s _ h acc ha => by
    rw [headsG]
    refine h _ ?_
    split
    · intro x hx
      rcases List.mem_append.1 hx with hx | hx
      · exact ha x hx
      · rw [List.mem_singleton.1 hx, ← s.cc]; exact s.c0
    · exact ha) xs ys h
theorem AllS.many {xs ys : List PLine} (h : AllS xs ys) : ∀ n i, i + n ≤ ys.length → manyG xs n i = manyG ys n i := by
  intro n
  induction n with
  | zero => intro i _; rfl
  | succ n ih =>
    intro i hi
    have s := h.get i (by omega)
    have e : manyP xs i = manyP ys i := by unfold manyP; rw [s.k, s.k', s.mn, (h.take i).cnt]
    rw [manyG, manyG, e, ih (i + 1) (by omega)]
theorem partOk_sim {xs ys : List PLine} (h : AllS xs ys) (p : PPart) : partOk xs p = partOk ys p := by unfold partOk sumOk; rw [h.has, h.con]
theorem nodeOk_sim {xs ys : List PLine} (h : AllS xs ys) (p : PNode) : nodeOk xs p = nodeOk ys p := by unfold nodeOk; rw [h.has, h.has, h.has, h.con]
theorem AllS.err {xs ys : List PLine} (h : AllS xs ys) (i : Nat) (hi : i < ys.length) : errP xs i = errP ys i := by
  have s := h.get i hi
  unfold errP
  rw [s.k, s.k', if_neg (by decide), if_neg (by decide), if_pos rfl, if_neg (by decide), if_neg (by decide), if_pos rfl]
  unfold ruleE
  rw [(h.take i).has, s.nm, funext (fun p => partOk_sim h p), funext (fun p => nodeOk_sim h p), s.er ys h.no]
theorem AllS.errs {xs ys : List PLine} (h : AllS xs ys) : ∀ n i, i + n ≤ ys.length → errG xs n i = errG ys n i := by
  intro n
  induction n with
  | zero => intro i _; rfl
  | succ n ih =>
    intro i hi
    rw [errG, errG, h.err i (by omega), ih (i + 1) (by omega)]
theorem AllS.nam0 {xs ys : List PLine} (h : AllS xs ys) : namG (headsB xs) xs gZ = namG (headsB ys) ys gZ := by
  have e : headsB xs = headsB ys := h.heads []
  rw [e]
  exact h.nam _ (findI_nil _ (h.full [] (by simp)) 0) _
theorem AllS.ord0 {xs ys : List PLine} (h : AllS xs ys) : ordG (labsB xs) xs gZ = ordG (labsB ys) ys gZ := by
  have e : labsB xs = labsB ys := h.labs []
  rw [e]; exact h.ord _ _
theorem sim_check {xs ys : List PLine} (h : AllS xs ys) (h0 : errG ys ys.length 0 = none) : checkL xs = checkL ys ∧ ringL xs = ringL ys := by
  have e1 : headsB xs = headsB ys := h.heads []
  have e2 : labsB xs = labsB ys := h.labs []
  constructor
  · unfold checkL errsP ringsP
    rw [h.len, h.many _ _ (by omega), h.errs _ _ (by omega), h.nam0, h.ord0, h0]
  · unfold ringL
    rw [h.nam0, h.ord0, e1, e2]

theorem addG_two (G : List Bool) (a b : Int) : addG (addG G a b) a b = addG G a b := by
  unfold addG
  by_cases h : (0 ≤ a ∧ a < 8) ∧ (0 ≤ b ∧ b < 8)
  · rw [if_pos h, if_pos h, List.set_set]
  · rw [if_neg h, if_neg h]
theorem addG_no (G : List Bool) (a : Int) : addG G a (-1) = G := by
  unfold addG; rw [if_neg (by omega)]
theorem rg_sim {r c next : Bs} (hc : c ≠ []) (hx : next ≠ []) (kd : Nat) : Sim (rgX r c next kd) (rgX r c next (if kd = 3 then 3 else 0)) := by
  have re : ∀ x : PLine, x.kind = 3 → x.conc ≠ [] → Sim x x := fun x h h' => ⟨h, h, rfl, rfl, h', rfl, fun _ _ => rfl, fun _ _ _ _ => rfl⟩
  by_cases h3 : kd = 3
  · rw [if_pos h3, h3]; exact re _ rfl hc
  · rw [if_neg h3]
    by_cases h0 : kd = 0
    · rw [h0]; exact re _ rfl hc
    · have e0 : rgX r c next 0 = ⟨3, r, 0, 0, c, [⟨false, false, 0, next⟩], [⟨4, 0, 0, [], [], [], 0⟩], 0, 1, 0, []⟩ := rfl
      by_cases h1 : kd = 1
      · subst h1
        have e1 : rgX r c next 1 = ⟨3, r, 0, 0, c, [⟨false, false, 2, []⟩], [⟨5, 0, 0, next, [], [], 0⟩], 0, 1, 0, []⟩ := rfl
        rw [e0, e1]
        refine ⟨rfl, rfl, rfl, rfl, hc, rfl, fun ls hl => ?_, fun names f G hn => ?_⟩
        · simp [partOk, nodeOk, sumOk, hl, hx]
        · simp [nodeG, partG, hn, addG_no]
      · have e2 : rgX r c next kd = ⟨3, r, 0, 0, c, [⟨false, false, 3, []⟩, ⟨true, true, 4, next⟩], [⟨5, 0, 0, next, [], [], 0⟩, ⟨3, 0, 0, [], [], [], 0⟩, ⟨4, 0, 0, [], [], [], 0⟩, ⟨1, 1, 2, [], [], [], 0⟩], 3, 2, 1, []⟩ := by
          unfold rgX; rw [if_neg h3, if_neg h0, if_neg h1]
        rw [e0, e2]
        refine ⟨rfl, rfl, rfl, rfl, hc, rfl, fun ls hl => ?_, fun names f G hn => ?_⟩
        · simp [partOk, nodeOk, sumOk, hl, hx]
        · simp [nodeG, partG, hn, addG_no, addG_two]
theorem allS_map {f g : Nat → PLine} : ∀ is : List Nat, (∀ i ∈ is, Sim (f i) (g i)) → AllS (is.map f) (is.map g)
  | [], _ => trivial
  | i :: is, h => ⟨h i (by simp), allS_map is (fun j hj => h j (by simp [hj]))⟩
/-- The ring, each naming the next in its sum. -/
abbrev rg0 (n k : Nat) (shut : Bool) : List PLine := (turnI n k).map (rgL n (fun _ => 0) shut)
theorem rg_same (n : Nat) (h : Nat → Nat) (hh : ∀ i, h i ≤ 2) (shut : Bool) (k : Nat) : AllS ((turnI n k).map (rgL n h shut)) (rg0 n k shut) := by
  refine allS_map _ fun i _ => ?_
  have := rg_sim (r := nmB 114 i) (c := nmB 99 i) (next := nmB 99 ((i + 1) % n)) (by simp [nmB]) (by simp [nmB]) (rgKd n h shut i)
  have e : (if rgKd n h shut i = 3 then 3 else 0) = rgKd n (fun _ => 0) shut i := by
    unfold rgKd
    by_cases hc : i = n - 1 ∧ shut = false
    · rw [if_pos hc, if_pos hc]; rfl
    · rw [if_neg hc, if_neg hc, if_neg (by have := hh i; omega)]
  rw [e] at this
  exact this

/-- Does a list name all n of a ring, each followed by the next? -/
def goR (l : List Bs) (n : Nat) (f : UInt8) : Bool := decide (l.length = n) && (List.range n).all fun i => (List.range n).any fun k => decide (l.getD i [] = nmB f k) && decide (l.getD ((i + 1) % n) [] = nmB f ((k + 1) % n))
/-- Graphs: a ring of n points; the same with one arrow away. -/
def cycG (n : Nat) : List Bool := (List.range n).foldl (fun (G : List Bool) (i : Nat) => addG G (i : Int) (((i + 1) % n : Nat) : Int)) gZ
def opnG (n j : Nat) : List Bool := (List.range n).foldl (fun (G : List Bool) (i : Nat) => if i = j then G else addG G (i : Int) (((i + 1) % n : Nat) : Int)) gZ
theorem check_by {ls : List PLine} {G1 G2 : List Bool} (h1 : manyG ls ls.length 0 = none) (h2 : errG ls ls.length 0 = none) (h3 : namG (headsB ls) ls gZ = G1) (h4 : ordG (labsB ls) ls gZ = G2) : checkL ls = if ringB G1 = true then (7, 0) else if ringB G2 = true then (7, 1) else (0, 0) := by
  unfold checkL; rw [h1]; unfold errsP ringsP; rw [h2, h3, h4]
def plainOk (ls : List PLine) (G1 G2 : List Bool) : Bool := decide (manyG ls ls.length 0 = none) && (decide (errG ls ls.length 0 = none) && (decide (namG (headsB ls) ls gZ = G1) && decide (ordG (labsB ls) ls gZ = G2)))
theorem plain_of {ls : List PLine} {G1 G2 : List Bool} (h : plainOk ls G1 G2 = true) : errG ls ls.length 0 = none ∧ namG (headsB ls) ls gZ = G1 ∧ ordG (labsB ls) ls gZ = G2 ∧ checkL ls = if ringB G1 = true then (7, 0) else if ringB G2 = true then (7, 1) else (0, 0) := by
  unfold plainOk at h
  simp only [Bool.and_eq_true, decide_eq_true_eq] at h
  exact ⟨h.2.1, h.2.2.1, h.2.2.2, check_by h.1 h.2.1 h.2.2.1 h.2.2.2⟩
theorem ring_gz : ringB gZ = false ∧ (ringPts gZ).length = 0 := by decide +kernel
theorem ring_cyc : ∀ n, n < 9 → 0 < n → ringB (cycG n) = true ∧ ringPts (cycG n) = turnI n 8 := by decide +kernel
theorem ring_opn : ∀ n, n < 9 → ∀ j, j < n → ringB (opnG n j) = false := by decide +kernel
/-- What is asked of each ring and each row of rules, but its graph's ring. -/
theorem rg_plain : ∀ n, n < 9 → ∀ k, k < n → plainOk (rg0 n k true) (cycG n) gZ = true ∧ plainOk (rg0 n k false) (opnG n ((2 * n - 1 - k) % n)) gZ = true ∧ goR (pickB (headsB (rg0 n k true)) (turnI n 8)) n 99 = true := by decide +kernel
theorem ov_plain : ∀ n, n < 9 → 1 < n → (∀ k, k < 2 * n → plainOk ((turnI (2 * n) k).map (ovN n)) gZ (cycG n) = true ∧ goR (pickB (labsB ((turnI (2 * n) k).map (ovN n))) (turnI n 8)) n 114 = true) ∧ (∀ k, k < 2 * n - 1 → plainOk ((turnI (2 * n - 1) k).map (ovN n)) gZ (opnG n ((2 * n - 1 - (k + 1) / 2) % n)) = true) := by decide +kernel
theorem rg_shut {n k : Nat} (hn : n < 9) (hk : k < n) (h : Nat → Nat) (hh : ∀ i, h i ≤ 2) : checkL ((turnI n k).map (rgL n h true)) = (7, 0) ∧ goR (ringL ((turnI n k).map (rgL n h true))) n 99 = true := by
  obtain ⟨h1, _, h3⟩ := rg_plain n hn k hk
  obtain ⟨e, en, _, ec⟩ := plain_of h1
  obtain ⟨s1, s2⟩ := sim_check (rg_same n h hh true k) e
  obtain ⟨c1, c2⟩ := ring_cyc n hn (by omega)
  rw [s1, s2, ec, if_pos c1]
  refine ⟨rfl, ?_⟩
  unfold ringL
  rw [en, c2, if_pos (by simp [turnI]; omega)]
  exact h3
theorem rg_open {n k : Nat} (hn : n < 9) (hk : k < n) (h : Nat → Nat) (hh : ∀ i, h i ≤ 2) : checkL ((turnI n k).map (rgL n h false)) = (0, 0) := by
  obtain ⟨_, h2, _⟩ := rg_plain n hn k hk
  obtain ⟨e, _, _, ec⟩ := plain_of h2
  obtain ⟨s1, _⟩ := sim_check (rg_same n h hh false k) e
  rw [s1, ec, ring_opn n hn _ (Nat.mod_lt _ (by omega)), ring_gz.1]; rfl
theorem ov_shut {n k : Nat} (hn : n < 9) (h1 : 1 < n) (hk : k < 2 * n) : checkL ((turnI (2 * n) k).map (ovN n)) = (7, 1) ∧ goR (ringL ((turnI (2 * n) k).map (ovN n))) n 114 = true := by
  obtain ⟨h2, h3⟩ := (ov_plain n hn h1).1 k hk
  obtain ⟨_, en, eo, ec⟩ := plain_of h2
  obtain ⟨c1, c2⟩ := ring_cyc n hn (by omega)
  rw [ec, ring_gz.1, c1]
  refine ⟨rfl, ?_⟩
  unfold ringL
  rw [en, eo, c2, if_neg (by rw [ring_gz.2]; decide)]
  exact h3
theorem ov_open {n k : Nat} (hn : n < 9) (h1 : 1 < n) (hk : k < 2 * n - 1) : checkL ((turnI (2 * n - 1) k).map (ovN n)) = (0, 0) := by
  obtain ⟨_, _, _, ec⟩ := plain_of ((ov_plain n hn h1).2 k hk)
  rw [ec, ring_gz.1, ring_opn n hn _ (Nat.mod_lt _ (by omega))]; rfl
end Go.Proofs.YtnbpdffdnphbeaaGreat
