/- Plain: what the reader gives of a frame's guards. -/
import Derived.Test.YtnbpdffdnphbeaaGreatDoorPItoa
namespace Go.Proofs.YtnbpdffdnphbeaaGreatDoor

/-- The node of a test. -/
def tNd (t : FTest) : PNode :=
  if t.kind = 0 then ⟨4, 0, 0, [], [], [], 0⟩ else if t.kind = 1 then ⟨6, 0, 0, inpF t.x.toNat, [], [], 0⟩ else if t.kind = 2 then ⟨5, 0, 0, nmB 99 t.x.toNat, [], [], 0⟩ else
  if t.kind = 3 then ⟨7, 0, 0, inpF t.x.toNat, mkF t.mark.toNat, [], t.n⟩ else ⟨7, 0, 0, inpF t.x.toNat, mkF t.mark.toNat, inpF t.y.toNat, 0⟩
theorem tNd_kind (t : FTest) : 4 ≤ (tNd t).kind := by
  unfold tNd
  split
  · simp
  · split
    · simp
    · split
      · simp
      · split <;> simp
/-- What stands behind a test. -/
def EndV (v : Bs) : Prop := v = kEnd ∨ v = kShut ∨ v = kAnd ∨ v = kOr
theorem EndV.cmp {v : Bs} (h : EndV v) : cmpL.contains v = false := by rcases h with rfl | rfl | rfl | rfl <;> decide
theorem mk_all {k : Nat} (hk : k < 6) : cmpL.contains (mkF k) = true ∧ pkind (mkF k) = 4 ∧ (mkF k).isEmpty = false := by
  have h : k = 0 ∨ k = 1 ∨ k = 2 ∨ k = 3 ∨ k = 4 ∨ k = 5 := by omega
  rcases h with rfl | rfl | rfl | rfl | rfl | rfl <;> decide
variable {P : List PT}
theorem comp_y {a k : Nat} (hk : k < 6) (h : At P a (mkF k)) : pComp P (a, false) = (mkF k, (a + 1, false)) := by
  obtain ⟨h1, h2, -⟩ := mk_all hk
  unfold pComp
  simp only [h.2.1, h1, skip_y h h2]
theorem comp_n {a : Nat} {v : Bs} (h : At P a v) (hv : cmpL.contains v = false) : pComp P (a, false) = ([], (a, false)) := by
  unfold pComp
  simp only [h.2.1, hv]
theorem test_flag {a : Nat} {w v : Bs} (h : At P a w) (hk : pkind w = 2) (h2 : At P (a + 1) v) (hv : cmpL.contains v = false) : pTest P (a, false) = (⟨6, 0, 0, w, [], [], 0⟩, (a + 1, false)) := by
  unfold pTest
  simp only [skip_n h [97, 108, 119, 97, 121, 115] (fun k => absurd (hk.symm.trans k) (by decide)), skip_n h [104, 97, 115] (fun k => absurd (hk.symm.trans k) (by decide)), name_y h hk, comp_n h2 hv, List.isEmpty_nil]
theorem test_num {a m : Nat} {w n : Bs} (h : At P a w) (hk : pkind w = 2) (hm : m < 6) (h2 : At P (a + 1) (mkF m)) (h3 : At P (a + 1 + 1) n) (hn : pkind n = 3) : pTest P (a, false) = (⟨7, 0, 0, w, mkF m, [], pval n⟩, (a + 1 + 1 + 1, false)) := by
  unfold pTest
  simp only [skip_n h [97, 108, 119, 97, 121, 115] (fun k => absurd (hk.symm.trans k) (by decide)), skip_n h [104, 97, 115] (fun k => absurd (hk.symm.trans k) (by decide)), name_y h hk, comp_y hm h2, (mk_all hm).2.2, isNum_y h3 hn, number_y h3 hn]
theorem test_two {a m : Nat} {w n : Bs} (h : At P a w) (hk : pkind w = 2) (hm : m < 6) (h2 : At P (a + 1) (mkF m)) (h3 : At P (a + 1 + 1) n) (hn : pkind n = 2) : pTest P (a, false) = (⟨7, 0, 0, w, mkF m, n, 0⟩, (a + 1 + 1 + 1, false)) := by
  unfold pTest
  simp only [skip_n h [97, 108, 119, 97, 121, 115] (fun k => absurd (hk.symm.trans k) (by decide)), skip_n h [104, 97, 115] (fun k => absurd (hk.symm.trans k) (by decide)), name_y h hk, comp_y hm h2, (mk_all hm).2.2, isNum_n h3 (by rw [hn]; decide), name_y h3 hn]
theorem core_read {low : List Nat} (hl4 : ∀ d ∈ low, d < 4) {t : FTest} (h : TestOk low t) {a : Nat} {v : Bs} (hv : EndV v) (hA : AtL P a (coreW t ++ [v])) : (∃ w r, coreW t = w :: r ∧ (pkind w = 4 → w ≠ kNot ∧ w ≠ kOpen)) ∧ pTest P (a, false) = (tNd t, (a + (coreW t).length, false)) := by
  have nk : ∀ w : Bs, pkind w = 2 → pkind w = 4 → w ≠ kNot ∧ w ≠ kOpen := fun w h1 h2 => absurd (h1.symm.trans h2) (by decide)
  rcases h with h | ⟨h, x1, x2⟩ | ⟨h, d, hd, hx⟩ | ⟨h, ⟨x1, x2⟩, ⟨y1, y2⟩, ⟨m1, m2⟩, n1, n2⟩
  · have e1 : coreW t = [kAlwW] := by unfold coreW; rw [if_pos h]
    have e2 : tNd t = ⟨4, 0, 0, [], [], [], 0⟩ := by unfold tNd; rw [if_pos h]
    rw [e1] at hA ⊢
    rw [e2]
    exact ⟨⟨_, _, rfl, fun _ => by decide⟩, test_alw hA.1⟩
  · have e1 : coreW t = [inpF t.x.toNat] := by unfold coreW; rw [if_neg (by omega), if_pos h]
    have e2 : tNd t = ⟨6, 0, 0, inpF t.x.toNat, [], [], 0⟩ := by unfold tNd; rw [if_neg (by omega), if_pos h]
    have hk : pkind (inpF t.x.toNat) = 2 := inpF_kind (by omega)
    rw [e1] at hA ⊢
    rw [e2]
    exact ⟨⟨_, _, rfl, nk _ hk⟩, test_flag hA.1 hk hA.2.1 hv.cmp⟩
  · have e1 : coreW t = [kHasW, nmB 99 t.x.toNat] := by unfold coreW; rw [if_neg (by omega), if_neg (by omega), if_pos h]
    have e2 : tNd t = ⟨5, 0, 0, nmB 99 t.x.toNat, [], [], 0⟩ := by unfold tNd; rw [if_neg (by omega), if_neg (by omega), if_pos h]
    have := hl4 d hd
    have hk : pkind (nmB 99 t.x.toNat) = 2 := nmB_kind (.inr (.inr (.inl rfl))) (by omega)
    rw [e1] at hA ⊢
    rw [e2]
    exact ⟨⟨_, _, rfl, fun _ => by decide⟩, test_has hA.1 hA.2.1 hk⟩
  · have hk : pkind (inpF t.x.toNat) = 2 := inpF_kind (by omega)
    have hk2 : pkind (inpF t.y.toNat) = 2 := inpF_kind (by omega)
    rcases h with h | h
    · have e1 : coreW t = [inpF t.x.toNat, mkF t.mark.toNat, Lib.itoa t.n] := by unfold coreW; rw [if_neg (by omega), if_neg (by omega), if_neg (by omega), if_pos h]
      have e2 : tNd t = ⟨7, 0, 0, inpF t.x.toNat, mkF t.mark.toNat, [], t.n⟩ := by unfold tNd; rw [if_neg (by omega), if_neg (by omega), if_neg (by omega), if_pos h]
      obtain ⟨k1, k2⟩ := it_kind n1 n2
      rw [e1] at hA ⊢
      rw [e2]
      refine ⟨⟨_, _, rfl, nk _ hk⟩, ?_⟩
      rw [test_num hA.1 hk (by omega) hA.2.1 hA.2.2.1 k1, k2]
      rfl
    · have e1 : coreW t = [inpF t.x.toNat, mkF t.mark.toNat, inpF t.y.toNat] := by unfold coreW; rw [if_neg (by omega), if_neg (by omega), if_neg (by omega), if_neg (by omega)]
      have e2 : tNd t = ⟨7, 0, 0, inpF t.x.toNat, mkF t.mark.toNat, inpF t.y.toNat, 0⟩ := by unfold tNd; rw [if_neg (by omega), if_neg (by omega), if_neg (by omega), if_neg (by omega)]
      rw [e1] at hA ⊢
      rw [e2]
      refine ⟨⟨_, _, rfl, nk _ hk⟩, ?_⟩
      rw [test_two hA.1 hk (by omega) hA.2.1 hA.2.2.1 hk2]
      rfl
theorem factP_open {n a b : Nat} {i : Int} {nd' : List PNode} {t' p' : Int} (nd : List PNode) (t p d : Int) (h : At P a kOpen) (hf : altW P (pFact P n) ⟨(a + 1, false), nd, t, p⟩ (d + 1) = (i, ⟨(b, false), nd', t', p'⟩)) (hs : At P b kShut) : pFact P (n + 1) ⟨(a, false), nd, t, p⟩ d = (i, ⟨(b + 1, false), nd', t', p'⟩) := by
  rw [pFact]; simp only [skip_n h kNot (fun _ => by decide), skip_y h (by decide), GS.to, hf, want_y hs (by decide)]
def brW (t : FTest) (lo : Bool) : List Bs := (if (lo && t.pair) = true then [kOpen] else []) ++ coreW t ++ (if (lo && t.pair) = true then [kShut] else [])
theorem tstW_br (t : FTest) (lo : Bool) : tstW t lo = (if t.not = true then [kNot] else []) ++ brW t lo := by
  unfold tstW brW
  rw [← List.append_assoc, ← List.append_assoc]
  rfl
theorem br_read {low : List Nat} (hl4 : ∀ d ∈ low, d < 4) {t : FTest} (h : TestOk low t) (lo : Bool) {a n : Nat} {v : Bs} (nd : List PNode) (tt p d D : Int) (hv : EndV v) (hA : AtL P a (brW t lo ++ [v])) (hn : (brW t lo).length ≤ n) (hP : 0 < P.length) (hp : p ≤ D) (hd : d + 1 ≤ D) :
    ∃ p', p' ≤ D ∧ pFact P n ⟨(a, false), nd, tt, p⟩ d = (((nd.length : Nat) : Int), ⟨(a + (brW t lo).length, false), nd ++ [tNd t], tt + 1, p'⟩) := by
  have hc := (core_len t).1
  cases hb : (lo && t.pair)
  · have e : brW t lo = coreW t := by simp [brW, hb]
    rw [e] at hA hn ⊢
    obtain ⟨⟨w, r, ew, hw⟩, ht⟩ := core_read hl4 h hv hA
    obtain ⟨n, rfl⟩ : ∃ k, n = k + 1 := ⟨n - 1, by omega⟩
    have h0 : At P a w := by rw [ew] at hA; exact hA.1
    exact ⟨dp p d, by unfold dp; split <;> omega, factP_test nd tt p d h0 hw ht⟩
  · have e : brW t lo = kOpen :: (coreW t ++ [kShut]) := by simp [brW, hb]
    rw [e] at hA hn ⊢
    obtain ⟨h0, h1⟩ := hA
    obtain ⟨h2, -⟩ := AtL.app (us := [v]) (ws := coreW t ++ [kShut]) h1
    obtain ⟨⟨w, r, ew, hw⟩, ht⟩ := core_read hl4 h (v := kShut) (.inr (.inl rfl)) h2
    have hs := h2.app.2.1
    have hl : (kOpen :: (coreW t ++ [kShut])).length = (coreW t).length + 2 := by simp
    rw [hl] at hn ⊢
    obtain ⟨n, rfl⟩ : ∃ k, n = k + 1 + 1 := ⟨n - 2, by omega⟩
    have h0' : At P (a + 1) w := by rw [ew] at h2; exact h2.1
    have hf := factP_test (n := n) nd tt p (d + 1) h0' hw ht
    refine ⟨dp p (d + 1), by unfold dp; split <;> omega, ?_⟩
    rw [factP_open nd tt p d h0 (alt_one hP (terms_one hP hf hs (fun _ => by decide)) hs (fun _ => by decide)) hs]
    rw [show a + 1 + (coreW t).length + 1 = a + ((coreW t).length + 2) by omega]

/-- What may be said of a guard's nodes, by their making. -/
structure GA where
  α : Type
  core : FTest → α
  andA : α → α → α
  orA : α → α → α
  notA : Bool → α → α
  J : List PNode → Int → Int → α → Prop
structure GA.Ok (A : GA) (low : List Nat) : Prop where
  ext : ∀ N E i k x, A.J N i k x → A.J (N ++ E) i k x
  core : ∀ N t, TestOk low t → A.J (N ++ [tNd t]) ((N.length : Nat) : Int) (tNd t).kind (A.core t)
  and : ∀ N l kl x r kr y, A.J N l kl x → A.J N r kr y → kl ≠ 1 → kr ≠ 1 → A.J (N ++ [⟨2, l, r, [], [], [], 0⟩]) ((N.length : Nat) : Int) 2 (A.andA x y)
  or : ∀ N l kl x r kr y, A.J N l kl x → A.J N r kr y → A.J (N ++ [⟨1, l, r, [], [], [], 0⟩]) ((N.length : Nat) : Int) 1 (A.orA x y)
  not : ∀ N l kl x, A.J N l kl x → A.J (N ++ [⟨3, l, 0, [], [], [], 0⟩]) ((N.length : Nat) : Int) 3 (A.notA (decide (kl = 1 ∨ kl = 2)) x)
abbrev GX := ∀ A : GA, A.α
def tstX (t : FTest) : GX := fun A => if t.not = true then A.notA false (A.core t) else A.core t
def andX (x y : GX) : GX := fun A => A.andA (x A) (y A)
def orX (x y : GX) : GX := fun A => A.orA (x A) (y A)
def notX (b : Bool) (x : GX) : GX := fun A => A.notA b (x A)
def GDn (low : List Nat) (N : List PNode) (i k : Int) (x : GX) : Prop := ∀ A : GA, A.Ok low → A.J N i k (x A)
def NdOk (low : List Nat) (x : PNode) : Prop := (x.kind = 1 ∨ x.kind = 2 ∨ x.kind = 3) ∨ ∃ t, TestOk low t ∧ x = tNd t
/-- What reading a piece of a guard comes to. -/
def GOut (low : List Nat) (D : Int) (nd : List PNode) (tt : Int) (b : Nat) (c k : Int) (x : GX) (y : Int × GS) : Prop := ∃ i E p', y = (i, ⟨(b, false), nd ++ E, tt + c, p'⟩) ∧ p' ≤ D ∧ GDn low (nd ++ E) i k x ∧ ∀ z ∈ E, NdOk low z
theorem gs_eq {i : Int} {s s' : St} {nd nd' : List PNode} {t t' p : Int} (h0 : s = s') (h1 : nd = nd') (h2 : t = t') : ((i, ⟨s, nd, t, p⟩) : Int × GS) = (i, ⟨s', nd', t', p⟩) := by subst h0 h1 h2; rfl
theorem tst_read {low : List Nat} (hl4 : ∀ d ∈ low, d < 4) {t : FTest} (h : TestOk low t) (lo : Bool) {a n : Nat} {v : Bs} (nd : List PNode) (tt p d D : Int) (hv : EndV v) (hA : AtL P a (tstW t lo ++ [v])) (hn : (tstW t lo).length ≤ n) (hP : 0 < P.length) (hp : p ≤ D) (hd : d + 2 ≤ D) :
    ∃ k, 3 ≤ k ∧ GOut low D nd tt (a + (tstW t lo).length) 1 k (tstX t) (pFact P n ⟨(a, false), nd, tt, p⟩ d) := by
  have e := tstW_br t lo
  have hk := tNd_kind t
  cases hn' : t.not
  · rw [hn'] at e
    have e' : tstW t lo = brW t lo := e
    rw [e'] at hA hn ⊢
    obtain ⟨p', h1, h2⟩ := br_read hl4 h lo nd tt p d D hv hA hn hP hp (by omega)
    refine ⟨(tNd t).kind, by omega, _, [tNd t], p', h2, h1, fun A hO => ?_, fun z hz => ?_⟩
    · have ex : tstX t A = A.core t := by unfold tstX; rw [hn']; rfl
      rw [ex]; exact hO.core nd t h
    · rw [List.mem_singleton.1 hz]; exact .inr ⟨t, h, rfl⟩
  · rw [hn'] at e
    have e' : tstW t lo = kNot :: brW t lo := e
    rw [e'] at hA hn ⊢
    obtain ⟨h0, hA1⟩ := hA
    obtain ⟨n, rfl⟩ : ∃ k, n = k + 1 := ⟨n - 1, by simp at hn; omega⟩
    obtain ⟨p', h1, h2⟩ := br_read hl4 h lo nd tt p (d + 1) D hv hA1 (by simp at hn; omega) hP hp (by omega)
    refine ⟨3, by decide, (((nd ++ [tNd t]).length : Nat) : Int), [tNd t, ⟨3, (nd.length : Nat), 0, [], [], [], 0⟩], p', ?_, h1, fun A hO => ?_, fun z hz => ?_⟩
    · rw [factP_not nd tt p d h0 h2]
      simp only [GS.add, List.append_assoc, List.singleton_append, List.length_cons]
      rw [show a + 1 + (brW t lo).length = a + ((brW t lo).length + 1) by omega]
    · have ex : tstX t A = A.notA (decide ((tNd t).kind = 1 ∨ (tNd t).kind = 2)) (A.core t) := by
        unfold tstX; rw [hn', decide_eq_false (by omega)]; rfl
      rw [ex, show nd ++ [tNd t, (⟨3, (nd.length : Nat), 0, [], [], [], 0⟩ : PNode)] = (nd ++ [tNd t]) ++ [⟨3, (nd.length : Nat), 0, [], [], [], 0⟩] by simp]
      exact hO.not _ _ _ _ (hO.core nd t h)
    · rcases List.mem_cons.1 hz with rfl | hz
      · exact .inr ⟨t, h, rfl⟩
      · rw [List.mem_singleton.1 hz]; exact .inl (.inr (.inr rfl))

def joinB (t : FTest) : List Bs := if t.or = true then [kOr] else [kAnd]
def tailT (l : List FTest) (lo : Bool) : List Bs := l.flatMap fun q => joinB q ++ tstW q lo
def andF (x : GX) (g : List FTest) : GX := g.foldl (fun x t => andX x (tstX t)) x
theorem tailT_next {l : List FTest} {lo : Bool} {v : Bs} (hv : v = kEnd ∨ v = kShut) : ∃ v' r, tailT l lo ++ [v] = v' :: r ∧ EndV v' ∧ (v' = kAnd → ∃ t l', l = t :: l' ∧ t.or = false) := by
  cases l with
  | nil =>
    refine ⟨v, [], rfl, ?_, fun e => ?_⟩
    · rcases hv with rfl | rfl
      · exact .inl rfl
      · exact .inr (.inl rfl)
    · rcases hv with rfl | rfl <;> exact absurd e (by decide)
  | cons t l' =>
    cases ho : t.or
    · exact ⟨kAnd, tstW t lo ++ (tailT l' lo ++ [v]), by simp [tailT, joinB, ho], .inr (.inr (.inl rfl)), fun _ => ⟨t, l', rfl, ho⟩⟩
    · exact ⟨kOr, tstW t lo ++ (tailT l' lo ++ [v]), by simp [tailT, joinB, ho], .inr (.inr (.inr rfl)), fun e => absurd e (by decide)⟩
theorem and_loop {low : List Nat} (hl4 : ∀ d ∈ low, d < 4) (lo : Bool) {n : Nat} {v : Bs} (d D : Int) (hv : v = kEnd ∨ v = kShut) (hP : 0 < P.length) (hd : d + 2 ≤ D) : ∀ (l : List FTest) (k b : Nat) (left : Int) (nd : List PNode) (tt p kx : Int) (x : GX), (∀ t ∈ l, TestOk low t ∧ (tstW t lo).length ≤ n) → AtL P b (tailT l lo ++ [v]) → l.length < k → p ≤ D → GDn low nd left kx x → kx ≠ 1 →
    ∃ g r kx', l = g ++ r ∧ (∀ t ∈ g, t.or = false) ∧ (∀ t r', r = t :: r' → t.or = true) ∧ kx' ≠ 1 ∧ (g ≠ [] → kx' = 2) ∧ (g = [] → kx' = kx) ∧ AtL P (b + (tailT g lo).length) (tailT r lo ++ [v]) ∧ GOut low D nd tt (b + (tailT g lo).length) g.length kx' (andF x g) (loopB P (fun q => pFact P n q d) kAnd 2 k left ⟨(b, false), nd, tt, p⟩) := by
  intro l
  induction l with
  | nil =>
    intro k b left nd tt p kx x hl hA hk hp hx hkx
    obtain ⟨k, rfl⟩ : ∃ j, k = j + 1 := ⟨k - 1, by simp at hk; omega⟩
    refine ⟨[], [], kx, rfl, fun t ht => (by cases ht), fun t r' e => (by cases e), hkx, fun e => absurd rfl e, fun _ => rfl, hA, left, [], p, ?_, hp, by rw [List.append_nil]; exact hx, fun z hz => (by cases hz)⟩
    rw [loop_end hA.1 (fun _ => by rcases hv with rfl | rfl <;> decide)]
    simp [tailT]
  | cons t l ih =>
    intro k b left nd tt p kx x hl hA hk hp hx hkx
    obtain ⟨k, rfl⟩ : ∃ j, k = j + 1 := ⟨k - 1, by simp at hk; omega⟩
    have ht := hl t (by simp)
    cases ho : t.or
    · have e : tailT (t :: l) lo ++ [v] = kAnd :: (tstW t lo ++ (tailT l lo ++ [v])) := by simp [tailT, joinB, ho]
      have hA' := hA
      rw [e] at hA'
      obtain ⟨h0, h1⟩ := hA'
      obtain ⟨v', r', e', hv', -⟩ := tailT_next (l := l) (lo := lo) hv
      have h2 : AtL P (b + 1) (tstW t lo ++ [v']) := by
        rw [e', show tstW t lo ++ v' :: r' = (tstW t lo ++ [v']) ++ r' by simp] at h1
        exact h1.app.1
      obtain ⟨kt, hkt, i, E, p', hy, hp', hG, hE⟩ := tst_read hl4 ht.1 lo (n := n) nd tt p d D hv' h2 ht.2 hP hp hd
      have h3 := h1.app.2
      have hJ : GDn low (nd ++ E ++ [⟨2, left, i, [], [], [], 0⟩]) (((nd ++ E).length : Nat) : Int) 2 (andX x (tstX t)) := fun A hO => hO.and _ _ kx _ _ kt _ (hO.ext _ _ _ _ _ (hx A hO)) (hG A hO) hkx (by omega)
      obtain ⟨g, r, kx', e1, e2, e3, e4, e5, e6, e7, i', E', p2, hy2, hp2, hG2, hE2⟩ := ih k (b + 1 + (tstW t lo).length) (((nd ++ E).length : Nat) : Int) (nd ++ E ++ [⟨2, left, i, [], [], [], 0⟩]) (tt + 1) p' 2 (andX x (tstX t)) (fun t' h' => hl t' (List.mem_cons_of_mem _ h')) h3 (by simp at hk; omega) hp' hJ (by decide)
      have el : b + 1 + (tstW t lo).length + (tailT g lo).length = b + (tailT (t :: g) lo).length := by
        simp [tailT, joinB, ho]; omega
      rw [el] at e7 hy2
      refine ⟨t :: g, r, kx', by rw [e1]; rfl, fun t' h' => ?_, e3, e4, fun _ => ?_, fun e => (by cases e), e7, i', E ++ [⟨2, left, i, [], [], [], 0⟩] ++ E', p2, ?_, hp2, ?_, fun z hz => ?_⟩
      · rcases List.mem_cons.1 h' with rfl | h'
        · exact ho
        · exact e2 t' h'
      · by_cases hg : g = []
        · exact e6 hg
        · exact e5 hg
      · rw [loop_on h0 (by decide) hy]
        simp only [GS.add]
        rw [hy2]
        exact gs_eq rfl (by simp) (by simp only [List.length_cons]; omega)
      · rw [← List.append_assoc, ← List.append_assoc]; exact hG2
      · rcases List.mem_append.1 hz with hz | hz
        · rcases List.mem_append.1 hz with hz | hz
          · exact hE z hz
          · rw [List.mem_singleton.1 hz]; exact .inl (.inr (.inl rfl))
        · exact hE2 z hz
    · have e : tailT (t :: l) lo ++ [v] = kOr :: (tstW t lo ++ (tailT l lo ++ [v])) := by simp [tailT, joinB, ho]
      have hA' := hA
      rw [e] at hA'
      refine ⟨[], t :: l, kx, rfl, fun t ht => (by cases ht), fun t' r' e => (by cases e; exact ho), hkx, fun e => absurd rfl e, fun _ => rfl, hA, left, [], p, ?_, hp, by rw [List.append_nil]; exact hx, fun z hz => (by cases hz)⟩
      rw [loop_end hA'.1 (fun _ => by decide)]
      simp [tailT]
def joinX : Option GX → GX → GX
  | none, c => c
  | some a, c => orX a c
/-- Tests by and, or, one behind the other. -/
def goX : Option GX → GX → List FTest → GX
  | acc, c, [] => joinX acc c
  | acc, c, t :: r => if t.or = true then goX (some (joinX acc c)) (tstX t) r else goX acc (andX c (tstX t)) r
def orE (x : GX) : List FTest → GX
  | [] => x
  | t :: r => goX (some x) (tstX t) r
theorem goX_split (g : List FTest) : ∀ (acc : Option GX) (c : GX) (r : List FTest), (∀ t ∈ g, t.or = false) → (∀ t r', r = t :: r' → t.or = true) → goX acc c (g ++ r) = orE (joinX acc (andF c g)) r := by
  induction g with
  | nil =>
    intro acc c r _ hr
    cases r with
    | nil => rfl
    | cons t r => rw [List.nil_append, goX, if_pos (hr t r rfl)]; rfl
  | cons t g ih =>
    intro acc c r hg hr
    rw [List.cons_append, goX, if_neg (by rw [hg t (by simp)]; decide), ih _ _ _ (fun t' h' => hg t' (List.mem_cons_of_mem _ h')) hr]
    rfl
theorem terms_read {low : List Nat} (hl4 : ∀ d ∈ low, d < 4) (lo : Bool) {n : Nat} {v : Bs} (d D : Int) (hv : v = kEnd ∨ v = kShut) (hP : 0 < P.length) (hd : d + 2 ≤ D) (t : FTest) (l : List FTest) (b : Nat) (nd : List PNode) (tt p : Int) (hl : ∀ q ∈ t :: l, TestOk low q ∧ (tstW q lo).length ≤ n) (hA : AtL P b (tstW t lo ++ (tailT l lo ++ [v]))) (hk : l.length < P.length) (hp : p ≤ D) :
    ∃ g r kx', l = g ++ r ∧ (∀ t ∈ g, t.or = false) ∧ (∀ t r', r = t :: r' → t.or = true) ∧ (g ≠ [] → kx' = 2) ∧ (g = [] → 3 ≤ kx') ∧ AtL P (b + (tstW t lo).length + (tailT g lo).length) (tailT r lo ++ [v]) ∧ GOut low D nd tt (b + (tstW t lo).length + (tailT g lo).length) (g.length + 1) kx' (andF (tstX t) g) (termsW P (pFact P n) ⟨(b, false), nd, tt, p⟩ d) := by
  obtain ⟨v', r', e', hv', -⟩ := tailT_next (l := l) (lo := lo) hv
  have h2 : AtL P b (tstW t lo ++ [v']) := by
    have hA' := hA
    rw [e', show tstW t lo ++ v' :: r' = (tstW t lo ++ [v']) ++ r' by simp] at hA'
    exact hA'.app.1
  have ht := hl t (by simp)
  obtain ⟨kt, hkt, i, E, p', hy, hp', hG, hE⟩ := tst_read hl4 ht.1 lo (n := n) nd tt p d D hv' h2 ht.2 hP hp hd
  obtain ⟨g, r, kx', e1, e2, e3, e4, e5, e6, e7, i', E', p2, hy2, hp2, hG2, hE2⟩ := and_loop hl4 lo (n := n) d D hv hP hd l P.length (b + (tstW t lo).length) i (nd ++ E) (tt + 1) p' kt (tstX t) (fun t' h' => hl t' (List.mem_cons_of_mem _ h')) hA.app.2 hk hp' hG (by omega)
  refine ⟨g, r, kx', e1, e2, e3, e5, fun hg => by rw [e6 hg]; exact hkt, e7, i', E ++ E', p2, ?_, hp2, by rw [← List.append_assoc]; exact hG2, fun z hz => ?_⟩
  · unfold termsW
    rw [hy]
    simp only
    rw [hy2]
    exact gs_eq rfl (by simp) (by omega)
  · rcases List.mem_append.1 hz with hz | hz
    · exact hE z hz
    · exact hE2 z hz
theorem or_loop {low : List Nat} (hl4 : ∀ d ∈ low, d < 4) (lo : Bool) {n : Nat} {v : Bs} (d D : Int) (hv : v = kEnd ∨ v = kShut) (hP : 0 < P.length) (hd : d + 2 ≤ D) : ∀ (m : Nat) (l : List FTest) (k b : Nat) (left : Int) (nd : List PNode) (tt p kx : Int) (x : GX), l.length ≤ m → (∀ t r', l = t :: r' → t.or = true) → (∀ t ∈ l, TestOk low t ∧ (tstW t lo).length ≤ n) → AtL P b (tailT l lo ++ [v]) → l.length < k → l.length < P.length → p ≤ D → GDn low nd left kx x →
    ∃ kx', (l ≠ [] → kx' = 1) ∧ (l = [] → kx' = kx) ∧ GOut low D nd tt (b + (tailT l lo).length) l.length kx' (orE x l) (loopB P (fun q => termsW P (pFact P n) q d) kOr 1 k left ⟨(b, false), nd, tt, p⟩) := by
  intro m
  induction m with
  | zero =>
    intro l k b left nd tt p kx x hm ho hl hA hk hkP hp hx
    obtain rfl : l = [] := List.length_eq_zero_iff.1 (by omega)
    obtain ⟨k, rfl⟩ : ∃ j, k = j + 1 := ⟨k - 1, by simp at hk; omega⟩
    refine ⟨kx, fun e => absurd rfl e, fun _ => rfl, left, [], p, ?_, hp, by rw [List.append_nil]; exact hx, fun z hz => (by cases hz)⟩
    rw [loop_end hA.1 (fun _ => by rcases hv with rfl | rfl <;> decide)]
    simp [tailT]
  | succ m ih =>
    intro l k b left nd tt p kx x hm ho hl hA hk hkP hp hx
    obtain ⟨k, rfl⟩ : ∃ j, k = j + 1 := ⟨k - 1, by omega⟩
    cases l with
    | nil =>
      refine ⟨kx, fun e => absurd rfl e, fun _ => rfl, left, [], p, ?_, hp, by rw [List.append_nil]; exact hx, fun z hz => (by cases hz)⟩
      rw [loop_end hA.1 (fun _ => by rcases hv with rfl | rfl <;> decide)]
      simp [tailT]
    | cons t l =>
      have hto := ho t l rfl
      have e : tailT (t :: l) lo ++ [v] = kOr :: (tstW t lo ++ (tailT l lo ++ [v])) := by simp [tailT, joinB, hto]
      have hA' := hA
      rw [e] at hA'
      obtain ⟨h0, h1⟩ := hA'
      obtain ⟨g, r, kg, e1, e2, e3, e5, e6, e7, i, E, p', hy, hp', hG, hE⟩ := terms_read hl4 lo (n := n) d D hv hP hd t l (b + 1) nd tt p hl h1 (by simp at hkP; omega) hp
      have hJ : GDn low (nd ++ E ++ [⟨1, left, i, [], [], [], 0⟩]) (((nd ++ E).length : Nat) : Int) 1 (orX x (andF (tstX t) g)) := fun A hO => hO.or _ _ kx _ _ kg _ (hO.ext _ _ _ _ _ (hx A hO)) (hG A hO)
      have hr : r.length ≤ l.length := by rw [e1, List.length_append]; omega
      obtain ⟨kx', f1, f2, i', E', p2, hy2, hp2, hG2, hE2⟩ := ih r k _ (((nd ++ E).length : Nat) : Int) (nd ++ E ++ [⟨1, left, i, [], [], [], 0⟩]) (tt + (g.length + 1)) p' 1 (orX x (andF (tstX t) g)) (by simp at hm; omega) e3 (fun t' h' => hl t' (by rw [e1]; simp [h'])) e7 (by simp at hk; omega) (by simp at hkP; omega) hp' hJ
      have el : b + 1 + (tstW t lo).length + (tailT g lo).length + (tailT r lo).length = b + (tailT (t :: l) lo).length := by
        rw [e1]; simp [tailT, joinB, hto]; omega
      rw [el] at hy2
      refine ⟨kx', fun _ => ?_, fun e => (by cases e), i', E ++ [⟨1, left, i, [], [], [], 0⟩] ++ E', p2, ?_, hp2, ?_, fun z hz => ?_⟩
      · by_cases hr0 : r = []
        · exact f2 hr0
        · exact f1 hr0
      · rw [loop_on h0 (by decide) hy]
        simp only [GS.add]
        rw [hy2]
        exact gs_eq rfl (by simp) (by rw [e1]; simp only [List.length_cons, List.length_append]; omega)
      · have eo : orE x (t :: l) = orE (orX x (andF (tstX t) g)) r := by
          show goX (some x) (tstX t) l = _
          rw [e1, goX_split g _ _ _ e2 e3]; rfl
        rw [eo, ← List.append_assoc, ← List.append_assoc]; exact hG2
      · rcases List.mem_append.1 hz with hz | hz
        · rcases List.mem_append.1 hz with hz | hz
          · exact hE z hz
          · rw [List.mem_singleton.1 hz]; exact .inl (.inl rfl)
        · exact hE2 z hz
theorem alt_read {low : List Nat} (hl4 : ∀ d ∈ low, d < 4) (lo : Bool) {n : Nat} {v : Bs} (d D : Int) (hv : v = kEnd ∨ v = kShut) (hP : 0 < P.length) (hd : d + 2 ≤ D) (t : FTest) (l : List FTest) (b : Nat) (nd : List PNode) (tt p : Int) (hl : ∀ q ∈ t :: l, TestOk low q ∧ (tstW q lo).length ≤ n) (hA : AtL P b (tstW t lo ++ tailT l lo ++ [v])) (hk : l.length < P.length) (hp : p ≤ D) :
    ∃ k, (k = 1 ∨ k = 2 ↔ l ≠ []) ∧ GOut low D nd tt (b + (tstW t lo ++ tailT l lo).length) (l.length + 1) k (goX none (tstX t) l) (altW P (pFact P n) ⟨(b, false), nd, tt, p⟩ d) := by
  rw [List.append_assoc] at hA
  obtain ⟨g, r, kg, e1, e2, e3, e5, e6, e7, i, E, p', hy, hp', hG, hE⟩ := terms_read hl4 lo (n := n) d D hv hP hd t l b nd tt p hl hA hk hp
  have hr : r.length ≤ l.length := by rw [e1, List.length_append]; omega
  obtain ⟨kx', f1, f2, i', E', p2, hy2, hp2, hG2, hE2⟩ := or_loop hl4 lo (n := n) d D hv hP hd r.length r P.length _ i (nd ++ E) (tt + (g.length + 1)) p' kg (andF (tstX t) g) (Nat.le_refl _) e3 (fun t' h' => hl t' (by rw [e1]; simp [h'])) e7 (by omega) (by omega) hp' hG
  have el : b + (tstW t lo).length + (tailT g lo).length + (tailT r lo).length = b + (tstW t lo ++ tailT l lo).length := by
    rw [e1]; simp [tailT]; omega
  rw [el] at hy2
  refine ⟨kx', ?_, i', E ++ E', p2, ?_, hp2, ?_, fun z hz => ?_⟩
  · by_cases hr0 : r = []
    · have k1 := f2 hr0
      by_cases hg0 : g = []
      · have := e6 hg0
        rw [e1, hr0, hg0]
        constructor
        · intro h; omega
        · intro h; exact absurd rfl h
      · have := e5 hg0
        rw [e1, hr0]
        constructor
        · intro _ h; exact hg0 (by simpa using h)
        · intro _; omega
    · have := f1 hr0
      rw [e1]
      constructor
      · intro _ h; exact hr0 (List.append_eq_nil_iff.1 h).2
      · intro _; omega
  · unfold altW
    rw [hy]
    simp only
    rw [hy2]
    exact gs_eq rfl (by simp) (by rw [e1]; simp only [List.length_append]; omega)
  · have eo : goX none (tstX t) l = orE (andF (tstX t) g) r := by rw [e1, goX_split g _ _ _ e2 e3]; rfl
    rw [eo, ← List.append_assoc]; exact hG2
  · rcases List.mem_append.1 hz with hz | hz
    · exact hE z hz
    · exact hE2 z hz
end Go.Proofs.YtnbpdffdnphbeaaGreatDoor
