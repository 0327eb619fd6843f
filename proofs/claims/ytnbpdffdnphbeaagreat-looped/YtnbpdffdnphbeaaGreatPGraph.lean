/- Chains of arrows: what the program's closing of eight points by eight comes to, and what the document's looking again and again does. Nothing of the program's run is here. -/
import Derived.Test.YtnbpdffdnphbeaaGreatLex
namespace Go.Proofs.YtnbpdffdnphbeaaGreat

/-- A chain of arrows, one or more: in every relation that has the arrows and can be gone on in. -/
def TC (M : Nat → Nat → Prop) (a b : Nat) : Prop := ∀ R : Nat → Nat → Prop, (∀ x y, M x y → R x y) → (∀ x y z, R x y → R y z → R x z) → R a b
theorem TC.one {M : Nat → Nat → Prop} {a b : Nat} (h : M a b) : TC M a b := fun _ h1 _ => h1 _ _ h
theorem TC.trans {M : Nat → Nat → Prop} {a b c : Nat} (h : TC M a b) (h' : TC M b c) : TC M a c := fun R h1 h2 => h2 _ _ _ (h R h1 h2) (h' R h1 h2)
theorem TC.mono {M M' : Nat → Nat → Prop} (hm : ∀ x y, M x y → M' x y) {a b : Nat} (h : TC M a b) : TC M' a b := fun R h1 h2 => h R (fun x y h3 => h1 x y (hm x y h3)) h2

/-- An arrow of a graph of eight points. -/
def gA (G : List Bool) (a b : Nat) : Bool := G.getD (a * 8 + b) false
/-- One look: by the middle point q / 64, from and to what q says. -/
def wS (q : Nat) (G : List Bool) : List Bool := if gA G (q % 64 / 8) (q / 64) && gA G (q / 64) (q % 8) then G.set (q % 64) true else G
def wA : Nat → Nat → List Bool → List Bool
  | 0, _, G => G
  | n + 1, q, G => wA n (q + 1) (wS q G)
def chainsB (G : List Bool) : List Bool := wA 512 0 G

theorem wS_len (q : Nat) (G : List Bool) : (wS q G).length = G.length := by unfold wS; split <;> simp
theorem wA_len (n : Nat) : ∀ q G, (wA n q G).length = G.length := by
  induction n with
  | zero => intro q G; rfl
  | succ n ih => intro q G; rw [wA, ih, wS_len]
theorem wA_add (n : Nat) : ∀ m q G, wA (n + m) q G = wA m (q + n) (wA n q G) := by
  induction n with
  | zero => intro m q G; simp [wA]
  | succ n ih => intro m q G; rw [show n + 1 + m = (n + m) + 1 by omega, wA, wA, ih, show q + 1 + n = q + (n + 1) by omega]

theorem gA_set {G : List Bool} (hl : G.length = 64) {p a b : Nat} (hp : p < 64) : gA (G.set p true) a b = (gA G a b || decide (a * 8 + b = p)) := by
  unfold gA
  simp only [List.getD_eq_getElem?_getD, List.getElem?_set]
  by_cases h : p = a * 8 + b
  · subst h; simp [hl, hp]
  · rw [if_neg h, decide_eq_false (fun e => h e.symm), Bool.or_false]

/-- The looks by one middle point, so far. -/
theorem wA_mid {G : List Bool} (hl : G.length = 64) {m : Nat} (hm : m < 8) (p : Nat) : p ≤ 64 → ∀ a b, a < 8 → b < 8 → gA (wA p (m * 64) G) a b = (gA G a b || (decide (a * 8 + b < p) && (gA G a m && gA G m b))) := by
  induction p with
  | zero => intro _ a b _ _; simp [wA]
  | succ p ih =>
    intro hp a b ha hb
    have ih := ih (by omega)
    rw [wA_add p 1, wA, wA]
    have e1 : (m * 64 + p) % 64 = p := by omega
    have e2 : (m * 64 + p) / 64 = m := by omega
    have e3 : (m * 64 + p) % 8 = p % 8 := by omega
    unfold wS
    rw [e1, e2, e3]
    have hl2 : (wA p (m * 64) G).length = 64 := by rw [wA_len, hl]
    have k1 := ih (p / 8) m (by omega) hm
    have k2 := ih m (p % 8) hm (by omega)
    have k3 := ih a b ha hb
    generalize wA p (m * 64) G = H at *
    have c1 : gA H (p / 8) m = gA G (p / 8) m := by rw [k1]; cases gA G (p / 8) m <;> simp
    have c2 : gA H m (p % 8) = gA G m (p % 8) := by rw [k2]; cases gA G m (p % 8) <;> simp
    rw [c1, c2]
    by_cases hab : a * 8 + b = p
    · have ea : p / 8 = a := by omega
      have eb : p % 8 = b := by omega
      rw [ea, eb]
      have d1 : decide (a * 8 + b < p + 1) = true := by simp; omega
      rw [d1]
      split
      · rename_i h; rw [gA_set hl2 (by omega), k3, h]; simp [hab]
      · rename_i h; rw [k3]; have : (gA G a m && gA G m b) = false := by simpa using h
        rw [this]; simp
    · have d1 : decide (a * 8 + b < p + 1) = decide (a * 8 + b < p) := by by_cases h : a * 8 + b < p <;> simp [h] <;> omega
      rw [d1, ← k3]
      split
      · rw [gA_set hl2 (by omega), decide_eq_false hab, Bool.or_false]
      · rfl

theorem wA_all {G : List Bool} (hl : G.length = 64) {m : Nat} (hm : m < 8) {a b : Nat} (ha : a < 8) (hb : b < 8) : gA (wA 64 (m * 64) G) a b = (gA G a b || (gA G a m && gA G m b)) := by
  rw [wA_mid hl hm 64 (Nat.le_refl _) a b ha hb, decide_eq_true (by omega : a * 8 + b < 64), Bool.true_and]

/-- The arrows between eight points. -/
def arr (G : List Bool) (a b : Nat) : Prop := a < 8 ∧ b < 8 ∧ gA G a b = true

theorem wA_said {G : List Bool} (hl : G.length = 64) (m : Nat) : m ≤ 8 → (∀ a b, arr G a b → arr (wA (m * 64) 0 G) a b) ∧ (∀ a b, arr (wA (m * 64) 0 G) a b → TC (arr G) a b) ∧ (∀ k, k < m → ∀ a b, arr (wA (m * 64) 0 G) a k → arr (wA (m * 64) 0 G) k b → arr (wA (m * 64) 0 G) a b) := by
  induction m with
  | zero => intro _; refine ⟨fun a b h => by simpa [wA] using h, fun a b h => TC.one (by simpa [wA] using h), fun k hk => by omega⟩
  | succ m ih =>
    intro hm
    obtain ⟨i1, i2, i3⟩ := ih (by omega)
    rw [show (m + 1) * 64 = m * 64 + 64 by omega, wA_add, Nat.zero_add]
    have hl2 : (wA (m * 64) 0 G).length = 64 := by rw [wA_len, hl]
    generalize wA (m * 64) 0 G = H at *
    have key : ∀ a b, arr (wA 64 (m * 64) H) a b ↔ (arr H a b ∨ arr H a m ∧ arr H m b) := by
      intro a b
      constructor
      · rintro ⟨ha, hb, h⟩
        rw [wA_all hl2 (by omega) ha hb, Bool.or_eq_true, Bool.and_eq_true] at h
        rcases h with h | ⟨h, h'⟩
        · exact .inl ⟨ha, hb, h⟩
        · exact .inr ⟨⟨ha, by omega, h⟩, ⟨by omega, hb, h'⟩⟩
      · rintro (⟨ha, hb, h⟩ | ⟨⟨ha, _, h⟩, ⟨_, hb, h'⟩⟩)
        · exact ⟨ha, hb, by rw [wA_all hl2 (by omega) ha hb, h]; rfl⟩
        · exact ⟨ha, hb, by rw [wA_all hl2 (by omega) ha hb, h, h']; simp⟩
    refine ⟨fun a b h => (key a b).2 (.inl (i1 a b h)), fun a b h => ?_, fun k hk a b h1 h2 => ?_⟩
    · rcases (key a b).1 h with h | ⟨h, h'⟩
      · exact i2 _ _ h
      · exact (i2 _ _ h).trans (i2 _ _ h')
    · rw [key] at h1 h2 ⊢
      by_cases hkm : k = m
      · subst hkm
        refine .inr ⟨?_, ?_⟩
        · rcases h1 with h1 | h1
          · exact h1
          · exact h1.1
        · rcases h2 with h2 | h2
          · exact h2
          · exact h2.2
      · have hk' : k < m := by omega
        rcases h1 with h1 | ⟨h1, h1'⟩ <;> rcases h2 with h2 | ⟨h2, h2'⟩
        · exact .inl (i3 k hk' _ _ h1 h2)
        · exact .inr ⟨i3 k hk' _ _ h1 h2, h2'⟩
        · exact .inr ⟨h1, i3 k hk' _ _ h1' h2⟩
        · exact .inr ⟨h1, h2'⟩

theorem chains_iff {G : List Bool} (hl : G.length = 64) (a b : Nat) : arr (chainsB G) a b ↔ TC (arr G) a b := by
  obtain ⟨h1, h2, h3⟩ := wA_said hl 8 (Nat.le_refl _)
  refine ⟨h2 a b, fun h => h _ h1 (fun x y z h4 h5 => h3 y ?_ x z h4 h5)⟩
  exact h4.2.1

/-- The first point with an arrow to itself, or eight. -/
def loopG (G : List Bool) : Nat → Nat → Nat
  | 0, _ => 8
  | n + 1, a => if gA G a a then a else loopG G n (a + 1)
def loopB8 (G : List Bool) : Nat := loopG G 8 0
theorem loopG_le (G : List Bool) (n : Nat) : ∀ a, a + n = 8 → loopG G n a ≤ 8 := by
  induction n with
  | zero => intro a _; exact Nat.le_refl _
  | succ n ih => intro a h; rw [loopG]; split; · omega
                 · exact ih _ (by omega)
theorem loopG_lt (G : List Bool) (n : Nat) : ∀ a, a + n = 8 → (loopG G n a < 8 ↔ ∃ b, a ≤ b ∧ b < 8 ∧ gA G b b = true) := by
  induction n with
  | zero => intro a h; simp [loopG]; intro b h1 h2; omega
  | succ n ih =>
    intro a h
    rw [loopG]
    split
    · rename_i hg; exact ⟨fun _ => ⟨a, Nat.le_refl _, by omega, hg⟩, fun _ => by omega⟩
    · rename_i hg
      rw [ih (a + 1) (by omega)]
      constructor
      · rintro ⟨b, h1, h2, h3⟩; exact ⟨b, by omega, h2, h3⟩
      · rintro ⟨b, h1, h2, h3⟩
        refine ⟨b, ?_, h2, h3⟩
        rcases Nat.lt_or_ge a b with h4 | h4
        · exact h4
        · exfalso; have : b = a := by omega
          subst this; exact hg h3
theorem loopG_hit (G : List Bool) (n : Nat) : ∀ a, a + n = 8 → loopG G n a < 8 → gA G (loopG G n a) (loopG G n a) = true := by
  induction n with
  | zero => intro a _ h; simp [loopG] at h
  | succ n ih =>
    intro a h h1
    rw [loopG] at h1 ⊢
    split at h1
    · rename_i hg; rw [if_pos hg]; exact hg
    · rename_i hg; rw [if_neg hg]; exact ih _ (by omega) h1

def ringB (G : List Bool) : Bool := decide (loopB8 (chainsB G) < 8)
theorem ringB_iff {G : List Bool} (hl : G.length = 64) : ringB G = true ↔ ∃ a, a < 8 ∧ TC (arr G) a a := by
  unfold ringB loopB8
  rw [decide_eq_true_iff, loopG_lt _ 8 0 rfl]
  constructor
  · rintro ⟨b, _, h1, h2⟩; exact ⟨b, h1, (chains_iff hl b b).1 ⟨h1, h1, h2⟩⟩
  · rintro ⟨b, h1, h2⟩; exact ⟨b, Nat.zero_le _, h1, ((chains_iff hl b b).2 h2).2.2⟩

/-- The document's looks: from a point x, to each y. -/
def lY (m : Nat → Nat → Bool) (fr : Bool) (x : Nat) : Nat → Nat → List Bool → List Bool
  | 0, _, s => s
  | n + 1, y, s => lY m fr x n (y + 1) (if fr && m x y then s.set y true else s)
def lFr (i x : Nat) (s : List Bool) : Bool := decide (x = i) || s.getD x false
def lX (m : Nat → Nat → Bool) (i N : Nat) : Nat → Nat → List Bool → List Bool
  | 0, _, s => s
  | n + 1, x, s => lX m i N n (x + 1) (lY m (lFr i x s) x N 0 s)
def lN (m : Nat → Nat → Bool) (i N : Nat) : Nat → List Bool → List Bool
  | 0, s => s
  | n + 1, s => lN m i N n (lX m i N N 0 s)
def leadsB (m : Nat → Nat → Bool) (N i k : Nat) : Bool := (lN m i N (N + 1) (List.replicate N false)).getD k false

theorem lY_len (m : Nat → Nat → Bool) (fr : Bool) (x n : Nat) : ∀ y s, (lY m fr x n y s).length = s.length := by
  induction n with
  | zero => intro y s; rfl
  | succ n ih => intro y s; rw [lY, ih]; split <;> simp
theorem lX_len (m : Nat → Nat → Bool) (i N n : Nat) : ∀ x s, (lX m i N n x s).length = s.length := by
  induction n with
  | zero => intro x s; rfl
  | succ n ih => intro x s; rw [lX, ih, lY_len]
theorem lN_len (m : Nat → Nat → Bool) (i N n : Nat) : ∀ s, (lN m i N n s).length = s.length := by
  induction n with
  | zero => intro s; rfl
  | succ n ih => intro s; rw [lN, ih, lX_len]

theorem getD_set (s : List Bool) (y z : Nat) : (s.set y true).getD z false = (s.getD z false || (decide (z = y) && decide (y < s.length))) := by
  simp only [List.getD_eq_getElem?_getD, List.getElem?_set]
  by_cases h : y = z
  · subst h
    by_cases h2 : y < s.length
    · simp [h2]
    · simp [h2]
  · have h' : ¬ z = y := fun e => h e.symm
    simp [h, h']

theorem lY_up (m : Nat → Nat → Bool) (fr : Bool) (x n : Nat) : ∀ y s z, s.getD z false = true → (lY m fr x n y s).getD z false = true := by
  induction n with
  | zero => intro y s z h; exact h
  | succ n ih =>
    intro y s z h; rw [lY]; refine ih _ _ _ ?_
    split
    · rw [getD_set, h]; rfl
    · exact h
theorem lX_up (m : Nat → Nat → Bool) (i N n : Nat) : ∀ x s z, s.getD z false = true → (lX m i N n x s).getD z false = true := by
  induction n with
  | zero => intro x s z h; exact h
  | succ n ih => intro x s z h; rw [lX]; exact ih _ _ _ (lY_up _ _ _ _ _ _ _ h)

theorem lY_hit (m : Nat → Nat → Bool) (x n : Nat) : ∀ y s z, y ≤ z → z < y + n → z < s.length → m x z = true → (lY m true x n y s).getD z false = true := by
  induction n with
  | zero => intro y s z h1 h2; omega
  | succ n ih =>
    intro y s z h1 h2 h3 h4
    rw [lY]
    by_cases h : y = z
    · subst h; refine lY_up _ _ _ _ _ _ _ ?_
      rw [h4]; simp [h3]
    · refine ih _ _ _ (by omega) (by omega) ?_ h4
      split <;> simp [h3]
theorem lX_hit (m : Nat → Nat → Bool) (i N n : Nat) : ∀ x s x0 z, x ≤ x0 → x0 < x + n → z < N → s.length = N → (x0 = i ∨ s.getD x0 false = true) → m x0 z = true → (lX m i N n x s).getD z false = true := by
  induction n with
  | zero => intro x s x0 z h1 h2; omega
  | succ n ih =>
    intro x s x0 z h1 h2 h3 h4 h5 h6
    rw [lX]
    by_cases h : x = x0
    · subst h; refine lX_up _ _ _ _ _ _ _ ?_
      have e : lFr i x s = true := by unfold lFr; exact h5.elim (fun h => by simp [h]) (fun h => by rw [h, Bool.or_true])
      rw [e]
      exact lY_hit _ _ _ _ _ _ (Nat.zero_le _) (by omega) (by omega) h6
    · refine ih _ _ x0 z (by omega) (by omega) h3 (by rw [lY_len, h4]) ?_ h6
      rcases h5 with h5 | h5
      · exact .inl h5
      · exact .inr (lY_up _ _ _ _ _ _ _ h5)

/-- Steps between points that there are. -/
def stp (m : Nat → Nat → Bool) (N : Nat) (a b : Nat) : Prop := a < N ∧ b < N ∧ m a b = true

theorem lY_sound {m : Nat → Nat → Bool} {i N : Nat} (x : Nat) (hx : x < N) (fr : Bool) (hfr : fr = true → x = i ∨ TC (stp m N) i x) (n : Nat) : ∀ y s, y + n = N → (∀ z, s.getD z false = true → TC (stp m N) i z) → ∀ z, (lY m fr x n y s).getD z false = true → TC (stp m N) i z := by
  induction n with
  | zero => intro y s _ h; exact h
  | succ n ih =>
    intro y s hy h
    rw [lY]
    refine ih _ _ (by omega) ?_
    intro z hz
    split at hz
    · rename_i hc
      rw [Bool.and_eq_true] at hc
      rw [getD_set, Bool.or_eq_true, Bool.and_eq_true] at hz
      rcases hz with hz | ⟨hz, _⟩
      · exact h z hz
      · have e : z = y := by simpa using hz
        subst e
        have h1 : stp m N x z := ⟨hx, by omega, hc.2⟩
        rcases hfr hc.1 with h2 | h2
        · rw [← h2]; exact TC.one h1
        · exact h2.trans (TC.one h1)
    · exact h z hz
theorem lX_sound {m : Nat → Nat → Bool} {i N : Nat} (n : Nat) : ∀ x s, x + n = N → (∀ z, s.getD z false = true → TC (stp m N) i z) → ∀ z, (lX m i N n x s).getD z false = true → TC (stp m N) i z := by
  induction n with
  | zero => intro x s _ h; exact h
  | succ n ih =>
    intro x s hx h
    rw [lX]
    refine ih _ _ (by omega) (lY_sound x (by omega) _ ?_ N 0 s (by omega) h)
    intro hf
    unfold lFr at hf
    rw [Bool.or_eq_true] at hf
    rcases hf with hf | hf
    · exact .inl (by simpa using hf)
    · exact .inr (h x hf)
theorem lN_sound {m : Nat → Nat → Bool} {i N : Nat} (n : Nat) : ∀ s, (∀ z, s.getD z false = true → TC (stp m N) i z) → ∀ z, (lN m i N n s).getD z false = true → TC (stp m N) i z := by
  induction n with
  | zero => intro s h; exact h
  | succ n ih => intro s h; rw [lN]; exact ih _ (lX_sound N 0 s (by omega) h)

def cntT : List Bool → Nat
  | [] => 0
  | b :: r => b.toNat + cntT r
theorem cnt_le (s : List Bool) : cntT s ≤ s.length := by
  induction s with
  | nil => exact Nat.le_refl _
  | cons b r ih => rw [cntT, List.length_cons]; cases b <;> simp <;> omega
theorem cnt_up (s : List Bool) : ∀ s', s.length = s'.length → (∀ z, s.getD z false = true → s'.getD z false = true) → s = s' ∨ cntT s < cntT s' := by
  induction s with
  | nil => intro s' h _; cases s' with
    | nil => exact .inl rfl
    | cons _ _ => simp at h
  | cons b r ih =>
    intro s' h hz
    cases s' with
    | nil => simp at h
    | cons b' r' =>
      have h0 := hz 0
      have ih := ih r' (by simpa using h) (fun z hh => by have := hz (z + 1); simpa using this (by simpa using hh))
      rw [cntT, cntT]
      simp only [List.getD_cons_zero] at h0
      rcases ih with ih | ih
      · subst ih
        cases b <;> cases b'
        · exact .inl rfl
        · exact .inr (by simp)
        · exact absurd (h0 rfl) (by simp)
        · exact .inl rfl
      · right
        cases b <;> cases b'
        · simpa using ih
        · simp; omega
        · exact absurd (h0 rfl) (by simp)
        · simpa using ih

theorem lN_succ (m : Nat → Nat → Bool) (i N n : Nat) : ∀ s, lN m i N (n + 1) s = lX m i N N 0 (lN m i N n s) := by
  induction n with
  | zero => intro s; rfl
  | succ n ih => intro s; rw [lN, ih]; rfl
theorem lN_fix (m : Nat → Nat → Bool) (i N : Nat) (s : List Bool) (n : Nat) : lX m i N N 0 (lN m i N n s) = lN m i N n s ∨ n ≤ cntT (lN m i N n s) := by
  induction n with
  | zero => exact .inr (Nat.zero_le _)
  | succ n ih =>
    rw [lN_succ]
    rcases ih with ih | ih
    · left; rw [ih, ih]
    · rcases cnt_up (lN m i N n s) (lX m i N N 0 (lN m i N n s)) (by rw [lX_len]) (lX_up _ _ _ _ _ _) with h | h
      · left; rw [← h, ← h]
      · right; omega

theorem leadsB_iff {m : Nat → Nat → Bool} {N i k : Nat} : leadsB m N i k = true ↔ TC (stp m N) i k := by
  unfold leadsB
  constructor
  · intro h
    refine lN_sound (N + 1) _ ?_ k h
    intro z hz
    exfalso
    simp only [List.getD_eq_getElem?_getD, List.getElem?_replicate] at hz
    split at hz <;> simp at hz
  · intro h
    have hlen : (lN m i N (N + 1) (List.replicate N false)).length = N := by rw [lN_len, List.length_replicate]
    have hfix : lX m i N N 0 (lN m i N (N + 1) (List.replicate N false)) = lN m i N (N + 1) (List.replicate N false) := by
      rcases lN_fix m i N (List.replicate N false) (N + 1) with h1 | h1
      · exact h1
      · have h2 := cnt_le (lN m i N (N + 1) (List.replicate N false)); omega
    generalize lN m i N (N + 1) (List.replicate N false) = s at *
    have key : ∀ x z, stp m N x z → (x = i ∨ s.getD x false = true) → s.getD z false = true := by
      intro x z h1 h2
      have h3 := lX_hit m i N N 0 s x z (Nat.zero_le _) (by have := h1.1; omega) h1.2.1 hlen h2 h1.2.2
      rw [hfix] at h3; exact h3
    exact h (fun x z => (x = i ∨ s.getD x false = true) → s.getD z false = true) key (fun x y z h1 h2 h3 => h2 (.inr (h1 h3))) (.inl rfl)

theorem stp_lt {m : Nat → Nat → Bool} {N a b : Nat} (h : TC (stp m N) a b) : a < N ∧ b < N := h (fun a b => a < N ∧ b < N) (fun _ _ h => ⟨h.1, h.2.1⟩) (fun _ _ _ h1 h2 => ⟨h1.1, h2.2⟩)

/-- The document's ring. -/
def ringedB (m : Nat → Nat → Bool) (N : Nat) : Bool := (List.range N).any fun i => leadsB m N i i

theorem ring_same {m : Nat → Nat → Bool} {N : Nat} {G : List Bool} (hl : G.length = 64) (hN : N ≤ 8) (h : ∀ a b, a < 8 → b < 8 → (gA G a b = true ↔ stp m N a b)) : ringedB m N = ringB G := by
  have e : ∀ a b, arr G a b ↔ stp m N a b := fun a b => ⟨fun ⟨h1, h2, h3⟩ => (h a b h1 h2).1 h3, fun h1 => ⟨by have := h1.1; omega, by have := h1.2.1; omega, (h a b (by have := h1.1; omega) (by have := h1.2.1; omega)).2 h1⟩⟩
  rw [Bool.eq_iff_iff, ringB_iff hl]
  unfold ringedB
  rw [List.any_eq_true]
  constructor
  · rintro ⟨i, _, h2⟩
    have h3 := leadsB_iff.1 h2
    exact ⟨i, by have := (stp_lt h3).1; omega, h3.mono fun x y => (e x y).2⟩
  · rintro ⟨i, _, h2⟩
    have h3 : TC (stp m N) i i := h2.mono fun x y => (e x y).1
    exact ⟨i, List.mem_range.2 (stp_lt h3).1, leadsB_iff.2 h3⟩
end Go.Proofs.YtnbpdffdnphbeaaGreat
