/- Plain: the tokens of a strewn text; how long a frame's texts are. -/
import Derived.Test.YtnbpdffdnphbeaaGreatDoorPItoa
namespace Go.Proofs.YtnbpdffdnphbeaaGreatDoor

theorem all_byte {p : UInt8 → Prop} (h : ∀ n, n < 256 → p (UInt8.ofNat n)) (c : UInt8) : p c := by
  have := h c.toNat (UInt8.toNat_lt c)
  rwa [UInt8.ofNat_toNat] at this
set_option maxRecDepth 100000 in
theorem dig_w : ∀ n, n < 256 → so (UInt8.ofNat n) = 2 → isW [UInt8.ofNat n] = true := by decide +kernel
set_option maxRecDepth 100000 in
theorem mk_any : ∀ m ∈ ([40, 41, 45, 43, 42, 58, 61, 59] : List UInt8), ∀ n, n < 256 → amongB twoMarks [m, UInt8.ofNat n] = false := by decide +kernel
set_option maxRecDepth 100000 in
theorem mk_some : ∀ m ∈ ([60, 62] : List UInt8), ∀ n, n < 256 → isW [UInt8.ofNat n] = true → amongB twoMarks [m, UInt8.ofNat n] = false := by decide +kernel
theorem isW_head (c : UInt8) (r : Bs) : isW (c :: r) = isW [c] := rfl
/-- What may follow a word at once. -/
def NxtOk (w : Bs) (c : UInt8) : Prop := sepB c = true ∨ ((isW [c] = true ∨ so c = 0) ∧ ¬ (isW w = true ∧ isW [c] = true) ∧ ((w = [60] ∨ w = [62]) → isW [c] = true))
structure WdE (w : Bs) : Prop where
  ne : w ≠ []
  so3 : so (w.getD 0 0) ≠ 3
  fin : lenB w = w.length
  nxt : ∀ c r, NxtOk w c → lenB (w ++ c :: r) = w.length
  cls : isW w = true ∨ so (w.getD 0 0) = 0
theorem runL_al (k : Int) (l : Bs) (h : ∀ x ∈ l, so x = k) : runL k l = l.length := by
  induction l with
  | nil => rfl
  | cons x l ih => rw [runL, if_pos (h x (by simp)), ih (fun y hy => h y (by simp [hy])), List.length_cons]
theorem wde_run {w : Bs} (k : Int) (hk : k = 1 ∨ k = 2) (h0 : w ≠ []) (h : ∀ x ∈ w, so x = k) (hw : isW w = true) : WdE w := by
  have hd := wd_run k hk h0 h
  obtain ⟨x, l, rfl⟩ : ∃ x l, w = x :: l := by
    cases w with
    | nil => exact absurd rfl h0
    | cons x l => exact ⟨x, l, rfl⟩
  have hx : so x = k := h x (by simp)
  refine ⟨h0, hd.2.1, ?_, fun c r hc => ?_, .inl hw⟩
  · unfold lenB
    rw [show (x :: l).getD 0 0 = x from rfl, hx, if_neg (by rcases hk with rfl | rfl <;> decide)]
    rw [show (x :: l).drop 1 = l from rfl, runL_al k l (fun y hy => h y (by simp [hy])), List.length_cons, Nat.add_comm]
  · rcases hc with hc | ⟨h1, h2, -⟩
    · exact hd.2.2 c r hc
    · have hs : so c ≠ k := by
        rcases h1 with h1 | h1
        · exact absurd ⟨hw, h1⟩ h2
        · rw [h1]; rcases hk with rfl | rfl <;> decide
      show lenB (x :: (l ++ c :: r)) = _
      unfold lenB
      rw [show (x :: (l ++ c :: r)).getD 0 0 = x from rfl, hx, if_neg (by rcases hk with rfl | rfl <;> decide)]
      rw [show (x :: (l ++ c :: r)).drop 1 = l ++ c :: r from rfl, runL_app k l c r (fun y hy => h y (by simp [hy])) hs, List.length_cons, Nat.add_comm]
theorem wde_mark {m : UInt8} (h : so m = 0) (h3 : m ∈ ([40, 41, 45, 43, 42, 58, 61, 59] : List UInt8) ∨ m ∈ ([60, 62] : List UInt8)) (hd : Wd [m]) : WdE [m] := by
  refine ⟨by simp, hd.2.1, ?_, fun c r hc => ?_, .inr h⟩
  · unfold lenB
    rw [show ([m] : Bs).getD 0 0 = m from rfl, if_pos h]
    rfl
  · have h2 : amongB twoMarks [m, c] = false ∨ sepB c = true := by
      rcases h3 with h3 | h3
      · exact .inl (all_byte (p := fun c => amongB twoMarks [m, c] = false) (mk_any m h3) c)
      · rcases hc with hc | ⟨-, -, hc⟩
        · exact .inr hc
        · have hw : isW [c] = true := hc (by
            rcases List.mem_cons.1 h3 with rfl | h4
            · exact .inl rfl
            · rw [List.mem_singleton.1 h4]; exact .inr rfl)
          exact .inl (all_byte (p := fun c => isW [c] = true → amongB twoMarks [m, c] = false) (mk_some m h3) c hw)
    rcases h2 with h2 | h2
    · show lenB (m :: c :: r) = 1
      unfold lenB
      rw [show (m :: c :: r).getD 0 0 = m from rfl, if_pos h, twoB_two, h2]; rfl
    · exact hd.2.2 c r h2
theorem wde_mark2 {m n : UInt8} (h : so m = 0) (h1 : amongB twoMarks [m, n] = true) : WdE [m, n] := by
  have hd := wd_mark2 h h1
  refine ⟨by simp, hd.2.1, ?_, fun c r _ => ?_, .inr h⟩
  · unfold lenB
    rw [show ([m, n] : Bs).getD 0 0 = m from rfl, if_pos h, twoB_two, h1]; rfl
  · show lenB (m :: n :: c :: r) = 2
    unfold lenB
    rw [show (m :: n :: c :: r).getD 0 0 = m from rfl, if_pos h, twoB_two, h1]; rfl
theorem nmB_w {f : UInt8} (i : Nat) (hf : f = 110 ∨ f = 102 ∨ f = 99 ∨ f = 114) : isW (nmB f i) = true := by
  unfold nmB
  rcases hf with rfl | rfl | rfl | rfl <;> rfl
theorem it_w {n : Int} (h0 : 0 ≤ n) (h1 : n ≤ 9999) : isW (Lib.itoa n) = true := by
  obtain ⟨a1, a2, -⟩ := it_ok h0 h1
  cases h : Lib.itoa n with
  | nil => exact absurd h a1
  | cons c r =>
    rw [isW_head]
    have := a2 c (by rw [h]; simp)
    exact all_byte (p := fun c => so c = 2 → isW [c] = true) dig_w c this
theorem wde_word : WordP WdE := by
  have run : ∀ x : Bs, x ≠ [] → (∀ c ∈ x, so c = 1) → isW x = true → WdE x := fun x h1 h2 h3 => wde_run 1 (.inl rfl) h1 h2 h3
  refine ⟨fun x hx => ?_, fun f i hf hi => run _ (by unfold nmB; simp) (fnm_so hf hi) (nmB_w i hf), fun n h0 h1 => wde_run 2 (.inr rfl) (it_ok h0 h1).1 (it_ok h0 h1).2.1 (it_w h0 h1), fun k hk => ?_⟩
  · have hd := wd_word.fix x hx
    simp only [fixW, List.mem_cons, List.not_mem_nil, or_false] at hx
    rcases hx with rfl | rfl | rfl | rfl | rfl | rfl | rfl | rfl | rfl | rfl | rfl | rfl | rfl | rfl | rfl | rfl | rfl | rfl | rfl
    all_goals first
      | exact run _ (by decide) (by decide) (by decide)
      | exact wde_mark (by decide) (.inl (by decide)) hd
      | exact wde_mark2 (by decide) (by decide)
  · have hd := wd_word.mark k hk
    have h : k = 0 ∨ k = 1 ∨ k = 2 ∨ k = 3 ∨ k = 4 ∨ k = 5 := by omega
    rcases h with rfl | rfl | rfl | rfl | rfl | rfl
    all_goals first
      | exact wde_mark (by decide) (.inl (by decide)) hd
      | exact wde_mark (by decide) (.inr (by decide)) hd
      | exact wde_mark2 (by decide) (by decide)

/-- Behind '<' and '>' there stands a word or a number. -/
def Nbs : List Bs → Prop
  | [] => True
  | w :: r => ((w = [60] ∨ w = [62]) → ∃ x r', r = x :: r' ∧ isW x = true) ∧ Nbs r
theorem Nbs.app {a b : List Bs} (ha : Nbs a) (hb : Nbs b) : Nbs (a ++ b) := by
  induction a with
  | nil => exact hb
  | cons w r ih =>
    refine ⟨fun h => ?_, ih ha.2⟩
    obtain ⟨x, r', e, hx⟩ := ha.1 h
    exact ⟨x, r' ++ b, by rw [e]; rfl, hx⟩
theorem nbs_cons {w : Bs} {r : List Bs} (h1 : w ≠ [60] ∧ w ≠ [62]) (hr : Nbs r) : Nbs (w :: r) := ⟨fun h => h.elim (fun h => absurd h h1.1) (fun h => absurd h h1.2), hr⟩
theorem nbs_nil : Nbs [] := trivial
theorem nbs_ite {p : Prop} [Decidable p] {a b : List Bs} (ha : p → Nbs a) (hb : ¬ p → Nbs b) : Nbs (if p then a else b) := by split <;> rename_i h; exact ha h; exact hb h
theorem nbs_flat {f : Nat → List Bs} (n : Nat) (h : ∀ i, i < n → Nbs (f i)) : Nbs ((List.range n).flatMap f) := by
  induction n with
  | zero => trivial
  | succ n ih =>
    rw [List.range_succ, List.flatMap_append]
    refine (ih fun i hi => h i (by omega)).app ?_
    simpa using h n (by omega)
theorem nbs_flatten {L : List (List Bs)} (h : ∀ l ∈ L, Nbs l) : Nbs L.flatten := by
  induction L with
  | nil => trivial
  | cons l r ih => rw [List.flatten_cons]; exact (h l (by simp)).app (ih fun x hx => h x (List.mem_cons_of_mem _ hx))
theorem nm_no (f : UInt8) (i : Nat) : nmB f i ≠ [60] ∧ nmB f i ≠ [62] := by
  unfold nmB; simp
theorem inp_no (i : Nat) : inpF i ≠ [60] ∧ inpF i ≠ [62] := by unfold inpF; split <;> exact nm_no _ _
theorem it_no {n : Int} (h0 : 0 ≤ n) (h1 : n ≤ 9999) : Lib.itoa n ≠ [60] ∧ Lib.itoa n ≠ [62] := by
  have h := it_w h0 h1
  exact ⟨fun e => by rw [e] at h; exact absurd h (by decide), fun e => by rw [e] at h; exact absurd h (by decide)⟩
theorem inp_w {i : Nat} : isW (inpF i) = true := by
  unfold inpF; split
  · exact nmB_w _ (.inl rfl)
  · exact nmB_w _ (.inr (.inl rfl))
theorem core_nbs {low : List Nat} {t : FTest} (h : TestOk low t) : Nbs (coreW t) := by
  unfold coreW
  rcases h with h | ⟨h, x1, x2⟩ | ⟨h, d, hd, hx⟩ | ⟨h, ⟨x1, x2⟩, ⟨y1, y2⟩, ⟨m1, m2⟩, n1, n2⟩
  · rw [if_pos h]; exact nbs_cons (by decide) trivial
  · rw [if_neg (by omega), if_pos h]; exact nbs_cons (inp_no _) trivial
  · rw [if_neg (by omega), if_neg (by omega), if_pos h]
    exact nbs_cons (by decide) (nbs_cons (nm_no _ _) nbs_nil)
  · rw [if_neg (by omega), if_neg (by omega), if_neg (by omega)]
    exact nbs_ite (fun _ => nbs_cons (inp_no _) ⟨fun _ => ⟨_, _, rfl, it_w n1 n2⟩, nbs_cons (it_no n1 n2) nbs_nil⟩) (fun _ => nbs_cons (inp_no _) ⟨fun _ => ⟨_, _, rfl, inp_w⟩, nbs_cons (inp_no _) nbs_nil⟩)
theorem nbs_opt {x : Bs} (hx : x ≠ [60] ∧ x ≠ [62]) {p : Prop} [Decidable p] : Nbs (if p then [x] else []) := nbs_ite (fun _ => nbs_cons hx nbs_nil) (fun _ => nbs_nil)
theorem tst_nbs {low : List Nat} {t : FTest} (h : TestOk low t) (lo : Bool) : Nbs (tstW t lo) := by
  unfold tstW
  exact (((nbs_opt (by decide)).app (nbs_opt (by decide))).app (core_nbs h)).app (nbs_opt (by decide))
theorem grd_nbs {low : List Nat} {ts : List FTest} (h : TestsOk low ts) (wh lo : Bool) : Nbs (grdW wh ts lo) := by
  unfold grdW tstsN
  refine (((nbs_opt (by decide)).app (nbs_opt (by decide))).app (nbs_flat _ fun i hi => ?_)).app (nbs_opt (by decide))
  refine Nbs.app ?_ (tst_nbs (h.2.2 _ (gd_mem ft0 hi)) lo)
  unfold joinW
  exact nbs_ite (fun _ => nbs_nil) (fun _ => nbs_ite (fun _ => nbs_cons (by decide) nbs_nil) (fun _ => nbs_cons (by decide) nbs_nil))
theorem sum_nbs {low : List Nat} {ps : List FPart} (h : PartsOk low ps) : Nbs (sumW ps) := by
  unfold sumW sumWN
  refine nbs_flat _ fun i hi => ?_
  have hp := h.2.2 _ (gd_mem fp0 hi)
  generalize ps.getD i fp0 = p at *
  unfold partW signW timesW starW nameW
  refine (((nbs_ite (fun _ => nbs_nil) (fun _ => nbs_ite (fun _ => nbs_cons (by decide) nbs_nil) (fun _ => nbs_cons (by decide) nbs_nil))).app (nbs_ite (fun hc => nbs_cons ?_ nbs_nil) (fun _ => nbs_nil))).app (nbs_opt (by decide))).app (nbs_ite (fun hn => nbs_cons (inp_no _) nbs_nil) (fun _ => nbs_ite (fun hh => nbs_cons (nm_no _ _) nbs_nil) (fun _ => nbs_nil)))
  rcases hp with ⟨-, h1, -, -⟩ | ⟨h0, h1, -⟩ | ⟨-, h1, -⟩ | ⟨h1, -, -⟩
  · exact it_no h1.1 h1.2
  · rcases hc with hc | hc
    · exact absurd (hc.symm.trans h0) (by simp)
    · omega
  · exact it_no h1.1 (by omega)
  · exact it_no h1.1 (by omega)
theorem lines_nbs {M : FMade} (h : MadeOk M) (lo : Bool) : Nbs (linesW M lo).flatten := nbs_flatten fun l hl => by
  unfold linesW at hl
  rcases List.mem_append.1 hl with hl | hl
  · rcases List.mem_append.1 hl with hl | hl
    · obtain ⟨i, hi, rfl⟩ := List.mem_map.1 hl
      unfold inLn
      split
      · rename_i h3
        have := h.nums i h3
        exact nbs_cons (by decide) (nbs_cons (inp_no _) (nbs_cons (it_no (by omega) (by omega)) (nbs_cons (by decide) (nbs_cons (it_no (by omega) (by omega)) (nbs_cons (by decide) nbs_nil)))))
      · exact nbs_cons (by decide) (nbs_cons (inp_no _) (nbs_cons (by decide) nbs_nil))
    · obtain ⟨i, hi, rfl⟩ := List.mem_map.1 hl
      have hr := h.rules _ (gd_mem fr0 (List.mem_range.1 hi))
      generalize M.rules.getD i fr0 = r at *
      have q1 : Nbs [[114, 117, 108, 101], nmB 114 i, [58], nmB 99 r.head, [61]] := nbs_cons (by decide) (nbs_cons (nm_no _ _) (nbs_cons (by decide) (nbs_cons (nm_no _ _) (nbs_cons (by decide) nbs_nil))))
      unfold rulW
      exact (((q1.app (sum_nbs hr.parts)).app (nbs_cons (by decide) nbs_nil)).app (grd_nbs hr.tests _ _)).app (nbs_cons (by decide) nbs_nil)
  · obtain ⟨i, hi, hl⟩ := List.mem_flatMap.1 hl
    unfold fovN at hl
    obtain ⟨j, hj, hl⟩ := List.mem_flatMap.1 hl
    split at hl
    · rw [List.mem_singleton.1 hl]
      exact nbs_cons (by decide) (nbs_cons (nm_no _ _) (nbs_cons (nm_no _ _) (nbs_cons (by decide) nbs_nil)))
    · cases hl

/-- Gaps ahead of tokens. -/
def GapL : Bs → List Bs → List Bs → Prop
  | _, [], [] => True
  | p, g :: gs, x :: xs => GapOk p x g ∧ GapL x gs xs
  | _, _, _ => False
theorem gapL_of (ws : List Bs) : ∀ (gs : List Bs) (p : Bs), gs.length = ws.length → (∀ i, i < ws.length → GapOk ((p :: ws).getD i []) (ws.getD i []) (gs.getD i [])) → GapL p gs ws := by
  induction ws with
  | nil => intro gs p h _; cases gs with
    | nil => trivial
    | cons _ _ => cases h
  | cons x xs ih => intro gs p h hg; cases gs with
    | nil => cases h
    | cons g gs => exact ⟨hg 0 (by simp), ih gs x (by simpa using h) fun i hi => hg (i + 1) (by simpa using hi)⟩
theorem Str.gaps {ws : List Bs} {s last : Bs} {gs : List Bs} (h : Str ws s last gs) : GapL [59] gs ws := gapL_of ws gs [59] h.len h.gap
theorem tw_gap {p x g : Bs} (h : GapOk p x g) (r : Bs) : tw (g ++ r) = tw r := by
  rcases h with ⟨rfl, -⟩ | rfl | rfl | rfl
  · rfl
  · exact tw_blank r (by decide)
  · exact tw_blank r (by decide)
  · rw [show ([32, 10, 32] : Bs) ++ r = 32 :: 10 :: 32 :: r from rfl, tw_blank _ (by decide), tw_blank _ (by decide), tw_blank _ (by decide)]
theorem tw_step {w : Bs} (h0 : w ≠ []) (h3 : so (w.getD 0 0) ≠ 3) (r : Bs) (hl : lenB (w ++ r) = w.length) : tw (w ++ r) = w :: tw r := by
  have hg : (w ++ r).getD 0 0 = w.getD 0 0 := by
    cases w with
    | nil => exact absurd rfl h0
    | cons x l => rfl
  rw [show tw (w ++ r) = (pieces (w ++ r).length (w ++ r) 0).map Prod.snd from rfl]
  rw [pieces_fuel _ ((w ++ r).length + 1) _ _ (Nat.le_refl _) (by omega), pieces, if_neg (by simp [h0]), if_neg (by rw [hg]; exact h3), hl]
  rw [List.map_cons, List.take_left' rfl, List.drop_left' rfl, tw_fuel _ (by simp)]
theorem tw_strewn (ws : List Bs) : ∀ (gs : List Bs) (p : Bs), GapL p gs ws → (∀ w ∈ ws, WdE w) → Nbs ws → tw (catG gs ws) = ws := by
  induction ws with
  | nil => intro gs p h _ _; cases gs with
    | nil => rfl
    | cons _ _ => exact absurd h id
  | cons x xs ih =>
    intro gs p h hw hn
    cases gs with
    | nil => exact absurd h id
    | cons g gs =>
      have hx := hw x (by simp)
      have hi := ih gs x h.2 (fun w hm => hw w (List.mem_cons_of_mem _ hm)) hn.2
      rw [catG, List.append_assoc, tw_gap h.1]
      refine (tw_step hx.ne hx.so3 _ ?_).trans (by rw [hi])
      cases xs with
      | nil => cases gs with
        | nil =>
          show lenB (x ++ []) = _
          rw [List.append_nil]; exact hx.fin
        | cons _ _ => exact absurd h.2 id
      | cons y ys => cases gs with
        | nil => exact absurd h.2 id
        | cons g' gs' =>
          have hy := hw y (by simp)
          have hg := h.2.1
          have hnx := hn.1
          obtain ⟨c, r, rfl⟩ : ∃ c r, y = c :: r := by
            cases y with
            | nil => exact absurd rfl hy.ne
            | cons c r => exact ⟨c, r, rfl⟩
          rw [catG]
          rcases hg with ⟨rfl, hg⟩ | rfl | rfl | rfl
          · rw [List.nil_append, List.cons_append]
            refine hx.nxt c _ (.inr ⟨?_, ?_, fun e => ?_⟩)
            · exact hy.cls
            · exact hg
            · obtain ⟨x', r', e', hw'⟩ := hnx e
              injection e' with e1 e2
              rw [← e1] at hw'
              exact hw'
          · exact hx.nxt 32 _ (.inl rfl)
          · exact hx.nxt 10 _ (.inl rfl)
          · exact hx.nxt 32 _ (.inl rfl)
/-- The tokens of a frame's strewn text. -/
theorem strewn_tw {M : FMade} (h : MadeOk M) (lo : Bool) {s last : Bs} {gs : List Bs} (hs : Str (linesW M lo).flatten s last gs) : tw s = (linesW M lo).flatten := by
  rw [hs.txt]
  refine tw_strewn _ gs [59] hs.gaps (fun w hw => ?_) (lines_nbs h lo)
  obtain ⟨l, hl, hwl⟩ := List.mem_flatten.1 hw
  exact lines_all wde_word h lo l hl w hwl

/- How long the texts are. -/
def cst : List Bs → Nat
  | [] => 0
  | w :: r => w.length + 3 + cst r
theorem cst_app (a b : List Bs) : cst (a ++ b) = cst a + cst b := by
  induction a with
  | nil => simp [cst]
  | cons w r ih => simp only [List.cons_append, cst]; rw [ih]; omega
theorem cst_flat {β : Type} {f : β → List Bs} {B : Nat} (zs : List β) (h : ∀ z ∈ zs, cst (f z) ≤ B) : cst (zs.flatMap f) ≤ zs.length * B := by
  induction zs with
  | nil => simp [cst]
  | cons z r ih =>
    rw [List.flatMap_cons, cst_app, List.length_cons, Nat.succ_mul]
    have := h z (by simp)
    have := ih fun x hx => h x (List.mem_cons_of_mem _ hx)
    omega
theorem cst_ite {p : Prop} [Decidable p] {a b : List Bs} {B : Nat} (ha : p → cst a ≤ B) (hb : ¬ p → cst b ≤ B) : cst (if p then a else b) ≤ B := by split <;> rename_i h; exact ha h; exact hb h
theorem cat_len (ws : List Bs) : ∀ (gs : List Bs) (p : Bs), GapL p gs ws → (catG gs ws).length ≤ cst ws := by
  induction ws with
  | nil => intro gs p h; cases gs with
    | nil => exact Nat.le_refl _
    | cons _ _ => exact absurd h id
  | cons x xs ih => intro gs p h; cases gs with
    | nil => exact absurd h id
    | cons g gs =>
      have h1 := ih gs x h.2
      have h2 : g.length ≤ 3 := by rcases h.1 with ⟨rfl, -⟩ | rfl | rfl | rfl <;> simp
      rw [catG, List.length_append, List.length_append, cst]; omega
theorem wrL_len (r : List Bs) : (wrL r).length ≤ cst r + 1 := by
  induction r with
  | nil => simp [wrL, cst]
  | cons w r ih =>
    have h : (if w = [59] then w else 32 :: w).length ≤ w.length + 1 := by
      split
      · omega
      · rw [List.length_cons]; exact Nat.le_refl _
    rw [wrL, List.length_append, cst]; omega
theorem wrLine_len {l : List Bs} (h : 0 < l.length) : (wrLine l).length ≤ cst l := by
  cases l with
  | nil => simp at h
  | cons w r => have := wrL_len r; rw [wrLine, List.length_append, cst]; omega
theorem wrB_len (L : List (List Bs)) (h : ∀ l ∈ L, 0 < l.length) : (wrB L).length ≤ cst L.flatten := by
  induction L with
  | nil => simp [wrB, cst]
  | cons l r ih =>
    have h1 := ih fun x hx => h x (List.mem_cons_of_mem _ hx)
    have h2 := wrLine_len (h l (by simp))
    unfold wrB at h1 ⊢
    rw [List.flatMap_cons, List.length_append, List.flatten_cons, cst_app]; omega
theorem nmF_len (f : UInt8) (i : Nat) : (nmB f i).length = 2 := rfl
theorem inpF_len (i : Nat) : (inpF i).length = 2 := by unfold inpF; split <;> rfl
theorem it_one {n : Int} (h0 : 0 ≤ n) (h1 : n ≤ 9) : (Lib.itoa n).length = 1 := by
  rw [it_dec h0, Lib.decDigits_one (by omega)]; rfl
theorem mkF_len {k : Nat} (hk : k < 6) : (mkF k).length ≤ 2 := (show ∀ k, k < 6 → (mkF k).length ≤ 2 by decide) k hk
theorem body_cst {low : List Nat} {p : FPart} (h : PartOk low p) : cst (bodyW p) ≤ 13 := by
  obtain ⟨mi, ti, n, nu, hd⟩ := p
  rcases h with ⟨h0, h1, h2, h3⟩ | ⟨h0, h1, h2⟩ | ⟨h0, h1, h2, h3⟩ | ⟨h1, h2, d, hd4, h3⟩
  · simp only at h0 h1 h2 h3
    subst h0 h2 h3
    have e : bodyW ⟨mi, false, n, -1, -1⟩ = [Lib.itoa n] := by simp [bodyW, timesW, starW, nameW]
    have := (it_ok h1.1 h1.2).2.2.1
    rw [e]; simp only [cst]; omega
  · simp only at h0 h1 h2
    subst h0 h2
    have e : bodyW ⟨mi, false, n, nu, -1⟩ = [inpF nu.toNat] := by simp [bodyW, timesW, starW, nameW, h1.1]
    rw [e]; simp only [cst, inpF_len]; omega
  · simp only at h0 h1 h2 h3
    subst h0 h3
    have e : bodyW ⟨mi, true, n, nu, -1⟩ = [Lib.itoa n, [42], inpF nu.toNat] := by simp [bodyW, timesW, starW, nameW, h2.1]
    rw [e]; simp only [cst, inpF_len, it_one h1.1 h1.2, List.length_cons, List.length_nil]; omega
  · simp only at h1 h2 h3
    subst h2 h3
    cases ti
    · have e : bodyW ⟨mi, false, n, -1, d⟩ = [nmB 99 d] := by simp [bodyW, timesW, starW, nameW]
      rw [e]; simp only [cst, nmF_len]; omega
    · have e : bodyW ⟨mi, true, n, -1, d⟩ = [Lib.itoa n, [42], nmB 99 d] := by simp [bodyW, timesW, starW, nameW]
      rw [e]; simp only [cst, nmF_len, it_one h1.1 h1.2, List.length_cons, List.length_nil]; omega
theorem sum_cst {low : List Nat} {ps : List FPart} (h : PartsOk low ps) : cst (sumW ps) ≤ 64 := by
  cases ps with
  | nil => exact absurd h.1 (by simp)
  | cons p r =>
    rw [sumW_eq, cst_app]
    have h1 := body_cst (h.2.2 p (by simp))
    have h2 : cst (tailW r) ≤ r.length * 17 := cst_flat r fun q hq => by
      have := body_cst (h.2.2 q (List.mem_cons_of_mem _ hq))
      have h3 : cst (signB q) = 4 := by unfold signB; split <;> rfl
      rw [cst_app]; omega
    have h3 := h.2.1
    rw [List.length_cons] at h3
    omega
theorem core_cst {low : List Nat} {t : FTest} (h : TestOk low t) : cst (coreW t) ≤ 17 := by
  unfold coreW
  rcases h with h | ⟨h, x1, x2⟩ | ⟨h, d, hd, hx⟩ | ⟨h, ⟨x1, x2⟩, ⟨y1, y2⟩, ⟨m1, m2⟩, n1, n2⟩
  · rw [if_pos h]; decide
  · rw [if_neg (by omega), if_pos h]; simp only [cst, inpF_len]; omega
  · rw [if_neg (by omega), if_neg (by omega), if_pos h]
    have : kHasW.length = 3 := rfl
    simp only [cst, nmF_len, this]; omega
  · rw [if_neg (by omega), if_neg (by omega), if_neg (by omega)]
    have hm := mkF_len (k := t.mark.toNat) (by omega)
    have hi := (it_ok n1 n2).2.2.1
    exact cst_ite (fun _ => by simp only [cst, inpF_len]; omega) (fun _ => by simp only [cst, inpF_len]; omega)
theorem opt_cst {x : Bs} {B : Nat} (hx : x.length + 3 ≤ B) {p : Prop} [Decidable p] : cst (if p then [x] else []) ≤ B := cst_ite (fun _ => by simp only [cst]; omega) (fun _ => by simp only [cst]; omega)
theorem tst_cst {low : List Nat} {t : FTest} (h : TestOk low t) (lo : Bool) : cst (tstW t lo) ≤ 31 := by
  unfold tstW
  rw [cst_app, cst_app, cst_app]
  have h1 := core_cst h
  have h2 : cst (if t.not = true then [[110, 111, 116]] else []) ≤ 6 := opt_cst (by decide)
  have h3 : cst (if (lo && t.pair) = true then [[40]] else []) ≤ 4 := opt_cst (by decide)
  have h4 : cst (if (lo && t.pair) = true then [[41]] else []) ≤ 4 := opt_cst (by decide)
  omega
theorem grd_cst {low : List Nat} {ts : List FTest} (h : TestsOk low ts) (wh lo : Bool) : cst (grdW wh ts lo) ≤ 236 := by
  unfold grdW tstsN
  rw [cst_app, cst_app, cst_app]
  have h1 : cst ((List.range ts.length).flatMap fun j => joinW j (ts.getD j ft0) ++ tstW (ts.getD j ft0) lo) ≤ (List.range ts.length).length * 37 := cst_flat _ fun j hj => by
    have := tst_cst (h.2.2 _ (gd_mem ft0 (List.mem_range.1 hj))) lo
    have h3 : cst (joinW j (ts.getD j ft0)) ≤ 6 := by unfold joinW; exact cst_ite (fun _ => by decide) (fun _ => cst_ite (fun _ => by decide) (fun _ => by decide))
    rw [cst_app]; omega
  have hl := h.2.1
  rw [List.length_range] at h1
  have h2 : cst (if wh = true then [[110, 111, 116]] else []) ≤ 6 := opt_cst (by decide)
  have h3 : cst (if innW wh lo ts.length = true then [[40]] else []) ≤ 4 := opt_cst (by decide)
  have h4 : cst (if innW wh lo ts.length = true then [[41]] else []) ≤ 4 := opt_cst (by decide)
  omega
theorem rul_cst {heads : List Nat} {r : FRule} (h : RuleOk heads r) (i : Nat) (lo : Bool) : cst (rulW r i lo) ≤ 336 := by
  unfold rulW
  rw [cst_app, cst_app, cst_app, cst_app]
  have h1 := sum_cst h.parts
  have h2 := grd_cst h.tests r.whole lo
  have h3 : cst [[114, 117, 108, 101], nmB 114 i, [58], nmB 99 r.head, [61]] = 25 := rfl
  have h4 : cst [[119, 104, 101, 110]] = 7 := rfl
  have h5 : cst [[59]] = 4 := rfl
  omega
theorem flat_mono {β γ δ : Type} (zs : List β) {f : β → List γ} {g : β → List δ} (h : ∀ z ∈ zs, (f z).length ≤ (g z).length) : (zs.flatMap f).length ≤ (zs.flatMap g).length := by
  induction zs with
  | nil => simp
  | cons z r ih =>
    rw [List.flatMap_cons, List.flatMap_cons, List.length_append, List.length_append]
    have := h z (by simp)
    have := ih fun x hx => h x (List.mem_cons_of_mem _ hx)
    omega
theorem pairs_28 : ∀ n, n < 9 → ((List.range n).flatMap fun i => (List.range n).flatMap fun k => if i < k then [(i, k)] else []).length ≤ 28 := by decide
theorem ov_few {M : FMade} (h : MadeOk M) : ((List.range M.rules.length).flatMap fun i => fovN M i M.rules.length).length ≤ 28 := by
  have h8 := h.few
  refine Nat.le_trans (flat_mono (g := fun i => (List.range M.rules.length).flatMap fun k => if i < k then [(i, k)] else []) _ fun i hi => ?_) (pairs_28 M.rules.length (by omega))
  unfold fovN
  refine flat_mono _ fun k hk => ?_
  split
  · rename_i ho
    rw [if_pos (h.over i k ho).1]
    exact Nat.le_refl _
  · exact Nat.zero_le _
theorem cst_flatten {L : List (List Bs)} {B : Nat} (h : ∀ l ∈ L, cst l ≤ B) : cst L.flatten ≤ L.length * B := by
  have := cst_flat (f := id) L h
  rwa [List.flatMap_id] at this
theorem lines_cst {M : FMade} (h : MadeOk M) (lo : Bool) : cst (linesW M lo).flatten ≤ 4000 := by
  have h8 := h.few
  unfold linesW
  rw [List.flatten_append, List.flatten_append, cst_app, cst_app]
  have h1 : cst ((List.range 5).map (inLn M)).flatten ≤ 170 := by
    refine Nat.le_trans (cst_flatten (B := 34) fun l hl => ?_) (by simp)
    obtain ⟨i, hi, rfl⟩ := List.mem_map.1 hl
    unfold inLn
    refine cst_ite (fun h3 => ?_) (fun _ => by simp only [cst, inpF_len, List.length_cons, List.length_nil]; omega)
    have := h.nums i h3
    have h4 := (it_ok (n := M.lo i) (by omega) (by omega)).2.2.1
    have h5 := (it_ok (n := M.hi i) (by omega) (by omega)).2.2.1
    simp only [cst, inpF_len, List.length_cons, List.length_nil]; omega
  have h2 : cst ((List.range M.rules.length).map fun i => rulW (M.rules.getD i fr0) i lo).flatten ≤ M.rules.length * 336 := by
    refine Nat.le_trans (cst_flatten (B := 336) fun l hl => ?_) (by simp)
    obtain ⟨i, hi, rfl⟩ := List.mem_map.1 hl
    exact rul_cst (h.rules _ (gd_mem fr0 (List.mem_range.1 hi))) i lo
  have h3 : cst ((List.range M.rules.length).flatMap fun i => fovN M i M.rules.length).flatten ≤ 28 * 21 := by
    refine Nat.le_trans (cst_flatten (B := 21) fun l hl => ?_) (Nat.mul_le_mul_right _ (ov_few h))
    obtain ⟨i, hi, hl⟩ := List.mem_flatMap.1 hl
    unfold fovN at hl
    obtain ⟨j, hj, hl⟩ := List.mem_flatMap.1 hl
    split at hl
    · rw [List.mem_singleton.1 hl]; simp only [ovLn, cst, nmF_len, List.length_cons, List.length_nil]; omega
    · cases hl
  omega
theorem strewn_len {M : FMade} (h : MadeOk M) (lo : Bool) {s last : Bs} {gs : List Bs} (hs : Str (linesW M lo).flatten s last gs) : s.length ≤ 4000 := by
  rw [hs.txt]
  exact Nat.le_trans (cat_len _ gs [59] hs.gaps) (lines_cst h lo)
theorem line_pos {M : FMade} (lo : Bool) : ∀ l ∈ linesW M lo, 0 < l.length := fun l hl => by
  unfold linesW at hl
  rcases List.mem_append.1 hl with hl | hl
  · rcases List.mem_append.1 hl with hl | hl
    · obtain ⟨i, hi, rfl⟩ := List.mem_map.1 hl
      unfold inLn
      split <;> simp
    · obtain ⟨i, hi, rfl⟩ := List.mem_map.1 hl
      unfold rulW; simp
  · obtain ⟨i, hi, hl⟩ := List.mem_flatMap.1 hl
    unfold fovN at hl
    obtain ⟨j, hj, hl⟩ := List.mem_flatMap.1 hl
    split at hl
    · rw [List.mem_singleton.1 hl]; unfold ovLn; simp
    · cases hl
theorem text_len {M : FMade} (h : MadeOk M) (lo : Bool) : (wrB (linesW M lo)).length ≤ 4000 := Nat.le_trans (wrB_len _ (line_pos lo)) (lines_cst h lo)
end Go.Proofs.YtnbpdffdnphbeaaGreatDoor
