/- Plain functions: the lines of tokens, and the text that the document's answer makes of them. -/
import Derived.Test.YtnbpdffdnphbeaaGreatDoorForm
import Derived.Test.YtnbpdffdnphbeaaGreatDoorTidied
namespace Go.Proofs.YtnbpdffdnphbeaaGreatDoor

/-- The lines of tokens: where each begins, and how long it is. -/
def linesG : Toks → Nat → Nat → List (Nat × Nat)
  | [], _, _ => []
  | t :: r, i, a => if clsB t.2 = kEnd then (a, i - a) :: linesG r (i + 1) (i + 1) else linesG r (i + 1) a

def linesB (ts : Toks) : List (Nat × Nat) := linesG ts 0 0

theorem linesG_len (ts : Toks) : ∀ i a, (linesG ts i a).length ≤ ts.length := by
  induction ts with
  | nil => intro i a; simp [linesG]
  | cons t r ih => intro i a; rw [linesG]; split <;> simp <;> have := ih (i + 1) (i + 1) <;> have := ih (i + 1) a <;> omega

/-- The tokens of a line. -/
def segT (ts : Toks) (p : Nat × Nat) : Toks := (ts.drop p.1).take p.2

/-- What a line becomes. -/
def lineText (n : Nat) (u : Toks) : Bs :=
  if clsB (u.getD 0 (0, [])).2 = kRule then gluedB (u.take ((whenB u).toNat + 1)) ++ [32] ++ (tidG n (u.drop ((whenB u).toNat + 1))).1 else gluedB u

/-- A line of which the document's answer makes its text without a fault. -/
def goodL (n : Nat) (u : Toks) : Prop :=
  0 < u.length ∧ (clsB (u.getD 0 (0, [])).2 = kRule → 0 ≤ whenB u ∧ whenB u + 1 < u.length ∧ goodT n (u.drop ((whenB u).toNat + 1)) = true)

def textG (n : Nat) (ts : Toks) : List (Nat × Nat) → Bs → Bs
  | [], s => s
  | p :: r, s => textG n ts r (s ++ lineText n (segT ts p) ++ [59, 10])

/-- What lines cost, in bytes, at most. -/
def costL (ts : Toks) : List (Nat × Nat) → Nat
  | [] => 0
  | p :: r => 20 * (szT (segT ts p) + 1) + costL ts r

theorem lineText_len (n : Nat) (u : Toks) : (lineText n u).length + 2 ≤ 20 * (szT u + 1) := by
  unfold lineText
  split
  · have h1 := gluF_len (u.take ((whenB u).toNat + 1)) [] 0
    have h2 := tidG_len n (u.drop ((whenB u).toNat + 1))
    have h3 := szT_take_drop u ((whenB u).toNat + 1)
    simp only [gluedB, List.length_append, List.length_cons, List.length_nil] at h1 ⊢
    omega
  · have h1 := gluF_len u [] 0
    simp only [gluedB]; simp only [List.length_nil] at h1; omega

theorem costL_le (ts : Toks) (m : Nat) : ∀ (i a : Nat), ts.length - i = m → a ≤ i → costL ts (linesG (ts.drop i) i a) ≤ 20 * szT (ts.drop a) := by
  induction m with
  | zero =>
    intro i a h _
    rw [List.drop_eq_nil_of_le (by omega), linesG, costL]; omega
  | succ m ih =>
    intro i a h ha
    rw [drop_consT ts i (by omega), linesG]
    split
    · rw [costL]
      have h1 := ih (i + 1) (i + 1) (by omega) (Nat.le_refl _)
      have h2 := szT_take_drop (ts.drop a) (i - a)
      rw [List.drop_drop, show a + (i - a) = i by omega, drop_consT ts i (by omega), szT] at h2
      simp only [segT]
      omega
    · exact ih (i + 1) a (by omega) (by omega)

theorem costL_all (ts : Toks) : costL ts (linesB ts) ≤ 20 * szT ts := by
  have := costL_le ts ts.length 0 0 (by omega) (Nat.le_refl _)
  simpa [linesB] using this

theorem linesG_in (m : Nat) (ts : Toks) : ∀ (i a : Nat), ts.length - i = m → a ≤ i → ∀ p ∈ linesG (ts.drop i) i a, p.1 + p.2 < ts.length := by
  induction m with
  | zero =>
    intro i a h _ p hp
    rw [List.drop_eq_nil_of_le (by omega), linesG] at hp; simp at hp
  | succ m ih =>
    intro i a h ha p hp
    rw [drop_consT ts i (by omega), linesG] at hp
    split at hp
    · rcases List.mem_cons.1 hp with rfl | hp
      · simp only; omega
      · exact ih (i + 1) (i + 1) (by omega) (Nat.le_refl _) p hp
    · exact ih (i + 1) a (by omega) (by omega) p hp

theorem linesB_in (ts : Toks) : ∀ p ∈ linesB ts, p.1 + p.2 < ts.length := by
  have := linesG_in ts.length ts 0 0 (by omega) (Nat.le_refl _)
  simpa [linesB] using this

/-- The bytes of tokens, and one more for each, are no more than twice the text's. -/
theorem pieces_sz (n : Nat) : ∀ (l : Bs) (p : Nat), szT (pieces n l p) ≤ 2 * l.length := by
  induction n with
  | zero => intro l p; simp [pieces, szT]
  | succ n ih =>
    intro l p
    simp only [pieces]
    split
    · simp [szT]
    · split
      · have := ih (l.drop 1) (p + 1); rw [List.length_drop] at this; omega
      · rename_i h0 _
        have h1 := ih (l.drop (lenB l)) (p + lenB l); have h2 := lenB_pos l; have h3 := lenB_le (l := l) (by omega)
        rw [List.length_drop] at h1
        simp only [szT, List.length_take]
        omega

theorem toksAt_sz (l : Bs) : szT (toksAt l 0) ≤ 2 * l.length := by
  have := pieces_sz l.length l 0; simpa [toksAt] using this

/-- The document's Tidy of a text. -/
def tidyT (n : Nat) (l : Bs) : Bs := textG n (toksAt l 0) (linesB (toksAt l 0)) []

end Go.Proofs.YtnbpdffdnphbeaaGreatDoor

/- What Lines of the document's answer gives of a text: each line as a piece of the row of tokens. -/
namespace Go.Proofs.YtnbpdffdnphbeaaGreatDoor
open Go.RowKit

/-- The cell of a line. -/
def rlineV (g cap : Nat) (p : Nat × Nat) : Value := .slice (some ⟨g, p.1 * 3, none⟩) p.2 (cap - p.1)

theorem infoToks : (Tryz.prog.info? 194).map (fun i => (i.zero, i.size, i.bytes)) = some (some (.slice none 0 0), 1, 24) := by kernel_rfl

theorem owns_base {w : World} {b b' : Nat} {e : TypeId} {size : Nat} {v : Value} {n : Nat} {xs : List Value} (h : w.ownsRow b e size v n xs) (hb : b' ≤ b) : w.ownsRow b' e size v n xs := by
  refine ⟨h.1, ?_⟩
  rcases h.2 with h1 | ⟨g, cap, cur, h1, h2, r⟩
  · exact .inl h1
  · exact .inr ⟨g, cap, cur, h1, Nat.le_trans hb h2, r⟩

theorem SegR.below {w w' : World} {g o B : Nat} {ts : Toks} (h : SegR w g o ts) (hb : Below B w w') (hg : g < B) : SegR w' g o ts := by
  intro i hi
  obtain ⟨a, b, c⟩ := h i hi
  exact ⟨by rw [hb.cell (p := ⟨g, _, none⟩) hg]; exact a, by rw [hb.cell (p := ⟨g, _, none⟩) hg]; exact b, by rw [hb.cell (p := ⟨g, _, none⟩) hg]; exact c⟩

theorem own_block_le {w : World} {B : Nat} {e : TypeId} {size : Nat} {v : Value} {n : Nat} {xs : List Value} (hown : w.ownsRow B e size v n xs) : ∀ k, v.ownBlock = some k → B ≤ k := by
  intro k hk
  rcases hown.2 with ⟨h1, _⟩ | ⟨g, cap, cur, h1, h2, _⟩
  · rw [h1] at hk; simp [Value.ownBlock] at hk
  · rw [h1] at hk; simp [Value.ownBlock] at hk; omega

/-- Lines lie in memory: a row of pieces of a row of tokens. -/
def LinesIs (w w' : World) (v : Value) (ts : Toks) : Prop := ∃ g cap, SegR w' g 0 ts ∧ ts.length ≤ cap ∧ cap ≤ maxLen ∧ w'.ownsRow w.heap.size 194 1 v (linesB ts).length ((linesB ts).map (rlineV g cap))

set_option maxHeartbeats 1000000 in
theorem Lines_any (l : Bs) (w : World) (hl : l.length ≤ 4000) :
    Calls Tryz.prog 63 #[.string ⟨l.toArray⟩] w fun e w' => ∃ v, e = .returned v ∧ LinesIs w w' v (toksAt l 0) ∧ Below w.heap.size w w' := by
  obtain ⟨i0, hi0, hz0, hz1, hz2⟩ := info_parts infoToks
  have HTok := hideP (Tokens_any l w hl)
  have hts := toksAt_len l 0
  generalize toksAt l 0 = ts at *
  go_enter Tryz.func63, Tryz.ntmps63
  go_wp2_with (go_at_call 109; refine HTok.out.mono ?_; rintro e w1 ⟨v, rfl, hown, hbel⟩)
  clear HTok
  obtain ⟨B, hB⟩ : ∃ B, B = w1.heap.size := ⟨_, rfl⟩
  have HB : Hid (B = w1.heap.size) := hB
  rcases owns_seg hown with ⟨rfl, rfl⟩ | ⟨g, cap, rfl, _, hg1, hcap, hmax, hseg⟩
  · clear hown hts hB
    go_loop [4, 5, 6] (fun ov av iv => ov = .slice none 0 0 ∧ av = .int .i64 0 ∧ iv = .int .i64 0) (fun _ _ _ => 0)
    case atStart => exact ⟨rfl, rfl, rfl⟩
    case round =>
      obtain ⟨rfl, rfl, rfl⟩ := hrel
      go_wp2_with fail
      go_ret
      exact ⟨_, rfl, ⟨0, 0, (fun i hi => by simp at hi), Nat.zero_le _, Nat.zero_le _, World.ownsRow_nil _ _ _ _⟩, hbel⟩
  · have HS : Hid (SegR w1 g 0 ts) := hseg
    have HG : Hid (g < w1.heap.size) := hg1
    clear hown hseg hB hg1
    go_loopw [4, 5, 6] (fun ov av iv wr => ∃ (i a : Nat) (ls : List (Nat × Nat)), i ≤ ts.length ∧ a ≤ i ∧ av = .int .i64 a ∧ iv = .int .i64 i ∧ ls.length ≤ i ∧ wr.ownsRow B 194 1 ov ls.length (ls.map (rlineV g cap)) ∧ Below B w1 wr ∧ Hid (ls ++ linesG (ts.drop i) i a = linesB ts)) (fun _ _ iv _ => ts.length - (intOf iv).toNat)
    case atStart => exact ⟨0, 0, [], Nat.zero_le _, Nat.le_refl _, rfl, rfl, Nat.le_refl _, World.ownsRow_nil _ _ _ _, Below.refl _ _, rfl⟩
    case round =>
      obtain ⟨i, a, ls, hi, hai, rfl, rfl, hls, hownr, hbr, HI⟩ := hrel
      by_cases hlt : i < ts.length
      · obtain ⟨_, _, hc2⟩ := (HS.out.below hbr (by rw [HB.out]; exact HG.out)) i hlt
        have HD : Hid (ts.drop i = ts.getD i (0, []) :: ts.drop (i + 1)) := drop_consT ts i hlt
        obtain ⟨cl, hcl⟩ : ∃ cl, clsB (ts.getD i (0, [])).2 = cl := ⟨_, rfl⟩
        rw [hcl] at hc2
        simp only [Nat.zero_add] at hc2
        have HI2 : Hid (ls ++ (if cl = kEnd then (a, i - a) :: linesG (ts.drop (i + 1)) (i + 1) (i + 1) else linesG (ts.drop (i + 1)) (i + 1) a) = linesB ts) := by
          have := HI.out; rw [HD.out, linesG, hcl] at this; exact this
        have hBw : B ≤ wr.heap.size := by have h5 := hbr.size; have h6 := HB.out; omega
        clear HI HD hcl
        by_cases k1 : cl = kEnd
        · have HE : Hid ((ls ++ [(a, i - a)]) ++ linesG (ts.drop (i + 1)) (i + 1) (i + 1) = linesB ts) := by have := HI2.out; rw [if_pos k1] at this; rw [Hid, List.append_assoc]; exact this
          have b1 : (cl == [59]) = true := by rw [k1]; rfl
          clear HI2 k1
          go_wp2_with (at_builtin; refine wpList_append_own _ rfl _ _ 116 rfl B 194 i0 _ 1 24 Tryz.underlying116 hi0 hz0 hz1 hz2 rfl (by decide) _ _ _ rfl (hownr.alloc _) ⟨wr.heap.size, 0, none⟩ 1 1 [rlineV g cap (a, i - a)] rfl rfl ?c1 ?c2 ?c3 ?c4 ?c5 ?_)
          case c1 => exact news_cells _ _ _ _ rfl
          case c2 => intro u hu; simp at hu; subst hu; rfl
          case c3 => unfold maxLen; omega
          case c4 => omega
          case c5 => simp; omega
          intro v' w2 hown1 hgrow _
          have hbel1 : Below B w1 w2 := (hbr.alloc hBw _).grown hgrow (by simp; omega) (own_block_le hownr)
          clear hownr hbr hgrow
          go_wp2
          go_roundw
          case rel => exact ⟨i + 1, i + 1, ls ++ [(a, i - a)], by omega, by omega, by go_num, by go_num, by simp; omega, by simpa using hown1, hbel1, HE.out⟩
          case measure => simp [intOf]; omega
        · have HE : Hid (ls ++ linesG (ts.drop (i + 1)) (i + 1) a = linesB ts) := by have := HI2.out; rw [if_neg k1] at this; exact this
          have b1 : (cl == [59]) = false := by simpa [kEnd] using k1
          clear HI2 k1
          go_wp2
          go_roundw
          case rel => exact ⟨i + 1, a, ls, by omega, by omega, rfl, by go_num, by omega, hownr, hbr, HE.out⟩
          case measure => simp [intOf]; omega
      · have hd : ts.drop i = [] := List.drop_eq_nil_of_le (by omega)
        have HE : Hid (ls = linesB ts) := by have := HI.out; rw [hd, linesG, List.append_nil] at this; exact this
        clear hd HI
        go_wp2
        go_ret
        exact ⟨_, rfl, ⟨g, cap, HS.out.below hbr (by rw [HB.out]; exact HG.out), hcap, hmax, by rw [← HE.out]; exact owns_base hownr (by rw [HB.out]; exact hbel.size)⟩, hbel.trans (hbr.mono (by rw [HB.out]; exact hbel.size))⟩
end Go.Proofs.YtnbpdffdnphbeaaGreatDoor

/- What Tidy of the document's answer gives of a text. -/
namespace Go.Proofs.YtnbpdffdnphbeaaGreatDoor
open Go.RowKit

theorem owns_lines {w : World} {base g cap : Nat} {v : Value} {ls : List (Nat × Nat)} (h : w.ownsRow base 194 1 v ls.length (ls.map (rlineV g cap))) :
    (v = .slice none 0 0 ∧ ls = []) ∨ ∃ gl cl, v = .slice (some ⟨gl, 0, none⟩) ls.length cl ∧ ls.length ≤ cl ∧ ∀ i, i < ls.length → w.cell? ⟨gl, i, none⟩ = some (rlineV g cap (ls.getD i (0, 0))) := by
  rcases h.2 with ⟨h1, h2⟩ | ⟨gl, cl, cur, h1, h2, h3, h4, h5, h6, h7⟩
  · exact .inl ⟨h1, List.eq_nil_of_length_eq_zero h2⟩
  · refine .inr ⟨gl, cl, h1, h4, fun i hi => cell_take h3 h7 ?_⟩
    rw [List.getElem?_map]; simp [List.getD, hi]

theorem segT_len {ts : Toks} {p : Nat × Nat} (h : p.1 + p.2 < ts.length) : (segT ts p).length = p.2 := by
  unfold segT; rw [List.length_take, List.length_drop]; omega

theorem szT_segT (ts : Toks) (p : Nat × Nat) : szT (segT ts p) ≤ szT ts := Nat.le_trans (szT_take_le _ _) (szT_drop_le _ _)

theorem ret_pairC {a : ByteArray} {b : Bs} {x : Int} (h : a = ⟨b.toArray⟩) : Ending.returned (.tuple #[.string a, .int .i64 x]) = .returned (.tuple #[.string ⟨b.toArray⟩, .int .i64 x]) := by rw [h]

/-- Tidy's answer by the document: the text, and the error. -/
def tidyB (n : Nat) (l : Bs) : Bs × Int := if 4000 < l.length then ([], 1) else if 0 ≤ formB l then ([], 2) else (tidyT n l, 0)

set_option maxHeartbeats 2000000 in
theorem RefTidy_any (n : Nat) (l : Bs) (w : World) (hmax : l.length ≤ maxLen) (hf : Folw w) (hgood : l.length ≤ 4000 → formB l < 0 → ∀ p ∈ linesB (toksAt l 0), goodL n (segT (toksAt l 0) p)) :
    Calls Tryz.prog 86 #[.string ⟨l.toArray⟩] w fun e w' => e = .returned (.tuple #[.string ⟨(tidyB n l).1.toArray⟩, .int .i64 (tidyB n l).2]) ∧ Below w.heap.size w w' := by
  unfold maxLen at hmax
  by_cases hl : 4000 < l.length
  · have HR : Hid (tidyB n l = ([], 1)) := by unfold Hid tidyB; rw [if_pos hl]
    clear hgood hf
    go_enter Tryz.func86, Tryz.ntmps86
    go_wp2_with fail
    go_ret2
    exact ⟨ret_pair (by rw [HR.out]) (by rw [HR.out]), Below.refl _ _⟩
  · have hl4 : l.length ≤ 4000 := by omega
    have HF := hideP (Form_any l w hl4 hf)
    have HW := hideP hf
    by_cases hfm : 0 ≤ formB l
    · have HR : Hid (tidyB n l = ([], 2)) := by unfold Hid tidyB; rw [if_neg hl, if_pos hfm]
      generalize formB l = fm at *
      clear hgood hf
      go_enter Tryz.func86, Tryz.ntmps86
      go_wp2_with (go_at_call 74; refine HF.out.mono ?_; rintro e w1 ⟨rfl, hbel⟩)
      go_ret2
      exact ⟨ret_pair (by rw [HR.out]) (by rw [HR.out]), hbel⟩
    · have HG := hideP (hgood hl4 (by omega))
      have HR : Hid (tidyB n l = (tidyT n l, 0)) := by unfold Hid tidyB; rw [if_neg hl, if_neg hfm]
      have HRT : Hid (tidyT n l = textG n (toksAt l 0) (linesB (toksAt l 0)) []) := rfl
      have HL := hideP (fun w => Lines_any l w hl4)
      have hsz := toksAt_sz l
      generalize toksAt l 0 = ts at *
      generalize formB l = fm at *
      have hlsz := costL_all ts
      have HIn := hideP (linesB_in ts)
      have hln := linesG_len ts 0 0
      have hln2 := szT_len ts
      rw [show linesG ts 0 0 = linesB ts from rfl] at hln
      generalize hls : linesB ts = ls at *
      have HLS := hideP hls
      clear hgood hf hls
      go_enter Tryz.func86, Tryz.ntmps86
      go_wp2_with fail
      refine HF.out.mono ?_
      rintro e w1 ⟨rfl, hbel⟩
      go_wp2_with fail
      refine (HL.out w1).mono ?_
      rintro e w2 ⟨v, rfl, ⟨g, cap, hseg, hcap, hcm, hown⟩, hbel2⟩
      rw [HLS.out] at hown
      have HB := hideP (hbel.trans (hbel2.mono hbel.size))
      have HS := hideP hseg
      clear hbel hbel2 hseg HL HF
      rcases owns_lines hown with ⟨rfl, rfl⟩ | ⟨gl, capl, rfl, hcl, hcell⟩
      · clear hown
        go_wp2_with fail
        go_loop [5, 6] (fun sv iv => sv = .string ⟨#[]⟩ ∧ iv = .int .i64 0) (fun _ _ => 0)
        case atStart => exact ⟨rfl, rfl⟩
        case round =>
          obtain ⟨rfl, rfl⟩ := hrel
          go_wp2_with fail
          go_ret2
          exact ⟨ret_pair (by rw [HR.out, HRT.out]; rfl) (by rw [HR.out]), HB.out⟩
      · have HC := hideP hcell
        clear hown hcell
        go_wp2_with fail
        go_loop [5, 6] (fun sv iv => ∃ (i : Nat) (s : Bs), i ≤ ls.length ∧ sv = .string ⟨s.toArray⟩ ∧ iv = .int .i64 i ∧ s.length + costL ts (ls.drop i) ≤ 20 * szT ts ∧ Hid (textG n ts (ls.drop i) s = tidyT n l)) (fun _ iv => ls.length - (intOf iv).toNat)
        case atStart => exact ⟨0, [], Nat.zero_le _, rfl, rfl, by simpa using hlsz, HRT.out.symm⟩
        case round =>
          obtain ⟨i, s, hi, rfl, rfl, hsl, HI⟩ := hrel
          by_cases hlt : i < ls.length
          · have hc := HC.out i hlt
            obtain ⟨p, hp⟩ : ∃ p, ls.getD i (0, 0) = p := ⟨_, rfl⟩
            have hpm : p ∈ ls := by rw [← hp]; simp [List.getD, hlt]
            have hD : ls.drop i = p :: ls.drop (i + 1) := by rw [List.drop_eq_getElem_cons hlt, ← hp]; simp [List.getD, hlt]
            rw [hp] at hc
            rw [hD, costL] at hsl
            have hpin := HIn.out p hpm
            have hul := segT_len hpin
            have hgl := HG.out p hpm
            have hus := (HS.out.drop p.1).take p.2
            have hI2 := HI.out
            rw [hD, textG] at hI2
            have hlt1 := lineText_len n (segT ts p)
            have husz := szT_segT ts p
            have huc : (segT ts p).length ≤ cap - p.1 := by rw [hul]; omega
            rw [show rlineV g cap p = .slice (some ⟨g, 0 + p.1 * 3, none⟩) (segT ts p).length (cap - p.1) by rw [hul, Nat.zero_add]; rfl] at hc
            rw [show (ts.drop p.1).take p.2 = segT ts p from rfl] at hus
            have hcm2 : cap - p.1 ≤ maxLen := by omega
            generalize segT ts p = u at *
            generalize 0 + p.1 * 3 = o at *
            generalize cap - p.1 = c at *
            obtain ⟨hu0, hrule⟩ := hgl
            have hcc := (hus 0 hu0).2.2
            rw [Nat.zero_mul, Nat.add_zero] at hcc
            have HU := hideP hus
            have HI2 := hideP hI2
            have hul2 := szT_len u
            clear HI hI2 hus hD hp hpm hpin hul
            by_cases hk : clsB (u.getD 0 (0, [])).2 = kRule
            · obtain ⟨hw0, hw1, hgt⟩ := hrule hk
              have HT : Hid (lineText n u = gluedB (u.take ((whenB u).toNat + 1)) ++ [32] ++ (tidG n (u.drop ((whenB u).toNat + 1))).1) := by unfold Hid lineText; rw [if_pos hk]
              obtain ⟨k, hkw⟩ := Int.eq_ofNat_of_zero_le hw0
              rw [hkw] at hw1 hgt HT
              rw [Int.toNat_natCast] at hgt HT
              have HWn := hideP hkw
              have HGT := hideP hgt
              have l1 := gluF_len (u.take (k + 1)) [] 0
              have l2 := tidG_len n (u.drop (k + 1))
              have l3 := szT_take_drop u (k + 1)
              have h20 : ((gluedB (u.take (k + 1)))).length ≤ 20000 := by simp only [gluedB]; simp only [List.length_nil] at l1; omega
              have h21 : (tidG n (u.drop (k + 1))).1.length ≤ 200000 := by omega
              have HTI := hideP (tidied_any n (u.drop (k + 1)) g (o + (k + 1) * 3) (c - (k + 1)) w2 (HU.out.drop (k + 1)) (by omega) (by rw [List.length_drop]; omega) (by omega) hgt)
              have HGL := hideP (glued_any (u.take (k + 1)) g o c w2 (HU.out.take (k + 1)) (by omega) (by rw [List.length_take]; omega))
              rw [List.length_drop] at HTI
              rw [List.length_take, Nat.min_eq_left (by omega)] at HGL
              rw [hk] at hcc
              simp only [kRule] at hcc
              generalize tidG n (u.drop (k + 1)) = td at *
              obtain ⟨t1, t2⟩ := td
              generalize gluedB (u.take (k + 1)) = gd at *
              simp only at HTI h21 HT
              have hgu := gluF_len u [] 0
              have hgu2 : (gluedB u).length ≤ 20000 := by simp only [gluedB]; simp only [List.length_nil] at hgu; omega
              have hsl2 : s.length ≤ 400000 := by omega
              have hk1 : k + 1 < u.length := by omega
              clear hw0 hw1 hgt hkw hk l1 l2 l3 hgu hrule
              go_wp2_with fail
              refine (glued_any u g o c _ HU.out (by omega) huc).mono ?_
              rintro e w' ⟨rfl, hw⟩; obtain rfl := hw.symm
              go_wp2_with fail
              refine (when_any u g o c _ HU.out (by omega) huc).mono ?_
              rintro e w' ⟨rfl, hw⟩; obtain rfl := hw.symm; rw [HWn.out]
              go_wp2_with fail
              refine HTI.out.mono ?_
              rintro e w' ⟨rfl, hw⟩; obtain rfl := hw.symm
              go_wp2_with fail
              refine HGL.out.mono ?_
              rintro e w' ⟨rfl, hw⟩; obtain rfl := hw.symm
              go_wp2_with fail
              go_round
              case rel =>
                refine ⟨i + 1, s ++ lineText n u ++ [59, 10], by omega, ?_, by go_num, ?_, HI2.out⟩
                · rw [HT.out]; simp only [← cat_mk]
                · have h9 := hlt1; simp only [List.length_append, List.length_cons, List.length_nil]; omega
              case measure => simp [intOf]; omega
            · have HT : Hid (lineText n u = gluedB u) := by unfold Hid lineText; rw [if_neg hk]
              generalize clsB (u.getD 0 (0, [])).2 = cl at *
              have b1 : (cl == [114, 117, 108, 101]) = false := by simpa [kRule] using hk
              have hgu := gluF_len u [] 0
              have hgu2 : (gluedB u).length ≤ 20000 := by simp only [gluedB]; simp only [List.length_nil] at hgu; omega
              have hsl2 : s.length ≤ 400000 := by omega
              clear hk hrule hgu
              go_wp2_with fail
              refine (glued_any u g o c _ HU.out (by omega) huc).mono ?_
              rintro e w' ⟨rfl, hw⟩; obtain rfl := hw.symm
              go_wp2_with fail
              go_round
              case rel =>
                refine ⟨i + 1, s ++ lineText n u ++ [59, 10], by omega, ?_, by go_num, ?_, HI2.out⟩
                · rw [HT.out]; simp only [← cat_mk]
                · have h9 := hlt1; simp only [List.length_append, List.length_cons, List.length_nil]; omega
              case measure => simp [intOf]; omega
          · have hd : ls.drop i = [] := List.drop_eq_nil_of_le (by omega)
            have HE : Hid (tidyT n l = s) := by have := HI.out; rw [hd, textG] at this; exact this.symm
            clear hd HI
            go_wp2_with fail
            go_ret2
            exact ⟨ret_pair (by rw [HR.out, HE.out]) (by rw [HR.out]), HB.out⟩
end Go.Proofs.YtnbpdffdnphbeaaGreatDoor
