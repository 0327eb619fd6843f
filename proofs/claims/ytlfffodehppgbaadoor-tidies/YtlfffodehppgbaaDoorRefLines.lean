/- What Lines of the document's answer gives of a text: each line as a piece of the row of tokens. -/
import Derived.Test.YtlfffodehppgbaaDoorTidied
import Derived.Test.YtlfffodehppgbaaDoorLex4
namespace Go.Proofs.YtlfffodehppgbaaDoor
open Go.RowKit

/-- The cell of a line. -/
def rlineV (g cap : Nat) (p : Nat × Nat) : Value := .slice (some ⟨g, p.1 * 3, none⟩) p.2 (cap - p.1)

theorem infoToks : (Tryd.prog.info? 46).map (fun i => (i.zero, i.size, i.bytes)) = some (some (.slice none 0 0), 1, 24) := by kernel_rfl

theorem owns_base {w : World} {b b' : Nat} {e : TypeId} {size : Nat} {v : Value} {n : Nat} {xs : List Value} (h : w.ownsRow b e size v n xs) (hb : b' ≤ b) : w.ownsRow b' e size v n xs := by
  refine ⟨h.1, ?_⟩
  rcases h.2 with h1 | ⟨g, cap, cur, h1, h2, r⟩
  · exact .inl h1
  · exact .inr ⟨g, cap, cur, h1, Nat.le_trans hb h2, r⟩

theorem SegR.below {w w' : World} {g o B : Nat} {ts : Toks} (h : SegR w g o ts) (hb : Below B w w') (hg : g < B) : SegR w' g o ts := by
  intro i hi
  obtain ⟨a, b, c⟩ := h i hi
  exact ⟨by rw [hb.cell (p := ⟨g, _, none⟩) hg]; exact a, by rw [hb.cell (p := ⟨g, _, none⟩) hg]; exact b, by rw [hb.cell (p := ⟨g, _, none⟩) hg]; exact c⟩

theorem own_block_le {w : World} {B : Nat} {e : TypeId} {size : Nat} {v : Value} {n : Nat} {xs : List Value} (hown : w.ownsRow B e size v n xs) : ∀ k, v.ownBlock = some k → B ≤ k := by
  intro k hk
  rcases hown.2 with ⟨h1, _⟩ | ⟨g, cap, cur, h1, h2, _⟩
  · rw [h1] at hk; simp [Value.ownBlock] at hk
  · rw [h1] at hk; simp [Value.ownBlock] at hk; omega

/-- Lines lie in memory: a row of pieces of a row of tokens. -/
def LinesIs (w w' : World) (v : Value) (ts : Toks) : Prop := ∃ g cap, SegR w' g 0 ts ∧ ts.length ≤ cap ∧ cap ≤ maxLen ∧ w'.ownsRow w.heap.size 46 1 v (linesB ts).length ((linesB ts).map (rlineV g cap))

set_option maxHeartbeats 1000000 in
theorem Lines_any (l : Bs) (w : World) (hl : l.length ≤ 4000) :
    Calls Tryd.prog 13 #[.string ⟨l.toArray⟩] w fun e w' => ∃ v, e = .returned v ∧ LinesIs w w' v (toksAt l 0) ∧ Below w.heap.size w w' := by
  obtain ⟨i0, hi0, hz0, hz1, hz2⟩ := info_parts infoToks
  have HTok := hideP (Tokens_any l w hl)
  have hts := toksAt_len l 0
  generalize toksAt l 0 = ts at *
  go_enter Tryd.func13, Tryd.ntmps13
  go_wp2_with (go_at_call 29; refine HTok.out.mono ?_; rintro e w1 ⟨v, rfl, hown, hbel⟩)
  clear HTok
  obtain ⟨B, hB⟩ : ∃ B, B = w1.heap.size := ⟨_, rfl⟩
  have HB : Hid (B = w1.heap.size) := hB
  rcases owns_seg hown with ⟨rfl, rfl⟩ | ⟨g, cap, rfl, _, hg1, hcap, hmax, hseg⟩
  · clear hown hts hB
    go_loop [4, 5, 6] (fun ov av iv => ov = .slice none 0 0 ∧ av = .int .i64 0 ∧ iv = .int .i64 0) (fun _ _ _ => 0)
    case atStart => exact ⟨rfl, rfl, rfl⟩
    case round =>
      obtain ⟨rfl, rfl, rfl⟩ := hrel
      go_wp2_with fail
      go_ret
      exact ⟨_, rfl, ⟨0, 0, (fun i hi => by simp at hi), Nat.zero_le _, Nat.zero_le _, World.ownsRow_nil _ _ _ _⟩, hbel⟩
  · have HS : Hid (SegR w1 g 0 ts) := hseg
    have HG : Hid (g < w1.heap.size) := hg1
    clear hown hseg hB hg1
    go_loopw [4, 5, 6] (fun ov av iv wr => ∃ (i a : Nat) (ls : List (Nat × Nat)), i ≤ ts.length ∧ a ≤ i ∧ av = .int .i64 a ∧ iv = .int .i64 i ∧ ls.length ≤ i ∧ wr.ownsRow B 46 1 ov ls.length (ls.map (rlineV g cap)) ∧ Below B w1 wr ∧ Hid (ls ++ linesG (ts.drop i) i a = linesB ts)) (fun _ _ iv _ => ts.length - (intOf iv).toNat)
    case atStart => exact ⟨0, 0, [], Nat.zero_le _, Nat.le_refl _, rfl, rfl, Nat.le_refl _, World.ownsRow_nil _ _ _ _, Below.refl _ _, rfl⟩
    case round =>
      obtain ⟨i, a, ls, hi, hai, rfl, rfl, hls, hownr, hbr, HI⟩ := hrel
      by_cases hlt : i < ts.length
      · obtain ⟨_, _, hc2⟩ := (HS.out.below hbr (by rw [HB.out]; exact HG.out)) i hlt
        have HD : Hid (ts.drop i = ts.getD i (0, []) :: ts.drop (i + 1)) := drop_consT ts i hlt
        obtain ⟨cl, hcl⟩ : ∃ cl, clsB (ts.getD i (0, [])).2 = cl := ⟨_, rfl⟩
        rw [hcl] at hc2
        simp only [Nat.zero_add] at hc2
        have HI2 : Hid (ls ++ (if cl = kEnd then (a, i - a) :: linesG (ts.drop (i + 1)) (i + 1) (i + 1) else linesG (ts.drop (i + 1)) (i + 1) a) = linesB ts) := by
          have := HI.out; rw [HD.out, linesG, hcl] at this; exact this
        have hBw : B ≤ wr.heap.size := by have h5 := hbr.size; have h6 := HB.out; omega
        clear HI HD hcl
        by_cases k1 : cl = kEnd
        · have HE : Hid ((ls ++ [(a, i - a)]) ++ linesG (ts.drop (i + 1)) (i + 1) (i + 1) = linesB ts) := by have := HI2.out; rw [if_pos k1] at this; rw [Hid, List.append_assoc]; exact this
          have b1 : (cl == [59]) = true := by rw [k1]; rfl
          clear HI2 k1
          go_wp2_with (at_builtin; refine wpList_append_own _ rfl _ _ 39 rfl B 46 i0 _ 1 24 Tryd.underlying39 hi0 hz0 hz1 hz2 rfl (by decide) _ _ _ rfl (hownr.alloc _) ⟨wr.heap.size, 0, none⟩ 1 1 [rlineV g cap (a, i - a)] rfl rfl ?c1 ?c2 ?c3 ?c4 ?c5 ?_)
          case c1 => exact news_cells _ _ _ _ rfl
          case c2 => intro u hu; simp at hu; subst hu; rfl
          case c3 => unfold maxLen; omega
          case c4 => omega
          case c5 => simp; omega
          intro v' w2 hown1 hgrow _
          have hbel1 : Below B w1 w2 := (hbr.alloc hBw _).grown hgrow (by simp; omega) (own_block_le hownr)
          clear hownr hbr hgrow
          go_wp2
          go_roundw
          case rel => exact ⟨i + 1, i + 1, ls ++ [(a, i - a)], by omega, by omega, by go_num, by go_num, by simp; omega, by simpa using hown1, hbel1, HE.out⟩
          case measure => simp [intOf]; omega
        · have HE : Hid (ls ++ linesG (ts.drop (i + 1)) (i + 1) a = linesB ts) := by have := HI2.out; rw [if_neg k1] at this; exact this
          have b1 : (cl == [59]) = false := by simpa [kEnd] using k1
          clear HI2 k1
          go_wp2
          go_roundw
          case rel => exact ⟨i + 1, a, ls, by omega, by omega, rfl, by go_num, by omega, hownr, hbr, HE.out⟩
          case measure => simp [intOf]; omega
      · have hd : ts.drop i = [] := List.drop_eq_nil_of_le (by omega)
        have HE : Hid (ls = linesB ts) := by have := HI.out; rw [hd, linesG, List.append_nil] at this; exact this
        clear hd HI
        go_wp2
        go_ret
        exact ⟨_, rfl, ⟨g, cap, HS.out.below hbr (by rw [HB.out]; exact HG.out), hcap, hmax, by rw [← HE.out]; exact owns_base hownr (by rw [HB.out]; exact hbel.size)⟩, hbel.trans (hbr.mono (by rw [HB.out]; exact hbel.size))⟩
end Go.Proofs.YtlfffodehppgbaaDoor
