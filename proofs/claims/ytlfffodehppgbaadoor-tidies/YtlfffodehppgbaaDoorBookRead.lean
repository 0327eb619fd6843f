/- What Read of the program's book gives of a text: its lines, or the error and its place. -/
import Derived.Test.YtlfffodehppgbaaDoorMono
namespace Go.Proofs.YtlfffodehppgbaaDoor
open Go.RowKit

abbrev LX := PLine × (Value × Value)
def lineC (x : LX) : List Value := [.int .i64 x.1.kind, .string ⟨x.1.name.toArray⟩, .int .i64 x.1.low, .int .i64 x.1.high, .string ⟨x.1.conc.toArray⟩, x.2.1, x.2.2, .int .i64 x.1.root, .int .i64 x.1.tests, .int .i64 x.1.dep, .string ⟨x.1.lower.toArray⟩]
def flatL (ls : List LX) : List Value := ls.flatMap lineC
theorem flatL_snoc (ls : List LX) (x : LX) : flatL (ls ++ [x]) = flatL ls ++ lineC x := by simp [flatL]

def AllRows (w : World) (B : Nat) (ls : List LX) : Prop := ∀ x ∈ ls, LineRows w B x.2.1 x.2.2 x.1

/-- Lines lie in memory. -/
def LinesM (w : World) (B : Nat) (v : Value) (ls : List LX) : Prop := w.ownsRow B 61 11 v ls.length (flatL ls) ∧ AllRows w B ls

theorem infoLine : (Tryd.prog.info? 61).map (fun i => (i.zero, i.size, i.bytes)) = some (some (.agg #[.int .i64 0, .string ⟨#[]⟩, .int .i64 0, .int .i64 0, .string ⟨#[]⟩, .slice none 0 0, .slice none 0 0, .int .i64 0, .int .i64 0, .int .i64 0, .string ⟨#[]⟩]), 11, 144) := by kernel_rfl

theorem AllRows.keeps {w w' : World} {B R : Nat} {ls : List LX} (h : AllRows w B ls) (hk : Keeps w.heap.size R w w') (hR : R < B) : AllRows w' B ls :=
  fun x hx => ⟨owns_keeps (h x hx).1 hk hR, owns_keeps (h x hx).2 hk hR⟩
theorem AllRows.alloc {w : World} {B : Nat} {ls : List LX} (h : AllRows w B ls) (o : Obj) : AllRows (w.alloc o) B ls :=
  fun x hx => ⟨(h x hx).1.alloc _, (h x hx).2.alloc _⟩

/-- A row of another type than the one that was appended to. -/
theorem owns_other {w w' : World} {B B' : Nat} {e e' : TypeId} {size size' : Nat} {v v' : Value} {n n' : Nat} {xs xs' : List Value} (h : w.ownsRow B e size v n xs) (hl : w.ownsRow B' e' size' v' n' xs') (hne : e ≠ e') (hg : w.grownBy w' v'.ownBlock) : w'.ownsRow B e size v n xs := by
  refine ⟨h.1, ?_⟩
  rcases h.2 with h1 | ⟨g, cap, cur, h1, h2, h3, r⟩
  · exact .inl h1
  · refine .inr ⟨g, cap, cur, h1, h2, ?_, r⟩
    have hlt : g < w.heap.size := by
      rcases Nat.lt_or_ge g w.heap.size with h | h
      · exact h
      · rw [Array.getElem?_eq_none h] at h3; cases h3
    rw [hg.block g hlt ?_]; · exact h3
    intro hE
    rcases hl.2 with ⟨k1, _⟩ | ⟨g', cap', cur', k1, _, k3, _⟩
    · rw [k1] at hE; simp [Value.ownBlock] at hE
    · rw [k1] at hE
      simp [Value.ownBlock] at hE
      subst hE
      rw [h3] at k3
      simp at k3
      exact hne k3.2

theorem AllRows.grown {w w' : World} {B B' : Nat} {ls : List LX} {size' : Nat} {v' : Value} {n' : Nat} {xs' : List Value} (h : AllRows w B ls) (hl : w.ownsRow B' 61 size' v' n' xs') (hg : w.grownBy w' v'.ownBlock) : AllRows w' B ls :=
  fun x hx => ⟨owns_other (h x hx).1 hl (by decide) hg, owns_other (h x hx).2 hl (by decide) hg⟩

/-- The tokens of a text as the program has them, and the one behind them. -/
def toP (l : Bs) : List PT := (toksAt l 0).map (fun t => ⟨pkind t.2, t.2, pval t.2, t.1⟩) ++ [⟨0, [], 0, l.length⟩]

theorem toP_len (l : Bs) : (toP l).length = (toksAt l 0).length + 1 := by simp [toP]

theorem pkind_ne (s : Bs) : pkind s ≠ 0 := by
  unfold pkind
  split
  · split
    · decide
    · split <;> decide
  · split
    · split <;> decide
    · split <;> decide

theorem toP_endk (l : Bs) : ∀ i, i < (toP l).length → (cur (toP l) i).k ≠ 0 → i + 1 < (toP l).length := by
  intro i hi hk
  rw [toP_len] at hi ⊢
  rcases Nat.lt_or_ge i (toksAt l 0).length with h | h
  · omega
  · exfalso
    have e : i = (toksAt l 0).length := by omega
    apply hk
    unfold cur toP
    subst e
    simp [List.getD]

def flatPT (ps : List PT) : List Value := ps.flatMap (fun x => [.int .i64 x.k, .string ⟨x.s.toArray⟩, .int .i64 x.v, .int .i64 x.p])

theorem flatP_toP (l : Bs) : flatP (toksAt l 0) ++ endTok l.length = flatPT (toP l) := by
  simp only [flatP, flatPT, toP, List.flatMap_append, List.flatMap_map]
  rfl

theorem flatPT_get (ps : List PT) : ∀ i, i < ps.length →
    (flatPT ps)[i * 4]? = some (.int .i64 (cur ps i).k) ∧ (flatPT ps)[i * 4 + 1]? = some (.string ⟨(cur ps i).s.toArray⟩) ∧ (flatPT ps)[i * 4 + 2]? = some (.int .i64 (cur ps i).v) ∧ (flatPT ps)[i * 4 + 3]? = some (.int .i64 (cur ps i).p) := by
  induction ps with
  | nil => intro i h; simp at h
  | cons t r ih =>
    intro i h
    have e : flatPT (t :: r) = [.int .i64 t.k, .string ⟨t.s.toArray⟩, .int .i64 t.v, .int .i64 t.p] ++ flatPT r := by simp [flatPT]
    cases i with
    | zero => rw [e]; simp [cur]
    | succ i =>
      have hi := ih i (by simpa using h)
      have hc : cur (t :: r) (i + 1) = cur r i := by simp [cur]
      rw [e, hc]
      refine ⟨?_, ?_, ?_, ?_⟩
      · rw [List.getElem?_append_right (by simp; omega), show (i + 1) * 4 - [Value.int .i64 t.k, .string ⟨t.s.toArray⟩, .int .i64 t.v, .int .i64 t.p].length = i * 4 by simp; omega]; exact hi.1
      · rw [List.getElem?_append_right (by simp; omega), show (i + 1) * 4 + 1 - [Value.int .i64 t.k, .string ⟨t.s.toArray⟩, .int .i64 t.v, .int .i64 t.p].length = i * 4 + 1 by simp; omega]; exact hi.2.1
      · rw [List.getElem?_append_right (by simp; omega), show (i + 1) * 4 + 2 - [Value.int .i64 t.k, .string ⟨t.s.toArray⟩, .int .i64 t.v, .int .i64 t.p].length = i * 4 + 2 by simp; omega]; exact hi.2.2.1
      · rw [List.getElem?_append_right (by simp; omega), show (i + 1) * 4 + 3 - [Value.int .i64 t.k, .string ⟨t.s.toArray⟩, .int .i64 t.v, .int .i64 t.p].length = i * 4 + 3 by simp; omega]; exact hi.2.2.2

theorem cell_take2 {w : World} {g : Nat} {cur : Array Value} {e : TypeId} {fz : Nat × Nat} {k n : Nat} {xs : List Value} {u : Value}
    (hb : w.heap[g]? = some (.cells cur e fz)) (ht : cur.toList.take n = xs) (hx : xs[k]? = some u) : w.cell? ⟨g, k, none⟩ = some u := by
  have h1 : cur.toList[k]? = some u := by
    rw [← ht, List.getElem?_take] at hx
    split at hx
    · exact hx
    · cases hx
  simp [World.cell?, hb]
  simpa using h1

/-- The row of tokens that Read gave: its value, and where it lies. -/
theorem owns_toks {w : World} {base : Nat} {v : Value} {ps : List PT} (h : w.ownsRow base 64 4 v ps.length (flatPT ps)) (h0 : 0 < ps.length) :
    ∃ g cap, v = .slice (some ⟨g, 0, none⟩) ps.length cap ∧ base ≤ g ∧ g < w.heap.size ∧ ps.length ≤ cap ∧ cap ≤ maxLen ∧ TokM w g ps := by
  rcases h.2 with ⟨_, h2⟩ | ⟨g, cap, c, h1, h2, h3, h4, h5, h6, h7⟩
  · omega
  · refine ⟨g, cap, h1, h2, ?_, h4, h5, fun i hi => ?_⟩
    · rcases Nat.lt_or_ge g w.heap.size with h | h
      · exact h
      · rw [Array.getElem?_eq_none h] at h3; cases h3
    · obtain ⟨a, b, c', d⟩ := flatPT_get ps i hi
      exact ⟨cell_take2 h3 h7 a, cell_take2 h3 h7 b, cell_take2 h3 h7 c', cell_take2 h3 h7 d⟩

end Go.Proofs.YtlfffodehppgbaaDoor
