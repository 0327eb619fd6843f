/- Plain: such lines are good, such texts short. -/
import Derived.Test.YtnbpdffdnphbeaaGreatPLoop2
import Derived.Test.YtnbpdffdnphbeaaGreatWsum
import Derived.Test.YtnbpdffdnphbeaaGreatPCheck2
import Derived.Test.YtnbpdffdnphbeaaGreatMAbv
import Derived.Test.YtnbpdffdnphbeaaGreatPWords
namespace Go.Proofs.YtnbpdffdnphbeaaGreat

theorem good_one {x : PNode} (h : 4 ≤ x.kind ∧ x.kind ≤ 7) (h0 : 0 ≤ x.num ∧ x.num ≤ 9999) : GoodN [x] := by
  intro a ha
  obtain rfl : a = 0 := by simp at ha; omega
  have e : nAt [x] 0 = x := rfl
  rw [e]
  exact ⟨fun h1 => by omega, fun h1 => by omega, fun h1 => by omega, fun _ _ _ => ⟨h, h0⟩⟩
theorem good_or (w : Bs) : GoodN [⟨5, 0, 0, w, [], [], 0⟩, ⟨3, 0, 0, [], [], [], 0⟩, ⟨4, 0, 0, [], [], [], 0⟩, ⟨1, 1, 2, [], [], [], 0⟩] := by
  intro a ha
  have : a = 0 ∨ a = 1 ∨ a = 2 ∨ a = 3 := by simp at ha; omega
  rcases this with rfl | rfl | rfl | rfl <;> simp [nAt]
theorem good_rule {r c : Bs} {ps : List PPart} {nd : List PNode} {root t p : Int} (hs : ∀ x ∈ ps, 0 ≤ x.num ∧ x.num ≤ 9999) (h0 : 0 < ps.length) (h1 : ps.length ≤ 10000) (hn : GoodN nd) (hr : 0 ≤ root ∧ root < (nd.length : Int)) : GoodP ⟨3, r, 0, 0, c, ps, nd, root, t, p, []⟩ :=
  ⟨.inr (.inr (.inl rfl)), Int.le_refl _, show (0 : Int) ≤ 9999 by decide, Int.le_refl _, show (0 : Int) ≤ 9999 by decide, fun a ha => hs _ (by
    have ha : a < ps.length := ha
    unfold xAt; rw [List.getD_eq_getElem?_getD, List.getElem?_eq_getElem ha]; exact List.getElem_mem ha), h1, hn, fun _ => ⟨h0, hr.1, hr.2⟩⟩
theorem good_rgX (r c next : Bs) (kd : Nat) : GoodP (rgX r c next kd) := by
  unfold rgX
  split
  · exact good_rule (by simp) (by simp) (by simp) (good_one (by simp) (by simp)) (by simp)
  · split
    · exact good_rule (by simp) (by simp) (by simp) (good_one (by simp) (by simp)) (by simp)
    · split
      · exact good_rule (by simp) (by simp) (by simp) (good_one (by simp) (by simp)) (by simp)
      · exact good_rule (by simp) (by simp) (by simp) (good_or next) (by simp)
theorem good_ov (n j : Nat) : GoodP (ovN n j) := by
  unfold ovN
  split
  · exact good_rgX _ _ _ _
  · exact ⟨.inr (.inr (.inr rfl)), Int.le_refl _, show (0 : Int) ≤ 9999 by decide, Int.le_refl _, show (0 : Int) ≤ 9999 by decide, fun a ha => absurd ha (by simp), by simp, fun a ha => absurd ha (by simp), fun h => absurd h (by simp)⟩
theorem len_wr (L : List (List Bs)) (M : Nat) (h : ∀ l ∈ L, (wrLine l).length ≤ M) : (wrB L).length ≤ L.length * M := by
  induction L with
  | nil => simp [wrB]
  | cons l r ih =>
    have h1 := h l (by simp)
    have h2 := ih (fun x hx => h x (by simp [hx]))
    unfold wrB at *
    rw [List.flatMap_cons, List.length_append, List.length_cons, Nat.succ_mul]; omega
theorem rg_len (n : Nat) (h : Nat → Nat) (shut : Bool) (i : Nat) : (wrLine (rgW n h shut i)).length ≤ 100 := by
  unfold rgW rgTail
  split
  · simp [wrLine, wrL, kRule, kWhen, kAlwW, kEnd, nmB]
  · split
    · simp [wrLine, wrL, kRule, kWhen, kAlwW, kEnd, nmB]
    · split
      · simp [wrLine, wrL, kRule, kWhen, kHasW, kEnd, nmB]
      · simp [wrLine, wrL, kRule, kWhen, kAlwW, kNot, kHasW, kOr, kEnd, nmB]
theorem ov_len (n j : Nat) : (wrLine (ovW n j)).length ≤ 100 := by
  unfold ovW rgTail
  split
  · simp [wrLine, wrL, kRule, kWhen, kAlwW, kEnd, nmB]
  · simp [wrLine, wrL, kOver, kEnd, nmB]
theorem turnI_len (m k : Nat) : (turnI m k).length = m := by simp [turnI]
theorem rg_text {n : Nat} (hn : n ≤ 8) (h : Nat → Nat) (shut : Bool) (k : Nat) : (wrB ((turnI n k).map (rgW n h shut))).length ≤ 1600 := by
  have := len_wr ((turnI n k).map (rgW n h shut)) 100 (fun l hl => by obtain ⟨i, _, rfl⟩ := List.mem_map.1 hl; exact rg_len n h shut i)
  rw [List.length_map, turnI_len] at this; omega
theorem ov_text {n m : Nat} (hm : m ≤ 16) (k : Nat) : (wrB ((turnI m k).map (ovW n))).length ≤ 1600 := by
  have := len_wr ((turnI m k).map (ovW n)) 100 (fun l hl => by obtain ⟨i, _, rfl⟩ := List.mem_map.1 hl; exact ov_len n i)
  rw [List.length_map, turnI_len] at this; omega
end Go.Proofs.YtnbpdffdnphbeaaGreat

/- What pick, at and name of statutekeep give. -/
namespace Go.Proofs.YtnbpdffdnphbeaaGreat
open Go.RowKit

/-- Which of n things a raw number speaks of. -/
def pkI (c n : Int) : Int := if c < 0 then (-(c + 1)).tmod n else c.tmod n
theorem pkI_bound (c n : Int) (hn : 0 < n) : 0 ≤ pkI c n ∧ pkI c n < n := by
  unfold pkI
  split
  · exact ⟨Int.tmod_nonneg _ (by omega), Int.tmod_lt_of_pos _ hn⟩
  · exact ⟨Int.tmod_nonneg _ (by omega), Int.tmod_lt_of_pos _ hn⟩
def In64 (c : Int) : Prop := -9223372036854775808 ≤ c ∧ c ≤ 9223372036854775807

theorem wrap_small (i : Nat) (h : i ≤ 100) : IntKind.i64.wrap ((i : Int) + 1) = (i : Int) + 1 := by
  simp [IntKind.wrap, IntKind.signed, IntKind.bits]; omega
theorem kPick_s (w : World) (c n : Int) (hc : In64 c) (hn : 0 < n) (hn2 : n ≤ 10000) :
    Calls Tryz.prog 4 #[.int .i64 c, .int .i64 n] w fun e w' => e = .returned (.int .i64 (pkI c n)) ∧ w' = w := by
  obtain ⟨h1, h2⟩ := hc
  have n0 : (n == 0) = false := by rw [beq_eq_false_iff_ne]; omega
  by_cases h : c < 0
  · have e : pkI c n = (-(c + 1)).tmod n := by unfold pkI; rw [if_pos h]
    have b1 := (pkI_bound c n hn).1
    have b2 := (pkI_bound c n hn).2
    rw [e] at b1 b2 ⊢
    go_enter Tryz.func4, Tryz.ntmps4
    go_wp2_with fail
    go_ret
    exact ⟨ret_int (Int.neg_tmod _ _).symm, rfl⟩
  · have e : pkI c n = c.tmod n := by unfold pkI; rw [if_neg h]
    have b1 := (pkI_bound c n hn).1
    have b2 := (pkI_bound c n hn).2
    rw [e] at b1 b2 ⊢
    go_enter Tryz.func4, Tryz.ntmps4
    go_wp2_with fail
    go_ret
    exact ⟨ret_int (Int.tmod_eq_emod_of_nonneg (by omega)).symm, rfl⟩

/-- Raw numbers lie in memory. -/
structure RawV (w : World) (a : Option Addr) (m : Nat) (h : Nat → Int) : Prop where
  blk : 0 < m → ∃ g o, a = some ⟨g, o, none⟩ ∧ ∀ i, i < m → w.cell? ⟨g, o + i, none⟩ = some (.int .i64 (h i))
  few : m ≤ maxLen
  fit : ∀ i, i < m → In64 (h i)
theorem RawV.below {w w' : World} {a : Option Addr} {m : Nat} {h : Nat → Int} (H : RawV w a m h) (hb : Below w.heap.size w w') : RawV w' a m h :=
  ⟨fun h0 => let ⟨g, o, e, p⟩ := H.blk h0; ⟨g, o, e, fun i hi => by rw [hb.cell (p := ⟨g, o + i, none⟩) (cell_ltG (p i hi))]; exact p i hi⟩, H.few, H.fit⟩
/-- The i-th raw number of a list; 0: it has none. -/
def rawI (m : Nat) (h : Nat → Int) (i : Nat) : Int := if i < m then h i else 0
theorem RawV.in {w : World} {a : Option Addr} {m : Nat} {h : Nat → Int} (H : RawV w a m h) (i : Nat) : In64 (rawI m h i) := by
  unfold rawI
  split
  · rename_i hi; exact H.fit i hi
  · unfold In64; omega
theorem kAt_s (w : World) (a : Option Addr) (m c : Nat) (h : Nat → Int) (H : RawV w a m h) (i : Nat) (hi8 : i < 8) :
    Calls Tryz.prog 11 #[.slice a m c, .int .i64 i] w fun e w' => e = .returned (.int .i64 (rawI m h i)) ∧ w' = w := by
  have hm := H.few
  unfold maxLen at hm
  by_cases hi : i < m
  · obtain ⟨g, o, rfl, hcs⟩ := H.blk (by omega)
    have hc := hcs i hi
    have e : rawI m h i = h i := by unfold rawI; rw [if_pos hi]
    rw [e]
    clear hcs H
    generalize h i = z at *
    have b : ((i : Int) < (m : Int)) := by omega
    go_enter Tryz.func11, Tryz.ntmps11
    go_wp2_with fail
    go_ret
    exact ⟨rfl, rfl⟩
  · have e : rawI m h i = 0 := by unfold rawI; rw [if_neg hi]
    rw [e]
    clear H
    have b : ¬ ((i : Int) < (m : Int)) := by omega
    go_enter Tryz.func11, Tryz.ntmps11
    go_wp2_with fail
    go_ret
    exact ⟨rfl, rfl⟩

theorem cell_two (f z : Int) (w : World) (T : TypeId) (fz : Nat × Nat) : (w.alloc (.cells #[.int .u8 f, .int .u8 z] T fz)).cell? ⟨w.heap.size, 0, none⟩ = some (.int .u8 f) ∧ (w.alloc (.cells #[.int .u8 f, .int .u8 z] T fz)).cell? ⟨w.heap.size, 1, none⟩ = some (.int .u8 z) :=
  ⟨(cell_row (hb_end _ _) 0).trans rfl, (cell_row (hb_end _ _) 1).trans rfl⟩
theorem conv_two (w : World) (f : UInt8) (i : Nat) (hi : i < 8) (c : Nat) (T : TypeId) (fz : Nat × Nat) : (convert 45 9 (.slice (some ⟨w.heap.size, 0, none⟩) 2 c)).run Tryz.prog (w.alloc (.cells #[.int .u8 (f.toNat : Int), .int .u8 (97 + (i : Int))] T fz)) = .ok (.string ⟨(nmB f i).toArray⟩) (w.alloc (.cells #[.int .u8 (f.toNat : Int), .int .u8 (97 + (i : Int))] T fz)) := by
  obtain ⟨h0, h1⟩ := cell_two (f.toNat : Int) (97 + (i : Int)) w T fz
  have e1 : ((UInt8.ofNat (97 + i)).toNat : Int) = 97 + (i : Int) := (show ∀ i : Nat, i < 8 → ((UInt8.ofNat (97 + i)).toNat : Int) = 97 + (i : Int) by decide) i hi
  refine run_convert_bytes_back (P := Tryz.prog) _ 45 9 5 ⟨w.heap.size, 0, none⟩ c (nmB f i) Tryz.underlying45 Tryz.underlying5 Tryz.underlying9 (fun j hj => ?_)
  have e : (⟨w.heap.size, 0, none⟩ : Addr).add j = ⟨w.heap.size, j, none⟩ := by simp [Addr.add]; omega
  rw [e]
  have hj' : j < 2 := hj
  match j, hj, hj' with
  | 0, _, _ => exact h0
  | 1, _, _ => exact h1.trans (by rw [← e1]; rfl)
theorem kName_s (w : World) (f : UInt8) (i : Nat) (hi : i < 8) :
    Calls Tryz.prog 10 #[.int .u8 (f.toNat : Int), .int .i64 i] w fun e w' => e = .returned (.string ⟨(nmB f i).toArray⟩) ∧ Below w.heap.size w w' := by
  have hcv := conv_two w f i hi
  have HB : Hid (∀ o, Below w.heap.size w (w.alloc o)) := fun o => (Below.refl _ _).alloc (Nat.le_refl _) o
  generalize nmB f i = nm at *
  have hf : (f.toNat : Int) < 256 := by have := f.toNat_lt; omega
  have hf0 : 0 ≤ (f.toNat : Int) := by omega
  generalize (f.toNat : Int) = fz at *
  go_enter Tryz.func10, Tryz.ntmps10
  go_wp2_with fail
  go_ret
  exact ⟨rfl, HB.out _⟩
end Go.Proofs.YtnbpdffdnphbeaaGreat

/- Rows of words in memory: a slice of slices of strings. -/
namespace Go.Proofs.YtnbpdffdnphbeaaGreat
open Go.RowKit

/-- A slice of words. -/
def InT (w : World) (v : Value) (ws : List Bs) : Prop := ∃ a c, v = .slice a ws.length c ∧ CelT w 9 a (strC ws)
def AllIn (w : World) : List Value → List (List Bs) → Prop
  | [], [] => True
  | v :: vs, l :: L => InT w v l ∧ AllIn w vs L
  | _, _ => False
theorem InT.below {w w' : World} {v : Value} {ws : List Bs} (h : InT w v ws) (hb : Below w.heap.size w w') : InT w' v ws := by
  obtain ⟨a, c, e, p⟩ := h; exact ⟨a, c, e, p.below hb⟩
theorem InT.grown {w w' : World} {B n : Nat} {ov v : Value} {ys : List Value} {ws : List Bs} (h : InT w v ws) (hown : w.ownsRow B 32 1 ov n ys) (hg : w.grownBy w' ov.ownBlock) : InT w' v ws := by
  obtain ⟨a, c, e, p⟩ := h; exact ⟨a, c, e, p.grown hown (by decide) hg⟩
theorem AllIn.keep {w w' : World} (hk : ∀ v ws, InT w v ws → InT w' v ws) : ∀ (vs : List Value) (L : List (List Bs)), AllIn w vs L → AllIn w' vs L
  | [], [], _ => trivial
  | v :: vs, l :: L, h => ⟨hk v l h.1, AllIn.keep hk vs L h.2⟩
  | [], _ :: _, h => absurd h id
  | _ :: _, [], h => absurd h id
theorem AllIn.below {w w' : World} {vs : List Value} {L : List (List Bs)} (h : AllIn w vs L) (hb : Below w.heap.size w w') : AllIn w' vs L := AllIn.keep (fun _ _ h => h.below hb) vs L h
theorem AllIn.grown {w w' : World} {vs : List Value} {L : List (List Bs)} {B n : Nat} {ov : Value} {ys : List Value} (h : AllIn w vs L) (hown : w.ownsRow B 32 1 ov n ys) (hg : w.grownBy w' ov.ownBlock) : AllIn w' vs L := AllIn.keep (fun _ _ h => h.grown hown hg) vs L h
theorem AllIn.snoc {w : World} {v : Value} {l : List Bs} (hv : InT w v l) : ∀ {vs : List Value} {L : List (List Bs)}, AllIn w vs L → AllIn w (vs ++ [v]) (L ++ [l])
  | [], [], _ => ⟨hv, trivial⟩
  | _ :: _, _ :: _, h => ⟨h.1, AllIn.snoc hv h.2⟩
  | [], _ :: _, h => absurd h id
  | _ :: _, [], h => absurd h id
theorem AllIn.len {w : World} : ∀ {vs : List Value} {L : List (List Bs)}, AllIn w vs L → vs.length = L.length
  | [], [], _ => rfl
  | _ :: _, _ :: _, h => by rw [List.length_cons, List.length_cons, AllIn.len h.2]
  | [], _ :: _, h => absurd h id
  | _ :: _, [], h => absurd h id
def vA (vs : List Value) (i : Nat) : Value := vs.getD i (.slice none 0 0)
theorem AllIn.get {w : World} : ∀ {vs : List Value} {L : List (List Bs)}, AllIn w vs L → ∀ i, i < L.length → vs[i]? = some (vA vs i) ∧ InT w (vA vs i) (L.getD i [])
  | [], [], _, i, hi => absurd hi (by simp)
  | _ :: _, _ :: _, h, 0, _ => ⟨rfl, h.1⟩
  | _ :: vs, _ :: L, h, i + 1, hi => AllIn.get (vs := vs) (L := L) h.2 i (by simpa using hi)
  | [], _ :: _, h, _, _ => absurd h id
  | _ :: _, [], h, _, _ => absurd h id
theorem AllIn.pick {w : World} {vs : List Value} {L : List (List Bs)} (h : AllIn w vs L) : ∀ is : List Nat, (∀ i ∈ is, i < L.length) → AllIn w (is.map (vA vs)) (is.map fun j => L.getD j [])
  | [], _ => trivial
  | i :: is, hi => ⟨(h.get i (hi i (by simp))).2, AllIn.pick h is (fun j hj => hi j (by simp [hj]))⟩
/-- Rows of words, behind a slice's pointer. -/
def OutV (w : World) (a : Option Addr) (L : List (List Bs)) : Prop := ∃ vs, CelT w 32 a vs ∧ AllIn w vs L
theorem OutV.below {w w' : World} {a : Option Addr} {L : List (List Bs)} (h : OutV w a L) (hb : Below w.heap.size w w') : OutV w' a L := by
  obtain ⟨vs, h1, h2⟩ := h; exact ⟨vs, h1.below hb, h2.below hb⟩
theorem OutV.line {w : World} {a : Option Addr} {L : List (List Bs)} (h : OutV w a L) (i : Nat) (hi : i < L.length) : ∃ g la lc, a = some ⟨g, 0, none⟩ ∧ w.cell? ⟨g, i, none⟩ = some (.slice la (L.getD i []).length lc) ∧ ∀ k, k < (L.getD i []).length → ∃ gl, la = some ⟨gl, 0, none⟩ ∧ w.cell? ⟨gl, k, none⟩ = some (.string ⟨((L.getD i []).getD k []).toArray⟩) := by
  obtain ⟨vs, h1, h2⟩ := h
  obtain ⟨e1, la, lc, e2, h3⟩ := h2.get i hi
  obtain ⟨g, e3, h4⟩ := h1.cel.at e1
  rw [e2] at h4
  exact ⟨g, la, lc, e3, h4, fun k hk => h3.cel.at (strC_get _ k hk)⟩

/-- A line's first k words, as they are written. -/
def lnP (ws : List Bs) : Nat → Bs
  | 0 => []
  | k + 1 => (if 0 < k ∧ ws.getD k [] ≠ [59] then lnP ws k ++ [32] else lnP ws k) ++ ws.getD k []
def wrT : List Bs → Bs
  | [] => []
  | w :: r => (if w = [59] then w else 32 :: w) ++ wrT r
theorem wrT_snoc (l : List Bs) (w : Bs) : wrT (l ++ [w]) = wrT l ++ (if w = [59] then w else 32 :: w) := by
  induction l with
  | nil => simp [wrT]
  | cons x r ih => rw [List.cons_append, wrT, ih, wrT, List.append_assoc]
theorem wrL_T (l : List Bs) : wrL l = wrT l ++ [10] := by
  induction l with
  | nil => rfl
  | cons x r ih => rw [wrL, wrT, ih, List.append_assoc]
theorem lnP_cons (w : Bs) (r : List Bs) : ∀ k, k ≤ r.length → lnP (w :: r) (k + 1) = w ++ wrT (r.take k) := by
  intro k
  induction k with
  | zero => intro _; simp [lnP, wrT]
  | succ k ih =>
    intro hk
    have e : (w :: r).getD (k + 1) [] = r.getD k [] := rfl
    have et : r.take (k + 1) = r.take k ++ [r.getD k []] := by
      rw [List.take_add_one]; simp [List.getD, show k < r.length by omega]
    rw [lnP, e, ih (by omega), et, wrT_snoc]
    by_cases h : r.getD k [] = [59]
    · rw [if_neg (fun q => q.2 h), if_pos h]; simp
    · rw [if_pos ⟨by omega, h⟩, if_neg h]; simp
theorem lnP_all (ws : List Bs) : lnP ws ws.length ++ [10] = wrLine ws := by
  cases ws with
  | nil => rfl
  | cons w r => rw [List.length_cons, lnP_cons w r _ (Nat.le_refl _), List.take_length, wrLine, wrL_T, List.append_assoc]
theorem wrB_snoc (L : List (List Bs)) (i : Nat) (hi : i < L.length) : wrB (L.take (i + 1)) = wrB (L.take i) ++ wrLine (L.getD i []) := by
  unfold wrB
  rw [List.take_add_one, List.flatMap_append]
  simp [List.getD, hi]

/-- Words and lines that are short. -/
structure Short (L : List (List Bs)) : Prop where
  few : L.length ≤ 100
  line : ∀ i, i < L.length → (L.getD i []).length ≤ 20
  word : ∀ i k, i < L.length → k < (L.getD i []).length → ((L.getD i []).getD k []).length ≤ 10

set_option maxHeartbeats 2000000 in
theorem written_s (w : World) (a : Option Addr) (c : Nat) (L : List (List Bs)) (h : OutV w a L) (hS : Short L) :
    Calls Tryz.prog 7 #[.slice a L.length c] w fun e w' => e = .returned (.string ⟨(wrB L).toArray⟩) ∧ w' = w := by
  have HO := hideP2 h
  have HS := hideP2 hS
  have hfew := hS.few
  clear h hS
  go_enter Tryz.func7, Tryz.ntmps7
  go_wp2_with fail
  go_loop [3, 4] (fun sv iv => ∃ (i : Nat) (s : Bs), i ≤ L.length ∧ sv = .string ⟨s.toArray⟩ ∧ iv = .int .i64 i ∧ s.length ≤ i * 1000 ∧ Hid (s = wrB (L.take i))) (fun _ iv => L.length - (intOf iv).toNat)
  case atStart => exact ⟨0, [], Nat.zero_le _, rfl, rfl, by simp, hideP2 rfl⟩
  case round =>
    obtain ⟨i, s, hi, rfl, rfl, hs, HE⟩ := hrel
    by_cases hlt : i < L.length
    · obtain ⟨g, la, lc, rfl, hc, hws⟩ := HO.out.line i hlt
      have hl20 := HS.out.line i hlt
      have HT : Hid (∀ k, k < (L.getD i []).length → ((L.getD i []).getD k []).length ≤ 10) := fun k hk => HS.out.word i k hlt hk
      have HE2 : Hid (wrB (L.take (i + 1)) = s ++ wrLine (L.getD i [])) := by unfold Hid; rw [wrB_snoc L i hlt, ← HE.out]
      generalize L.getD i [] = ws at *
      have HW := hideP2 hws
      clear hws HE
      go_wp2_with fail
      go_loop [3, 5] (fun sv kv => ∃ (k : Nat) (t : Bs), k ≤ ws.length ∧ sv = .string ⟨t.toArray⟩ ∧ kv = .int .i64 k ∧ t.length ≤ i * 1000 + k * 20 ∧ Hid (t = s ++ lnP ws k)) (fun _ kv => ws.length - (intOf kv).toNat)
      case atStart =>
        refine ⟨0, s, Nat.zero_le _, rfl, rfl, ?_, hideP2 (List.append_nil s).symm⟩
        rw [Nat.zero_mul, Nat.add_zero]; exact hs
      case round =>
        obtain ⟨k, t, hk, rfl, rfl, ht, HF⟩ := hrel
        by_cases hkl : k < ws.length
        · obtain ⟨gl, rfl, hcw⟩ := HW.out k hkl
          have hx := HT.out k hkl
          have HF2 : Hid (s ++ lnP ws (k + 1) = (if 0 < k ∧ ws.getD k [] ≠ [59] then t ++ [32] else t) ++ ws.getD k []) := by
            unfold Hid; rw [lnP, HF.out]; split <;> simp
          generalize ws.getD k [] = x at *
          clear HF
          by_cases k0 : k = 0
          · subst k0
            have HF3 : Hid (s ++ lnP ws (0 + 1) = t ++ x) := by have := HF2.out; rw [if_neg (by omega)] at this; exact this
            clear HF2
            go_wp2_with fail
            go_round
            case rel => exact ⟨0 + 1, t ++ x, by omega, by rw [← cat_mk], by go_num, by simp; omega, hideP2 HF3.out.symm⟩
            case measure => simp [intOf]; omega
          · have bk : (0 : Int) < (k : Int) := by omega
            by_cases k1 : x = [59]
            · have HF3 : Hid (s ++ lnP ws (k + 1) = t ++ x) := by have := HF2.out; rw [if_neg (fun q => q.2 k1)] at this; exact this
              have b1 : (x == [59]) = true := by simpa using k1
              clear HF2 k1
              go_wp2_with fail
              go_round
              case rel => exact ⟨k + 1, t ++ x, by omega, by rw [← cat_mk], by go_num, by simp; omega, hideP2 HF3.out.symm⟩
              case measure => simp [intOf]; omega
            · have HF3 : Hid (s ++ lnP ws (k + 1) = t ++ [32] ++ x) := by have := HF2.out; rw [if_pos ⟨by omega, k1⟩] at this; exact this
              have b1 : (x == [59]) = false := by simpa using k1
              clear HF2 k1
              go_wp2_with fail
              go_round
              case rel => exact ⟨k + 1, t ++ [32] ++ x, by omega, by rw [← cat_mk, ← cat_mk], by go_num, by simp; omega, hideP2 HF3.out.symm⟩
              case measure => simp [intOf]; omega
        · obtain rfl : k = ws.length := by omega
          have HF3 : Hid (wrB (L.take (i + 1)) = t ++ [10]) := by unfold Hid; rw [HE2.out, HF.out, List.append_assoc, lnP_all]
          clear HF HE2
          go_wp2_with fail
          go_round
          case rel => exact ⟨i + 1, t ++ [10], by omega, by rw [← cat_mk], by go_num, by simp; omega, hideP2 HF3.out.symm⟩
          case measure => simp [intOf]; omega
    · have HE2 : Hid (s = wrB L) := by have := HE.out; rw [List.take_of_length_le (by omega)] at this; exact this
      clear HE
      go_wp2_with fail
      go_ret
      exact ⟨congrArg (fun s : Bs => Ending.returned (.string ⟨s.toArray⟩)) HE2.out, rfl⟩
end Go.Proofs.YtnbpdffdnphbeaaGreat

/- What turned of statutekeep gives: lines, the k-th first. -/
namespace Go.Proofs.YtnbpdffdnphbeaaGreat
open Go.RowKit

theorem infoStrs : (Tryz.prog.info? 32).map (fun i => (i.zero, i.size, i.bytes)) = some (some (.slice none 0 0), 1, 24) := by kernel_rfl
theorem slice_cell (a : Option Addr) (n c : Nat) : (Value.slice a n c).oneCell' = true := rfl
/-- How far lines are turned. -/
def trnI (k : Int) (m : Nat) : Nat := (pkI k m).toNat
theorem turnI_take (m k i : Nat) (hi : i < m) : (turnI m k).take (i + 1) = (turnI m k).take i ++ [(i + k) % m] := by
  unfold turnI
  rw [List.take_add_one]
  simp [hi]
theorem turnI_take_len (m k i : Nat) (hi : i ≤ m) : ((turnI m k).take i).length = i := by
  rw [List.length_take, turnI_len]; omega

set_option maxHeartbeats 2000000 in
theorem turned_s (w : World) (a : Option Addr) (c : Nat) (L : List (List Bs)) (k : Int) (h : OutV w a L) (hk : In64 k) (h0 : 0 < L.length) (h1 : L.length ≤ 100) :
    Calls Tryz.prog 8 #[.slice a L.length c, .int .i64 k] w fun e w' => ∃ oa oc, e = .returned (.slice oa L.length oc) ∧ OutV w' oa ((turnI L.length (trnI k L.length)).map fun j => L.getD j []) ∧ Below w.heap.size w w' := by
  obtain ⟨i0, hi0, hz0, hz1, hz2⟩ := info_parts infoStrs
  obtain ⟨vs, hcv, hall⟩ := h
  have hvl := hall.len
  obtain ⟨pb0, pb1⟩ := pkI_bound k L.length (by omega)
  have HPk : Hid (∀ w' : World, Calls Tryz.prog 4 #[.int .i64 k, .int .i64 (L.length : Int)] w' fun e w'' => e = .returned (.int .i64 ((trnI k L.length : Nat) : Int)) ∧ w'' = w') := fun w' => by
    have := kPick_s w' k L.length hk (by omega) (by omega)
    rw [show ((trnI k L.length : Nat) : Int) = pkI k L.length by unfold trnI; omega]
    exact this
  have hp : trnI k L.length < L.length := by unfold trnI; omega
  generalize trnI k L.length = p at *
  have HAll := hideP2 hall
  have HCv := hideP2 hcv
  have hLp : (0 : Int) < (L.length : Int) := by omega
  have bz : ((L.length : Int) == 0) = false := by rw [beq_eq_false_iff_ne]; omega
  clear hall hcv pb0 pb1 hk
  generalize hm : L.length = m at *
  have HM := hideP2 hm
  clear hm
  go_enter Tryz.func8, Tryz.ntmps8
  go_wp2_with fail
  go_loopw [5, 6] (fun ov iv wr => ∃ (i : Nat), i ≤ m ∧ iv = .int .i64 i ∧ Hid (wr.ownsRow w.heap.size 32 1 ov i (((turnI m p).take i).map (vA vs))) ∧ Hid (Below w.heap.size w wr)) (fun _ iv _ => m - (intOf iv).toNat)
  case atStart => exact ⟨0, Nat.zero_le _, rfl, hideP2 (World.ownsRow_nil _ _ _ _), hideP2 (Below.refl _ _)⟩
  case round =>
    obtain ⟨i, hi, rfl, HO, HB⟩ := hrel
    by_cases hlt : i < m
    · have hj : (i + p) % m < m := Nat.mod_lt _ (by omega)
      have hmod : ((i : Int) + (p : Int)).tmod (m : Int) = (((i + p) % m : Nat) : Int) := by
        rw [show ((i : Int) + (p : Int)) = ((i + p : Nat) : Int) by omega]; rfl
      obtain ⟨e1, la, lc, e2, _⟩ := HAll.out.get ((i + p) % m) (by rw [HM.out]; exact hj)
      obtain ⟨g, rfl, hcell⟩ := (HCv.out.below HB.out).cel.at e1
      have HV : Hid (((turnI m p).take (i + 1)).map (vA vs) = ((turnI m p).take i).map (vA vs) ++ [vA vs ((i + p) % m)]) := by unfold Hid; rw [turnI_take m p i hlt, List.map_append]; rfl
      rw [e2] at hcell HV
      have hBw := HB.out.size
      clear e1 e2
      generalize (i + p) % m = j at *
      generalize (L.getD j []).length = ln at *
      generalize ((turnI m p).take i).map (vA vs) = us at *
      go_wp2_with fail
      refine (HPk.out _).mono ?_
      rintro e w' ⟨rfl, hw⟩; obtain rfl := hw.symm
      go_wp2_with (at_builtin; refine wpList_append_own _ rfl _ _ 24 rfl w.heap.size 32 i0 _ 1 24 Tryz.underlying24 hi0 hz0 hz1 hz2 rfl (by decide) _ _ _ rfl (HO.out.alloc _) ⟨wr.heap.size, 0, none⟩ 1 1 [.slice la ln lc] rfl rfl ?c1 ?c2 ?c3 ?c4 ?c5 ?_)
      case c1 => exact news_cells _ _ _ _ rfl
      case c2 => intro u hu; simp at hu; subst hu; rfl
      case c3 => unfold maxLen; omega
      case c4 => omega
      case c5 => simp; omega
      intro v' w2 hown1 hgrow _
      have HB2 : Hid (Below w.heap.size w w2) := (HB.out.alloc hBw _).grown hgrow (by simp; omega) (own_block_le HO.out)
      have HO2 : Hid (w2.ownsRow w.heap.size 32 1 v' (i + 1) (((turnI m p).take (i + 1)).map (vA vs))) := by unfold Hid; rw [HV.out]; exact hown1
      clear hown1 hgrow HV HO HB
      go_wp2_with fail
      go_roundw
      case rel => exact ⟨i + 1, by omega, by go_num, HO2, HB2⟩
      case measure => simp [intOf]; omega
    · obtain rfl : i = m := by omega
      obtain ⟨oa, oc, rfl, hoc⟩ := own_celT HO.out
      go_wp2_with fail
      go_ret
      refine ⟨oa, oc, rfl, ⟨_, hoc, ?_⟩, HB.out⟩
      rw [List.take_of_length_le (by rw [turnI_len]; exact Nat.le_refl _)]
      exact (HAll.out.below HB.out).pick _ (fun j hj => by rw [HM.out]; exact turnI_lt hj)
end Go.Proofs.YtnbpdffdnphbeaaGreat
