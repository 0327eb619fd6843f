/- Rows of words in memory: a slice of slices of strings. -/
import Derived.Test.YtnbpdffdnphbeaaGreatDoorDCel
import Derived.Test.YtnbpdffdnphbeaaGreatDoorPWords
import Derived.Test.YtnbpdffdnphbeaaGreatDoorPMade
import Derived.Test.YtnbpdffdnphbeaaGreatDoorWnum
namespace Go.Proofs.YtnbpdffdnphbeaaGreatDoor
open Go.RowKit

/-- A slice of words. -/
def InT (w : World) (v : Value) (ws : List Bs) : Prop := ∃ a c, v = .slice a ws.length c ∧ CelT w 9 a (strC ws)
def AllIn (w : World) : List Value → List (List Bs) → Prop
  | [], [] => True
  | v :: vs, l :: L => InT w v l ∧ AllIn w vs L
  | _, _ => False
theorem InT.below {w w' : World} {v : Value} {ws : List Bs} (h : InT w v ws) (hb : Below w.heap.size w w') : InT w' v ws := by
  obtain ⟨a, c, e, p⟩ := h; exact ⟨a, c, e, p.below hb⟩
theorem InT.grown {w w' : World} {B n : Nat} {ov v : Value} {ys : List Value} {ws : List Bs} (h : InT w v ws) (hown : w.ownsRow B 37 1 ov n ys) (hg : w.grownBy w' ov.ownBlock) : InT w' v ws := by
  obtain ⟨a, c, e, p⟩ := h; exact ⟨a, c, e, p.grown hown (by decide) hg⟩
theorem AllIn.keep {w w' : World} (hk : ∀ v ws, InT w v ws → InT w' v ws) : ∀ (vs : List Value) (L : List (List Bs)), AllIn w vs L → AllIn w' vs L
  | [], [], _ => trivial
  | v :: vs, l :: L, h => ⟨hk v l h.1, AllIn.keep hk vs L h.2⟩
  | [], _ :: _, h => absurd h id
  | _ :: _, [], h => absurd h id
theorem AllIn.below {w w' : World} {vs : List Value} {L : List (List Bs)} (h : AllIn w vs L) (hb : Below w.heap.size w w') : AllIn w' vs L := AllIn.keep (fun _ _ h => h.below hb) vs L h
theorem AllIn.grown {w w' : World} {vs : List Value} {L : List (List Bs)} {B n : Nat} {ov : Value} {ys : List Value} (h : AllIn w vs L) (hown : w.ownsRow B 37 1 ov n ys) (hg : w.grownBy w' ov.ownBlock) : AllIn w' vs L := AllIn.keep (fun _ _ h => h.grown hown hg) vs L h
theorem AllIn.snoc {w : World} {v : Value} {l : List Bs} (hv : InT w v l) : ∀ {vs : List Value} {L : List (List Bs)}, AllIn w vs L → AllIn w (vs ++ [v]) (L ++ [l])
  | [], [], _ => ⟨hv, trivial⟩
  | _ :: _, _ :: _, h => ⟨h.1, AllIn.snoc hv h.2⟩
  | [], _ :: _, h => absurd h id
  | _ :: _, [], h => absurd h id
theorem AllIn.len {w : World} : ∀ {vs : List Value} {L : List (List Bs)}, AllIn w vs L → vs.length = L.length
  | [], [], _ => rfl
  | _ :: _, _ :: _, h => by rw [List.length_cons, List.length_cons, AllIn.len h.2]
  | [], _ :: _, h => absurd h id
  | _ :: _, [], h => absurd h id
def vA (vs : List Value) (i : Nat) : Value := vs.getD i (.slice none 0 0)
theorem AllIn.get {w : World} : ∀ {vs : List Value} {L : List (List Bs)}, AllIn w vs L → ∀ i, i < L.length → vs[i]? = some (vA vs i) ∧ InT w (vA vs i) (L.getD i [])
  | [], [], _, i, hi => absurd hi (by simp)
  | _ :: _, _ :: _, h, 0, _ => ⟨rfl, h.1⟩
  | _ :: vs, _ :: L, h, i + 1, hi => AllIn.get (vs := vs) (L := L) h.2 i (by simpa using hi)
  | [], _ :: _, h, _, _ => absurd h id
  | _ :: _, [], h, _, _ => absurd h id
/-- Rows of words, behind a slice's pointer. -/
def OutV (w : World) (a : Option Addr) (L : List (List Bs)) : Prop := ∃ vs, CelT w 37 a vs ∧ AllIn w vs L
theorem OutV.below {w w' : World} {a : Option Addr} {L : List (List Bs)} (h : OutV w a L) (hb : Below w.heap.size w w') : OutV w' a L := by
  obtain ⟨vs, h1, h2⟩ := h; exact ⟨vs, h1.below hb, h2.below hb⟩
theorem OutV.line {w : World} {a : Option Addr} {L : List (List Bs)} (h : OutV w a L) (i : Nat) (hi : i < L.length) : ∃ g la lc, a = some ⟨g, 0, none⟩ ∧ w.cell? ⟨g, i, none⟩ = some (.slice la (L.getD i []).length lc) ∧ ∀ k, k < (L.getD i []).length → ∃ gl, la = some ⟨gl, 0, none⟩ ∧ w.cell? ⟨gl, k, none⟩ = some (.string ⟨((L.getD i []).getD k []).toArray⟩) := by
  obtain ⟨vs, h1, h2⟩ := h
  obtain ⟨e1, la, lc, e2, h3⟩ := h2.get i hi
  obtain ⟨g, e3, h4⟩ := h1.cel.at e1
  rw [e2] at h4
  exact ⟨g, la, lc, e3, h4, fun k hk => h3.cel.at (strC_get _ k hk)⟩

/-- A line's first k words, as they are written. -/
def lnP (ws : List Bs) : Nat → Bs
  | 0 => []
  | k + 1 => (if 0 < k ∧ ws.getD k [] ≠ [59] then lnP ws k ++ [32] else lnP ws k) ++ ws.getD k []
def wrT : List Bs → Bs
  | [] => []
  | w :: r => (if w = [59] then w else 32 :: w) ++ wrT r
theorem wrT_snoc (l : List Bs) (w : Bs) : wrT (l ++ [w]) = wrT l ++ (if w = [59] then w else 32 :: w) := by
  induction l with
  | nil => simp [wrT]
  | cons x r ih => rw [List.cons_append, wrT, ih, wrT, List.append_assoc]
theorem wrL_T (l : List Bs) : wrL l = wrT l ++ [10] := by
  induction l with
  | nil => rfl
  | cons x r ih => rw [wrL, wrT, ih, List.append_assoc]
theorem lnP_cons (w : Bs) (r : List Bs) : ∀ k, k ≤ r.length → lnP (w :: r) (k + 1) = w ++ wrT (r.take k) := by
  intro k
  induction k with
  | zero => intro _; simp [lnP, wrT]
  | succ k ih =>
    intro hk
    have e : (w :: r).getD (k + 1) [] = r.getD k [] := rfl
    have et : r.take (k + 1) = r.take k ++ [r.getD k []] := by
      rw [List.take_add_one]; simp [List.getD, show k < r.length by omega]
    rw [lnP, e, ih (by omega), et, wrT_snoc]
    by_cases h : r.getD k [] = [59]
    · rw [if_neg (fun q => q.2 h), if_pos h]; simp
    · rw [if_pos ⟨by omega, h⟩, if_neg h]; simp
theorem lnP_all (ws : List Bs) : lnP ws ws.length ++ [10] = wrLine ws := by
  cases ws with
  | nil => rfl
  | cons w r => rw [List.length_cons, lnP_cons w r _ (Nat.le_refl _), List.take_length, wrLine, wrL_T, List.append_assoc]
theorem wrB_snoc (L : List (List Bs)) (i : Nat) (hi : i < L.length) : wrB (L.take (i + 1)) = wrB (L.take i) ++ wrLine (L.getD i []) := by
  unfold wrB
  rw [List.take_add_one, List.flatMap_append]
  simp [List.getD, hi]

end Go.Proofs.YtnbpdffdnphbeaaGreatDoor

/- Plain: the words of a frame's tests, guards, sums and lines; what Itoa and markText give. -/
namespace Go.Proofs.YtnbpdffdnphbeaaGreatDoor
open Go.RowKit

/-- The library's table lies in memory. -/
def TabK (w : World) : Prop := Tab w ∧ ∃ g, Tryz.prog.globalNamed "internal/strconv.uint64pow10" = some g ∧ g < w.heap.size
theorem TabK.below {w w' : World} (h : TabK w) (hb : Below w.heap.size w w') : TabK w' := by
  obtain ⟨h1, g, h2, h3⟩ := h
  exact ⟨h1.below ⟨g, h2, h3⟩ hb, g, h2, Nat.lt_of_lt_of_le h3 hb.size⟩
theorem fItoa_s (w : World) (n : Int) (h0 : 0 ≤ n) (h1 : n ≤ 9999) (hT : TabK w) : Calls Tryz.prog 56 #[.int .i64 n] w fun e w' => e = .returned (.string ⟨(Lib.itoa n).toArray⟩) ∧ Below w.heap.size w w' := by
  refine (Tryz.strconv_Itoa_laid n (by omega) (by omega) w hT.1).mono ?_
  rintro e w' ⟨rfl, k, os, rfl⟩
  exact ⟨rfl, (KT.growN k os (Nat.le_refl _)).below⟩
/-- The marks. -/
def mkF (k : Nat) : Bs := ([[60], [60, 61], [61], [33, 61], [62, 61], [62]] : List Bs).getD k []
theorem fMark_s (w : World) (k : Nat) (hk : k < 6) : Calls Tryz.prog 205 #[.int .i64 (k : Int)] w fun e w' => e = .returned (.string ⟨(mkF k).toArray⟩) ∧ Below w.heap.size w w' := by
  have HB : Hid (∀ o, Below w.heap.size w (w.alloc o)) := fun o => (Below.refl _ _).alloc (Nat.le_refl _) o
  have hc : k = 0 ∨ k = 1 ∨ k = 2 ∨ k = 3 ∨ k = 4 ∨ k = 5 := by omega
  rcases hc with rfl | rfl | rfl | rfl | rfl | rfl
  all_goals
    go_enter Tryz.func205, Tryz.ntmps205
    go_wp2_with fail
    go_ret
    exact ⟨rfl, HB.out _⟩
/-- The words of a test itself. -/
def coreW (t : FTest) : List Bs :=
  if t.kind = 0 then [kAlwW] else if t.kind = 1 then [inpF t.x.toNat] else if t.kind = 2 then [kHasW, nmB 99 t.x.toNat] else
  if t.kind = 3 then [inpF t.x.toNat, mkF t.mark.toNat, Lib.itoa t.n] else [inpF t.x.toNat, mkF t.mark.toNat, inpF t.y.toNat]
def tstW (t : FTest) (lo : Bool) : List Bs := (if t.not = true then [[110, 111, 116]] else []) ++ (if (lo && t.pair) = true then [[40]] else []) ++ coreW t ++ (if (lo && t.pair) = true then [[41]] else [])
/-- Words in memory, behind a block. -/
structure WdS (w wx : World) (bo : Obj) (v : Value) (ws : List Bs) : Prop where
  box : wx.heap[w.heap.size]? = some bo
  own : wx.ownsRow (w.heap.size + 1) 9 1 v ws.length (strC ws)
  bel : Below w.heap.size w wx
theorem WdS.below {w wx w' : World} {bo : Obj} {v : Value} {ws : List Bs} (h : WdS w wx bo v ws) (hb : Below wx.heap.size wx w') : WdS w w' bo v ws := ⟨(hb.block _ (hlt_of h.box)).trans h.box, owns_below h.own hb, h.bel.trans (hb.mono h.bel.size)⟩
theorem WdS.app {w wx wz w9 : World} {bo : Obj} {v v9 : Value} {ws ns : List Bs} (h : WdS w wx bo v ws) (hz : Below wx.heap.size wx wz) (hg : wz.grownBy w9 v.ownBlock) (hown : w9.ownsRow (w.heap.size + 1) 9 1 v9 (ws.length + ns.length) (strC ws ++ strC ns)) : WdS w w9 bo v9 (ws ++ ns) := by
  have hZ := h.below hz
  have hb : Below (w.heap.size + 1) wz w9 := (Below.refl _ wz).grown hg (hlt_of hZ.box) (own_block_le hZ.own)
  refine ⟨(hb.block _ (Nat.lt_succ_self _)).trans hZ.box, ?_, hZ.bel.trans (hb.mono (Nat.le_succ _))⟩
  rw [List.length_append]
  have e : strC (ws ++ ns) = strC ws ++ strC ns := by unfold strC; rw [List.map_append]
  rw [e]; exact hown
end Go.Proofs.YtnbpdffdnphbeaaGreatDoor
