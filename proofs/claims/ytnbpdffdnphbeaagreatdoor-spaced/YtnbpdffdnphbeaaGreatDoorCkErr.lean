/- What the program's check asks of a line's names: those of inputs, sums and guards. -/
import Derived.Test.YtnbpdffdnphbeaaGreatDoorCkLines
namespace Go.Proofs.YtnbpdffdnphbeaaGreatDoor
open Go.RowKit

/-- What a call answers from a world on: a value, and all that was there is as it was. -/
def Ans (f : FuncId) (args : Array Value) (w : World) (v : Value) : Prop := ∀ w', Below w.heap.size w w' → Calls Tryz.prog f args w' fun e w'' => e = .returned v ∧ Below w'.heap.size w' w''
theorem Ans.at {f : FuncId} {args : Array Value} {w : World} {v : Value} (h : Ans f args w v) {w' : World} (hb : Below w.heap.size w w') : Ans f args w' v := fun w'' h2 => h w'' (hb.trans (h2.mono hb.size))

theorem hasLine_a {w : World} {a : Option Addr} {ls : List LX} (h : LinV w a ls) (c : Nat) (k : Int) (nm : Bs) : Ans 219 #[.slice a ls.length c, .int .i64 k, .string ⟨nm.toArray⟩] w (.bool (hasL (fs ls) k nm)) :=
  fun w' hb => hasLine_s w' a c ls k nm (h.below hb (Nat.le_refl _))
theorem hasLine_t {w : World} {a : Option Addr} {ls : List LX} (h : LinV w a ls) (c : Nat) (k : Int) (nm : Bs) (i : Nat) (hi : i < ls.length) : Ans 219 #[.slice a i c, .int .i64 k, .string ⟨nm.toArray⟩] w (.bool (hasL ((fs ls).take i) k nm)) := by
  have := hasLine_a (h.take i) c k nm
  rw [List.length_take, Nat.min_eq_left (by omega), show fs (ls.take i) = (fs ls).take i from List.map_take ..] at this
  exact this
theorem isCon_a {w : World} {a : Option Addr} {ls : List LX} (h : LinV w a ls) (c : Nat) (nm : Bs) : Ans 220 #[.slice a ls.length c, .string ⟨nm.toArray⟩] w (.bool (isCon (fs ls) nm)) :=
  fun w' hb => isConclusion_s w' a c ls nm (h.below hb (Nat.le_refl _))
theorem findRule_a {w : World} {a : Option Addr} {ls : List LX} (h : LinV w a ls) (c : Nat) (nm : Bs) : Ans 223 #[.slice a ls.length c, .string ⟨nm.toArray⟩] w (.int .i64 (findR (fs ls) nm)) :=
  fun w' hb => findRule_s w' a c ls nm (h.below hb (Nat.le_refl _))

theorem isSummand_s (w : World) (a : Option Addr) (n c : Nat) (nm : Bs) (p q : Bool) (h1 : Ans 219 #[.slice a n c, .int .i64 1, .string ⟨nm.toArray⟩] w (.bool p)) (h2 : Ans 220 #[.slice a n c, .string ⟨nm.toArray⟩] w (.bool q)) :
    Calls Tryz.prog 221 #[.slice a n c, .string ⟨nm.toArray⟩] w fun e w' => e = .returned (.bool (p || q)) ∧ Below w.heap.size w w' := by
  have H1 := hideP2 h1
  have H2 := hideP2 h2
  clear h1 h2
  cases p
  · go_enter Tryz.func221, Tryz.ntmps221
    go_wp2_with fail
    refine (H1.out _ (Below.refl _ _)).mono ?_
    rintro e w1 ⟨rfl, hb1⟩
    have HB1 := hideP2 hb1
    clear hb1
    go_wp2_with fail
    refine (H2.out _ HB1.out).mono ?_
    rintro e w2 ⟨rfl, hb2⟩
    have HB2 : Hid (Below w.heap.size w w2) := HB1.out.trans (hb2.mono HB1.out.size)
    clear hb2
    go_wp2_with fail
    go_ret
    exact ⟨rfl, HB2.out⟩
  · go_enter Tryz.func221, Tryz.ntmps221
    go_wp2_with fail
    refine (H1.out _ (Below.refl _ _)).mono ?_
    rintro e w1 ⟨rfl, hb1⟩
    have HB1 := hideP2 hb1
    clear hb1
    go_wp2_with fail
    go_ret
    exact ⟨rfl, HB1.out⟩
theorem isSummand_a {w : World} {a : Option Addr} {ls : List LX} (h : LinV w a ls) (c : Nat) (nm : Bs) : Ans 221 #[.slice a ls.length c, .string ⟨nm.toArray⟩] w (.bool (sumOk (fs ls) nm)) :=
  fun w' hb => isSummand_s w' a ls.length c nm _ _ ((hasLine_a h c 1 nm).at hb) ((isCon_a h c nm).at hb)

theorem size_alloc {w w1 : World} {o : Obj} (h : Below (w.alloc o).heap.size (w.alloc o) w1) : Below w.heap.size w w1 := ((Below.refl _ _).alloc (Nat.le_refl _) o).trans (h.mono (Nat.le_of_lt (lt_end _ _)))
theorem own_row {w w1 : World} {cs : Array Value} {T : TypeId} {fz : Nat × Nat} (h : Below (w.alloc (.cells cs T fz)).heap.size (w.alloc (.cells cs T fz)) w1) (j : Nat) : w1.cell? ⟨w.heap.size, j, none⟩ = cs[j]? := by
  have h1 : w1.heap[w.heap.size]? = some (.cells cs T fz) := by rw [h.block _ (lt_end _ _)]; exact hb_end _ _
  simp only [World.cell?, h1]; rfl

set_option maxHeartbeats 1000000 in
theorem isNodeKnown_s (w : World) (a : Option Addr) (c : Nat) (ls : List LX) (x : PNode) (h : LinV w a ls) :
    Calls Tryz.prog 222 #[.slice a ls.length c, nodeV x] w fun e w' => e = .returned (.bool (nodeOk (fs ls) x)) ∧ Below w.heap.size w w' := by
  obtain ⟨kd, le, ri, nm, mk, ot, nu⟩ := x
  have HC := hideP2 (isCon_a h c nm)
  have HF := hideP2 (hasLine_a h c 2 nm)
  have HN := hideP2 (hasLine_a h c 1 nm)
  have HO := hideP2 (hasLine_a h c 1 ot)
  have hfew := h.few
  clear h
  unfold nodeV
  by_cases k5 : kd = 5
  · have HR : Hid (nodeOk (fs ls) ⟨kd, le, ri, nm, mk, ot, nu⟩ = isCon (fs ls) nm) := by unfold Hid nodeOk; rw [if_pos k5]
    have b5 : (kd == 5) = true := by simpa using k5
    clear k5 HF HN HO
    go_enter Tryz.func222, Tryz.ntmps222
    go_wp2_with fail
    refine (HC.out _ ((Below.refl _ _).alloc (Nat.le_refl _) _)).mono ?_
    rintro e w1 ⟨rfl, hb1⟩
    have HB1 : Hid (Below w.heap.size w w1) := size_alloc hb1
    clear hb1
    go_wp2_with fail
    go_ret
    exact ⟨ret_bool HR.out.symm, HB1.out⟩
  have b5 : (kd == 5) = false := by simpa using k5
  by_cases k6 : kd = 6
  · have HR : Hid (nodeOk (fs ls) ⟨kd, le, ri, nm, mk, ot, nu⟩ = hasL (fs ls) 2 nm) := by unfold Hid nodeOk; rw [if_neg k5, if_pos k6]
    have b6 : (kd == 6) = true := by simpa using k6
    clear k5 k6 HC HN HO
    go_enter Tryz.func222, Tryz.ntmps222
    go_wp2_with fail
    refine (HF.out _ ((Below.refl _ _).alloc (Nat.le_refl _) _)).mono ?_
    rintro e w1 ⟨rfl, hb1⟩
    have HB1 : Hid (Below w.heap.size w w1) := size_alloc hb1
    clear hb1
    go_wp2_with fail
    go_ret
    exact ⟨ret_bool HR.out.symm, HB1.out⟩
  have b6 : (kd == 6) = false := by simpa using k6
  by_cases k7 : kd = 7
  · have HR : Hid (nodeOk (fs ls) ⟨kd, le, ri, nm, mk, ot, nu⟩ = ((decide (ot = []) || hasL (fs ls) 1 ot) && hasL (fs ls) 1 nm)) := by unfold Hid nodeOk; rw [if_neg k5, if_neg k6, if_pos k7]
    have b7 : (kd == 7) = true := by simpa using k7
    clear k5 k6 HC HF
    generalize hasL (fs ls) 1 ot = p at *
    generalize hasL (fs ls) 1 nm = q at *
    by_cases ko : ot = []
    · have HR2 : Hid (nodeOk (fs ls) ⟨kd, le, ri, nm, mk, ot, nu⟩ = q) := by unfold Hid; rw [HR.out, decide_eq_true ko]; rfl
      have bo : (ot == []) = true := by simpa using ko
      clear HR ko k7
      go_enter Tryz.func222, Tryz.ntmps222
      go_wp2_with fail
      refine (HN.out _ ((Below.refl _ _).alloc (Nat.le_refl _) _)).mono ?_
      rintro e w1 ⟨rfl, hb1⟩
      have HB1 : Hid (Below w.heap.size w w1) := size_alloc hb1
      clear hb1
      go_wp2_with fail
      go_ret
      exact ⟨ret_bool HR2.out.symm, HB1.out⟩
    · have HR2 : Hid (nodeOk (fs ls) ⟨kd, le, ri, nm, mk, ot, nu⟩ = (p && q)) := by unfold Hid; rw [HR.out, decide_eq_false ko]; rfl
      have bo : (ot == []) = false := by simpa using ko
      clear HR ko k7
      cases p
      · go_enter Tryz.func222, Tryz.ntmps222
        go_wp2_with fail
        refine (HO.out _ ((Below.refl _ _).alloc (Nat.le_refl _) _)).mono ?_
        rintro e w1 ⟨rfl, hb1⟩
        have HB1 : Hid (Below w.heap.size w w1) := size_alloc hb1
        clear hb1
        go_wp2_with fail
        go_ret
        exact ⟨ret_bool HR2.out.symm, HB1.out⟩
      · go_enter Tryz.func222, Tryz.ntmps222
        go_wp2_with fail
        refine (HO.out _ ((Below.refl _ _).alloc (Nat.le_refl _) _)).mono ?_
        rintro e w1 ⟨rfl, hb1⟩
        have HB1 : Hid (Below w.heap.size w w1) := size_alloc hb1
        have q1 := own_row hb1
        clear hb1
        go_wp2_with fail
        refine (HN.out _ HB1.out).mono ?_
        rintro e w2 ⟨rfl, hb2⟩
        have HB2 : Hid (Below w.heap.size w w2) := HB1.out.trans (hb2.mono HB1.out.size)
        clear hb2
        go_wp2_with fail
        go_ret
        exact ⟨ret_bool HR2.out.symm, HB2.out⟩
  · have HR : Hid (nodeOk (fs ls) ⟨kd, le, ri, nm, mk, ot, nu⟩ = true) := by unfold Hid nodeOk; rw [if_neg k5, if_neg k6, if_neg k7]
    have b7 : (kd == 7) = false := by simpa using k7
    clear k5 k6 k7 HC HF HN HO
    go_enter Tryz.func222, Tryz.ntmps222
    go_wp2_with fail
    go_ret
    exact ⟨ret_bool HR.out.symm, (Below.refl _ _).alloc (Nat.le_refl _) _⟩
theorem isNodeKnown_a {w : World} {a : Option Addr} {ls : List LX} (h : LinV w a ls) (c : Nat) (x : PNode) : Ans 222 #[.slice a ls.length c, nodeV x] w (.bool (nodeOk (fs ls) x)) :=
  fun w' hb => isNodeKnown_s w' a c ls x (h.below hb (Nat.le_refl _))

set_option maxHeartbeats 1000000 in
theorem inputError_s (w : World) (a : Option Addr) (c : Nat) (ls : List LX) (i : Nat) (hi : i < ls.length) (hc : ls.length ≤ c) (h : LinV w a ls) :
    Calls Tryz.prog 163 #[.slice a ls.length c, .int .i64 i] w fun e w' => e = .returned (.int .i64 (inpE (fs ls) i)) ∧ Below w.heap.size w w' := by
  have hfew := h.few
  have HR : Hid (inpE (fs ls) i = if hasL ((fs ls).take i) 1 (lAt ls i).1.name || (hasL ((fs ls).take i) 2 (lAt ls i).1.name || isCon (fs ls) (lAt ls i).1.name) then 4 else 0) := by unfold Hid inpE; rw [fs_get]
  have H1 := hideP2 (hasLine_t h c 1 (lAt ls i).1.name i hi)
  have H2 := hideP2 (hasLine_t h c 2 (lAt ls i).1.name i hi)
  have H3 := hideP2 (isCon_a h c (lAt ls i).1.name)
  obtain ⟨gl, sa, sn, sc, na, nn, nc, rfl, hgl, ⟨c0, c1, c2, c3, c4, c5, c6, c7, c8, c9, c10⟩, _, _⟩ := h.line hi
  clear h c0 c2 c3 c4 c5 c6 c7 c8 c9 c10
  generalize (lAt ls i).1.name = nm at *
  generalize hasL ((fs ls).take i) 1 nm = p at *
  generalize hasL ((fs ls).take i) 2 nm = q at *
  generalize isCon (fs ls) nm = r at *
  cases p
  · cases q
    · go_enter Tryz.func163, Tryz.ntmps163
      go_wp2_with fail
      refine (H1.out _ (Below.refl _ _)).mono ?_
      rintro e w1 ⟨rfl, hb1⟩
      have HB1 := hideP2 hb1
      clear hb1
      go_wp2_with fail
      refine (H2.out _ HB1.out).mono ?_
      rintro e w2 ⟨rfl, hb2⟩
      have HB2 : Hid (Below w.heap.size w w2) := HB1.out.trans (hb2.mono HB1.out.size)
      clear hb2
      go_wp2_with fail
      refine (H3.out _ HB2.out).mono ?_
      rintro e w3 ⟨rfl, hb3⟩
      have HB3 : Hid (Below w.heap.size w w3) := HB2.out.trans (hb3.mono HB2.out.size)
      clear hb3
      cases r
      · go_wp2_with fail
        go_ret
        exact ⟨ret_int HR.out.symm, HB3.out⟩
      · go_wp2_with fail
        go_ret
        exact ⟨ret_int HR.out.symm, HB3.out⟩
    · go_enter Tryz.func163, Tryz.ntmps163
      go_wp2_with fail
      refine (H1.out _ (Below.refl _ _)).mono ?_
      rintro e w1 ⟨rfl, hb1⟩
      have HB1 := hideP2 hb1
      clear hb1
      go_wp2_with fail
      refine (H2.out _ HB1.out).mono ?_
      rintro e w2 ⟨rfl, hb2⟩
      have HB2 : Hid (Below w.heap.size w w2) := HB1.out.trans (hb2.mono HB1.out.size)
      clear hb2
      go_wp2_with fail
      go_ret
      exact ⟨ret_int HR.out.symm, HB2.out⟩
  · go_enter Tryz.func163, Tryz.ntmps163
    go_wp2_with fail
    refine (H1.out _ (Below.refl _ _)).mono ?_
    rintro e w1 ⟨rfl, hb1⟩
    have HB1 := hideP2 hb1
    clear hb1
    go_wp2_with fail
    go_ret
    exact ⟨ret_int HR.out.symm, HB1.out⟩
end Go.Proofs.YtnbpdffdnphbeaaGreatDoor

/- What the program's links tell of lines that lie in memory: conclusions, labels, places of names. -/
namespace Go.Proofs.YtnbpdffdnphbeaaGreatDoor
open Go.RowKit

/-- The place of a name, or -1. -/
def findI (nm : Bs) : List Bs → Nat → Int
  | [], _ => -1
  | x :: r, i => if x = nm then (i : Int) else findI nm r (i + 1)
def findN (names : List Bs) (nm : Bs) : Int := findI nm names 0
def headsG : List PLine → List Bs → List Bs
  | [], acc => acc
  | x :: r, acc => headsG r (if x.kind = 3 ∧ findN acc x.conc < 0 then acc ++ [x.conc] else acc)
def headsB (ls : List PLine) : List Bs := headsG ls []
def labsG : List PLine → List Bs → List Bs
  | [], acc => acc
  | x :: r, acc => labsG r (if x.kind = 3 then acc ++ [x.name] else acc)
def labsB (ls : List PLine) : List Bs := labsG ls []

theorem findI_drop (nm : Bs) (l : List Bs) (i : Nat) (h : i < l.length) : findI nm (l.drop i) i = if l.getD i [] = nm then (i : Int) else findI nm (l.drop (i + 1)) (i + 1) := by
  rw [List.drop_eq_getElem_cons h, findI]; simp [List.getD, h]
theorem headsG_drop (ls : List PLine) (i : Nat) (acc : List Bs) (h : i < ls.length) : headsG (ls.drop i) acc = headsG (ls.drop (i + 1)) (if (lA ls i).kind = 3 ∧ findN acc (lA ls i).conc < 0 then acc ++ [(lA ls i).conc] else acc) := by
  rw [List.drop_eq_getElem_cons h, headsG]; simp [lA, List.getD, h]
theorem labsG_drop (ls : List PLine) (i : Nat) (acc : List Bs) (h : i < ls.length) : labsG (ls.drop i) acc = labsG (ls.drop (i + 1)) (if (lA ls i).kind = 3 then acc ++ [(lA ls i).name] else acc) := by
  rw [List.drop_eq_getElem_cons h, labsG]; simp [lA, List.getD, h]

def strC (l : List Bs) : List Value := l.map fun s => Value.string ⟨s.toArray⟩
/-- Names lie in memory, behind a slice's pointer. -/
structure StrV (w : World) (a : Option Addr) (names : List Bs) : Prop where
  blk : 0 < names.length → ∃ g, a = some ⟨g, 0, none⟩ ∧ ∀ i, i < names.length → w.cell? ⟨g, i, none⟩ = some (.string ⟨(names.getD i []).toArray⟩)
  few : names.length ≤ 10000

theorem strC_get (names : List Bs) (i : Nat) (h : i < names.length) : (strC names)[i]? = some (.string ⟨(names.getD i []).toArray⟩) := by
  simp [strC, List.getD, h]
theorem own_str {w : World} {B : Nat} {v : Value} {names : List Bs} (h : w.ownsRow B 9 1 v names.length (strC names)) (hf : names.length ≤ 10000) : ∃ a c, v = .slice a names.length c ∧ StrV w a names := by
  rcases h.2 with ⟨h1, h2⟩ | ⟨g, cap, cur, h1, _, h3, _, _, _, h7⟩
  · exact ⟨none, 0, by rw [h1, h2], ⟨fun h0 => by omega, hf⟩⟩
  · refine ⟨some ⟨g, 0, none⟩, cap, h1, ⟨fun _ => ⟨g, rfl, fun i hi => cell_take2 h3 (n := names.length * 1) h7 (strC_get names i hi)⟩, hf⟩⟩

set_option maxHeartbeats 1000000 in
theorem find_s (w : World) (a : Option Addr) (c : Nat) (names : List Bs) (nm : Bs) (h : StrV w a names) :
    Calls Tryz.prog 167 #[.slice a names.length c, .string ⟨nm.toArray⟩] w fun e w' => e = .returned (.int .i64 (findN names nm)) ∧ w' = w := by
  have HS := hideP2 h
  have hfew := h.few
  clear h
  go_enter Tryz.func167, Tryz.ntmps167
  go_wp2_with fail
  go_loop [9] (fun iv => ∃ (i : Nat), i ≤ names.length ∧ iv = .int .i64 i ∧ Hid (findI nm (names.drop i) i = findN names nm)) (fun iv => names.length - (intOf iv).toNat)
  case atStart => exact ⟨0, Nat.zero_le _, rfl, hideP2 rfl⟩
  case round =>
    obtain ⟨i, hi, rfl, HE⟩ := hrel
    by_cases hlt : i < names.length
    · obtain ⟨g, rfl, hcs⟩ := HS.out.blk (by omega)
      have hc := hcs i hlt
      have hE := HE.out
      rw [findI_drop nm names i hlt] at hE
      have HE2 := hideP2 hE
      clear HE hE hcs
      generalize names.getD i [] = s at *
      by_cases k1 : s = nm
      · have HE3 : Hid (findN names nm = i) := by have := HE2.out; rw [if_pos k1] at this; exact this.symm
        have b1 : (s == nm) = true := by simpa using k1
        clear HE2 k1
        go_wp2_with fail
        go_ret
        exact ⟨ret_int HE3.out.symm, rfl⟩
      · have HE3 : Hid (findI nm (names.drop (i + 1)) (i + 1) = findN names nm) := by have := HE2.out; rw [if_neg k1] at this; exact this
        have b1 : (s == nm) = false := by simpa using k1
        clear HE2 k1
        go_wp2_with fail
        go_round
        case rel => exact ⟨i + 1, by omega, by go_num, HE3⟩
        case measure => simp [intOf]; omega
    · have HE3 : Hid (findN names nm = -1) := by have := HE.out; rw [List.drop_eq_nil_of_le (by omega)] at this; exact this.symm
      clear HE
      go_wp2_with fail
      go_ret
      exact ⟨ret_int HE3.out.symm, rfl⟩

theorem infoStr : (Tryz.prog.info? 9).map (fun i => (i.zero, i.size, i.bytes)) = some (some (.string ⟨#[]⟩), 1, 16) := by kernel_rfl
theorem strC_snoc (l : List Bs) (s : Bs) : strC (l ++ [s]) = strC l ++ [.string ⟨s.toArray⟩] := by simp [strC]

set_option maxHeartbeats 2000000 in
theorem conclusions_s (w : World) (a : Option Addr) (c : Nat) (ls : List LX) (h : LinV w a ls) :
    Calls Tryz.prog 166 #[.slice a ls.length c] w fun e w' => ∃ v, e = .returned v ∧ w'.ownsRow w.heap.size 9 1 v (headsB (fs ls)).length (strC (headsB (fs ls))) ∧ (headsB (fs ls)).length ≤ ls.length ∧ Below w.heap.size w w' := by
  obtain ⟨i0, hi0, hz0, hz1, hz2⟩ := info_parts infoStr
  have HL := hideP2 h
  have hfew := h.few
  obtain ⟨B, hB⟩ : ∃ B, B = w.heap.size := ⟨_, rfl⟩
  have HB0 := hideP2 hB
  clear h hB
  go_enter Tryz.func166, Tryz.ntmps166
  go_wp2_with fail
  go_loopw [3, 9] (fun ov iv wr => ∃ (i : Nat) (acc : List Bs), i ≤ ls.length ∧ acc.length ≤ i ∧ iv = .int .i64 i ∧ Hid (wr.ownsRow B 9 1 ov acc.length (strC acc)) ∧ Hid (Below B w wr) ∧ Hid (headsG ((fs ls).drop i) acc = headsB (fs ls))) (fun _ iv _ => ls.length - (intOf iv).toNat)
  case atStart => exact ⟨0, [], Nat.zero_le _, Nat.le_refl _, rfl, hideP2 ⟨rfl, .inr ⟨w.heap.size, 0, #[], rfl, by rw [HB0.out]; exact Nat.le_refl _, hb_end _ _, Nat.le_refl _, Nat.zero_le _, rfl, rfl⟩⟩, hideP2 ((Below.refl _ _).alloc (by rw [HB0.out]; exact Nat.le_refl _) _), hideP2 rfl⟩
  case round =>
    obtain ⟨i, acc, hi, hacc, rfl, HO, HB, HE⟩ := hrel
    by_cases hlt : i < ls.length
    · obtain ⟨gl, sa, sn, sc, na, nn, nc, rfl, hgl, ⟨c0, c1, c2, c3, c4, c5, c6, c7, c8, c9, c10⟩, _, _⟩ := (HL.out.below HB.out (by rw [HB0.out]; exact Nat.le_refl _)).line hlt
      have hE := HE.out
      rw [headsG_drop _ i _ (by simpa using hlt), fs_get] at hE
      have HE2 := hideP2 hE
      have hsz : B ≤ wr.heap.size := by have := HB.out.size; have h2 := HB0.out; omega
      obtain ⟨oa, oc, rfl, hstr⟩ := own_str HO.out (by omega)
      have HF := hideP2 (fun w' (hb : Below wr.heap.size wr w') nm => find_s w' oa oc acc nm ⟨fun h0 => let ⟨g, e, p⟩ := hstr.blk h0; ⟨g, e, fun j hj => by rw [hb.cell (p := ⟨g, j, none⟩) (by rcases Nat.lt_or_ge g wr.heap.size with h1 | h1; exact h1; have := p j hj; rw [World.cell?, Array.getElem?_eq_none (by simpa using h1)] at this; cases this)]; exact p j hj⟩, hstr.few⟩)
      clear HE hE hstr
      generalize (lAt ls i).1 = x at *
      obtain ⟨kd, n1, lo, hi', cc, S, N, ro, te, de, lw⟩ := x
      simp only at c0 c1 c2 c3 c4 c5 c6 c7 c8 c9 c10
      by_cases k1 : kd = 3
      · have b1 : (kd == 3) = true := by simpa using k1
        by_cases k2 : findN acc cc < 0
        · have HE3 : Hid (headsG ((fs ls).drop (i + 1)) (acc ++ [cc]) = headsB (fs ls)) := by have := HE2.out; rw [if_pos ⟨k1, k2⟩] at this; exact this
          clear HE2 k1
          go_wp2_with fail
          refine (HF.out _ ((Below.refl _ _).alloc (Nat.le_refl _) _) cc).mono ?_
          rintro e w1 ⟨rfl, hw⟩; obtain rfl := hw.symm
          go_wp2_with (at_builtin; refine wpList_append_own _ rfl _ _ 37 rfl B 9 i0 _ 1 16 Tryz.underlying37 hi0 hz0 hz1 hz2 rfl (by decide) _ _ _ rfl ((HO.out.alloc _).alloc _) ⟨wr.heap.size + 1, 0, none⟩ 1 1 [.string ⟨cc.toArray⟩] rfl rfl ?c1 ?c2 ?c3 ?c4 ?c5 ?_)
          case c1 => exact World.news_of_block (heap_alloc2_new wr _ _)
          case c2 => intro u hu; simp at hu; subst hu; rfl
          case c3 => unfold maxLen; omega
          case c4 => omega
          case c5 => simp; omega
          intro v' w2 hown1 hgrow _
          have HB2 : Hid (Below B w w2) := ((HB.out.alloc hsz _).alloc (Nat.le_trans hsz (Nat.le_of_lt (lt_end _ _))) _).grown hgrow (by simp; omega) (own_block_le HO.out)
          have HO2 : Hid (w2.ownsRow B 9 1 v' (acc ++ [cc]).length (strC (acc ++ [cc]))) := by unfold Hid; rw [strC_snoc]; simpa using hown1
          clear hgrow hown1
          go_wp2_with fail
          go_roundw
          case rel => exact ⟨i + 1, acc ++ [cc], by omega, by simp; omega, by go_num, HO2, HB2, HE3⟩
          case measure => simp [intOf]; omega
        · have HE3 : Hid (headsG ((fs ls).drop (i + 1)) acc = headsB (fs ls)) := by have := HE2.out; rw [if_neg (fun h => k2 h.2)] at this; exact this
          have k3 : decide (findN acc cc < 0) = false := decide_eq_false k2
          clear HE2 k1
          go_wp2_with fail
          refine (HF.out _ ((Below.refl _ _).alloc (Nat.le_refl _) _) cc).mono ?_
          rintro e w1 ⟨rfl, hw⟩; obtain rfl := hw.symm
          go_wp2_with fail
          go_roundw
          case rel => exact ⟨i + 1, acc, by omega, by omega, by go_num, hideP2 (HO.out.alloc _), hideP2 (HB.out.alloc hsz _), HE3⟩
          case measure => simp [intOf]; omega
      · have HE3 : Hid (headsG ((fs ls).drop (i + 1)) acc = headsB (fs ls)) := by have := HE2.out; rw [if_neg (fun h => k1 h.1)] at this; exact this
        have b1 : (kd == 3) = false := by simpa using k1
        clear HE2 k1
        go_wp2_with fail
        go_roundw
        case rel => exact ⟨i + 1, acc, by omega, by omega, by go_num, hideP2 (HO.out.alloc _), hideP2 (HB.out.alloc hsz _), HE3⟩
        case measure => simp [intOf]; omega
    · have HE3 : Hid (acc = headsB (fs ls)) := by have := HE.out; rw [List.drop_eq_nil_of_le (by simp; omega)] at this; exact this
      clear HE
      go_wp2_with fail
      go_ret
      exact ⟨_, rfl, by rw [← HE3.out, ← HB0.out]; exact HO.out, by rw [← HE3.out]; omega, by rw [← HB0.out]; exact HB.out⟩

set_option maxHeartbeats 2000000 in
theorem ruleLabels_s (w : World) (a : Option Addr) (c : Nat) (ls : List LX) (h : LinV w a ls) :
    Calls Tryz.prog 171 #[.slice a ls.length c] w fun e w' => ∃ v, e = .returned v ∧ w'.ownsRow w.heap.size 9 1 v (labsB (fs ls)).length (strC (labsB (fs ls))) ∧ (labsB (fs ls)).length ≤ ls.length ∧ Below w.heap.size w w' := by
  obtain ⟨i0, hi0, hz0, hz1, hz2⟩ := info_parts infoStr
  have HL := hideP2 h
  have hfew := h.few
  obtain ⟨B, hB⟩ : ∃ B, B = w.heap.size := ⟨_, rfl⟩
  have HB0 := hideP2 hB
  clear h hB
  go_enter Tryz.func171, Tryz.ntmps171
  go_wp2_with fail
  go_loopw [3, 9] (fun ov iv wr => ∃ (i : Nat) (acc : List Bs), i ≤ ls.length ∧ acc.length ≤ i ∧ iv = .int .i64 i ∧ Hid (wr.ownsRow B 9 1 ov acc.length (strC acc)) ∧ Hid (Below B w wr) ∧ Hid (labsG ((fs ls).drop i) acc = labsB (fs ls))) (fun _ iv _ => ls.length - (intOf iv).toNat)
  case atStart => exact ⟨0, [], Nat.zero_le _, Nat.le_refl _, rfl, hideP2 ⟨rfl, .inr ⟨w.heap.size, 0, #[], rfl, by rw [HB0.out]; exact Nat.le_refl _, hb_end _ _, Nat.le_refl _, Nat.zero_le _, rfl, rfl⟩⟩, hideP2 ((Below.refl _ _).alloc (by rw [HB0.out]; exact Nat.le_refl _) _), hideP2 rfl⟩
  case round =>
    obtain ⟨i, acc, hi, hacc, rfl, HO, HB, HE⟩ := hrel
    by_cases hlt : i < ls.length
    · obtain ⟨gl, sa, sn, sc, na, nn, nc, rfl, hgl, ⟨c0, c1, c2, c3, c4, c5, c6, c7, c8, c9, c10⟩, _, _⟩ := (HL.out.below HB.out (by rw [HB0.out]; exact Nat.le_refl _)).line hlt
      have hE := HE.out
      rw [labsG_drop _ i _ (by simpa using hlt), fs_get] at hE
      have HE2 := hideP2 hE
      have hsz : B ≤ wr.heap.size := by have := HB.out.size; have h2 := HB0.out; omega
      clear HE hE
      generalize (lAt ls i).1 = x at *
      obtain ⟨kd, n1, lo, hi', cc, S, N, ro, te, de, lw⟩ := x
      simp only at c0 c1 c2 c3 c4 c5 c6 c7 c8 c9 c10
      by_cases k1 : kd = 3
      · have b1 : (kd == 3) = true := by simpa using k1
        have HE3 : Hid (labsG ((fs ls).drop (i + 1)) (acc ++ [n1]) = labsB (fs ls)) := by have := HE2.out; rw [if_pos k1] at this; exact this
        clear HE2 k1
        go_wp2_with (at_builtin; refine wpList_append_own _ rfl _ _ 37 rfl B 9 i0 _ 1 16 Tryz.underlying37 hi0 hz0 hz1 hz2 rfl (by decide) _ _ _ rfl ((HO.out.alloc _).alloc _) ⟨wr.heap.size + 1, 0, none⟩ 1 1 [.string ⟨n1.toArray⟩] rfl rfl ?c1 ?c2 ?c3 ?c4 ?c5 ?_)
        case c1 => exact World.news_of_block (heap_alloc2_new wr _ _)
        case c2 => intro u hu; simp at hu; subst hu; rfl
        case c3 => unfold maxLen; omega
        case c4 => omega
        case c5 => simp; omega
        intro v' w2 hown1 hgrow _
        have HB2 : Hid (Below B w w2) := ((HB.out.alloc hsz _).alloc (Nat.le_trans hsz (Nat.le_of_lt (lt_end _ _))) _).grown hgrow (by simp; omega) (own_block_le HO.out)
        have HO2 : Hid (w2.ownsRow B 9 1 v' (acc ++ [n1]).length (strC (acc ++ [n1]))) := by unfold Hid; rw [strC_snoc]; simpa using hown1
        clear hgrow hown1
        go_wp2_with fail
        go_roundw
        case rel => exact ⟨i + 1, acc ++ [n1], by omega, by simp; omega, by go_num, HO2, HB2, HE3⟩
        case measure => simp [intOf]; omega
      · have HE3 : Hid (labsG ((fs ls).drop (i + 1)) acc = labsB (fs ls)) := by have := HE2.out; rw [if_neg k1] at this; exact this
        have b1 : (kd == 3) = false := by simpa using k1
        clear HE2 k1
        go_wp2_with fail
        go_roundw
        case rel => exact ⟨i + 1, acc, by omega, by omega, by go_num, hideP2 (HO.out.alloc _), hideP2 (HB.out.alloc hsz _), HE3⟩
        case measure => simp [intOf]; omega
    · have HE3 : Hid (acc = labsB (fs ls)) := by have := HE.out; rw [List.drop_eq_nil_of_le (by simp; omega)] at this; exact this
      clear HE
      go_wp2_with fail
      go_ret
      exact ⟨_, rfl, by rw [← HE3.out, ← HB0.out]; exact HO.out, by rw [← HE3.out]; omega, by rw [← HB0.out]; exact HB.out⟩
end Go.Proofs.YtnbpdffdnphbeaaGreatDoor
