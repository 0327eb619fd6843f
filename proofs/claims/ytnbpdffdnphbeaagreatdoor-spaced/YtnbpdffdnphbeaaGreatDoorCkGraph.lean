/- What the program's graph of eight points does: arrows, chains, rings. -/
import Derived.Test.YtnbpdffdnphbeaaGreatDoorCkErr
import Derived.Test.YtnbpdffdnphbeaaGreatDoorPGraph
import Derived.Deep.WholeRow
import Derived.Deep.CutRange
import Derived.Deep.DeepCutAuto
namespace Go.Proofs.YtnbpdffdnphbeaaGreatDoor
open Go.RowKit

def gC (G : List Bool) : Array Value := (G.map Value.bool).toArray
/-- A graph lies in block g. -/
def GrM (w : World) (g : Nat) (G : List Bool) : Prop := w.heap[g]? = some (.cells (gC G) 94 (0, 0)) ∧ G.length = 64
theorem gC_get {G : List Bool} {k : Nat} (h : k < G.length) : (gC G)[k]? = some (.bool (G.getD k false)) := by
  simp [gC, List.getD, h]
theorem GrM.cell {w : World} {g : Nat} {G : List Bool} (h : GrM w g G) {k : Nat} (hk : k < 64) : w.cell? ⟨g, k, none⟩ = some (.bool (G.getD k false)) := by
  simp only [World.cell?, h.1]
  exact gC_get (by rw [h.2]; exact hk)
theorem GrM.lt {w : World} {g : Nat} {G : List Bool} (h : GrM w g G) : g < w.heap.size := by
  rcases Nat.lt_or_ge g w.heap.size with h1 | h1
  · exact h1
  · have h2 := h.1; rw [Array.getElem?_eq_none h1] at h2; cases h2
theorem gC_size (G : List Bool) : (gC G).size = G.length := by simp [gC]
theorem gC_one (G : List Bool) : (gC G).all (·.oneCell') = true := by
  simp [gC, Value.oneCell']

theorem firstLoop_s (w : World) (g : Nat) (G : List Bool) (h : GrM w g G) :
    Calls Tryz.prog 170 #[.pointer (some ⟨g, 0, none⟩)] w fun e w' => e = .returned (.int .i64 (loopB8 G)) ∧ w' = w := by
  have HG := hideP2 h
  have hg := h.lt
  clear h
  go_enter Tryz.func170, Tryz.ntmps170
  go_wp2_with fail
  go_loop [3] (fun iv => ∃ (i : Nat), i ≤ 8 ∧ iv = .int .i64 i ∧ Hid (loopG G (8 - i) i = loopB8 G)) (fun iv => 8 - (intOf iv).toNat)
  case atStart => exact ⟨0, by omega, rfl, hideP2 rfl⟩
  case round =>
    obtain ⟨i, hi, rfl, HE⟩ := hrel
    by_cases hlt : i < 8
    · have hc := HG.out.cell (k := i * 8 + i) (by omega)
      have hE := HE.out
      rw [show 8 - i = (8 - (i + 1)) + 1 by omega, loopG, show gA G i i = G.getD (i * 8 + i) false from rfl] at hE
      have HE2 := hideP2 hE
      clear HE hE
      generalize G.getD (i * 8 + i) false = z at *
      cases z
      · have HE3 : Hid (loopG G (8 - (i + 1)) (i + 1) = loopB8 G) := HE2.out
        clear HE2
        go_wp2_with fail
        go_round
        case rel => exact ⟨i + 1, by omega, by go_num, HE3⟩
        case measure => simp [intOf]; omega
      · have HE3 : Hid (i = loopB8 G) := HE2.out
        clear HE2
        go_wp2_with fail
        go_ret
        exact ⟨ret_int (by rw [← HE3.out]), rfl⟩
    · have HE3 : Hid (8 = loopB8 G) := by have := HE.out; rw [show 8 - i = 0 by omega] at this; exact this
      clear HE
      go_wp2_with fail
      go_ret
      exact ⟨ret_int (by rw [← HE3.out]; rfl), rfl⟩

theorem gInfo : (Tryz.prog.info? 94).map (·.size) = some 64 := by kernel_rfl
theorem gInfoC {G : List Bool} (h : G.length = 64) : (Tryz.prog.info? 94).map (·.size) = some (gC G).size := by rw [gC_size, h]; exact gInfo
def gZ : List Bool := List.replicate 64 false
theorem gZ_len : gZ.length = 64 := by simp [gZ]
theorem hb_row {w : World} {x : Obj} {k g : Nat} {cs : Array Value} (h : w.heap[k]? = some x) (hne : k ≠ g) : (w.setRow g cs).heap[k]? = some x := by
  unfold World.setRow
  simp only [Array.getElem?_modify]
  rw [if_neg (fun e => hne e.symm)]; exact h
theorem below_row {B : Nat} {a w : World} (h : Below B a w) {g : Nat} (hg : B ≤ g) (cs : Array Value) : Below B a (w.setRow g cs) :=
  h.trans ⟨rfl, rfl, rfl, by unfold World.setRow; simp, fun k hk => by unfold World.setRow; simp only [Array.getElem?_modify]; rw [if_neg (by omega)]⟩

/-- The state of chains: the graph that is being closed, the one that is handed back. -/
structure ChM (w w' : World) (G : List Bool) : Prop where
  gr : GrM w' (w.heap.size + 1) G
  res : w'.heap[w.heap.size]? = some (.cells (gC gZ) 94 (0, 0))
  bel : Below w.heap.size w w'

theorem GrM.set {w : World} {g : Nat} {G : List Bool} (h : GrM w g G) (k : Nat) : GrM (w.setCell ⟨g, k, none⟩ (.bool true)) g (G.set k true) := by
  refine ⟨?_, by rw [List.length_set]; exact h.2⟩
  rw [setCell_eq_setRow w g k _ _ _ _ h.1]
  have := setRow_heap w g (gC G) ((gC G).setIfInBounds k (.bool true)) _ _ h.1
  rw [this]
  congr 2
  simp [gC, List.map_set]
theorem ChM.set {w w' : World} {G : List Bool} (h : ChM w w' G) (k : Nat) : ChM w (w'.setCell ⟨w.heap.size + 1, k, none⟩ (.bool true)) (G.set k true) :=
  ⟨h.gr.set k, hb_set h.res (by omega), h.bel.setCell (p := ⟨w.heap.size + 1, k, none⟩) (by show w.heap.size ≤ w.heap.size + 1; omega) _⟩
theorem GrM.free {w : World} {g : Nat} {G : List Bool} (h : GrM w g G) (k : Nat) : w.frozen? ⟨g, k, none⟩ = false := by simp [World.frozen?, h.1]

set_option maxRecDepth 100000 in
set_option maxHeartbeats 4000000 in
theorem chains_s (w : World) (g : Nat) (G : List Bool) (h : GrM w g G) :
    Calls Tryz.prog 169 #[.pointer (some ⟨g, 0, none⟩)] w fun e w' => e = .returned (.agg (gC (chainsB G))) ∧ Below w.heap.size w w' := by
  have HG := hideP2 h
  have hg := h.lt
  clear h
  go_enter Tryz.func169, Tryz.ntmps169
  go_upto_region 1 with fail
  go_cut [3] from 7 to 9 (fun p3 wx => p3 = .pointer (some ⟨w.heap.size + 1, 0, none⟩) ∧ Hid (ChM w wx G))
  case first =>
    go_wp2_with (first
      | (refine wpList_load_row ?hgd 94 (.tmp 8) ?ho g ?hx 94 (gC G) (0, 0) _ (hb_new HG.out.1) Tryz.underlying94 rfl (gInfoC HG.out.2) ?_
         case ho => rfl
         case hgd => rfl
         case hx => rfl)
      | (refine wpList_store_row ?hgd 94 (.tmp 3) (.tmp 9) ?ho (w.heap.size + 1) (gC G) ?hx ?hy 94 (gC gZ) (heap_alloc2_new w _ _) (gInfoC HG.out.2) ?hold (gC_one G) ?_
         case ho => rfl
         case hgd => rfl
         case hx => rfl
         case hy => rfl
         case hold => rw [gC_size, gC_size, gZ_len, HG.out.2]))
    go_meet
    refine ⟨rfl, ⟨⟨setRow_heap _ _ (gC gZ) _ _ _ (heap_alloc2_new w _ _), HG.out.2⟩, hb_row (hb_new (hb_end _ _)) (by omega), below_row ?_ (by omega) _⟩⟩
    exact ((Below.refl _ _).alloc (Nat.le_refl _) _).alloc (Nat.le_of_lt (lt_end _ _)) _
  case rest =>
    obtain ⟨rfl, HC⟩ := hcut
    have HGL := hideP2 HG.out.2
    clear HG hg
    go_wp2_with fail
    go_loopw [4] (fun v4 wr => ∃ (m : Nat) (F : List Bool), m ≤ 8 ∧ v4 = .int .i64 m ∧ Hid (ChM w wr F) ∧ Hid (wA (512 - m * 64) (m * 64) F = chainsB G)) (fun v4 _ => 8 - (intOf v4).toNat)
    case atStart => exact ⟨0, G, by omega, rfl, HC, hideP2 rfl⟩
    case round =>
      obtain ⟨m, F, hm, rfl, HCm, HE⟩ := hrel
      clear HC
      by_cases hlt : m < 8
      · obtain ⟨wm, rfl⟩ : ∃ wm, wm = wr := ⟨_, rfl⟩
        have HEm : Hid (wA (512 - (m * 64 + 0 * 8)) (m * 64 + 0 * 8) F = chainsB G) := by have := HE.out; unfold Hid; simpa using this
        clear HE
        go_wp2_with fail
        go_loopw [5] (fun v5 wr => ∃ (f : Nat) (F : List Bool), f ≤ 8 ∧ v5 = .int .i64 f ∧ Hid (ChM w wr F) ∧ Hid (wA (512 - (m * 64 + f * 8)) (m * 64 + f * 8) F = chainsB G)) (fun v5 _ => 8 - (intOf v5).toNat)
        case atStart => exact ⟨0, F, by omega, rfl, HCm, HEm⟩
        case round =>
          obtain ⟨f, F2, hf, rfl, HCf, HE2⟩ := hrel
          clear HCm HEm
          by_cases hltf : f < 8
          · obtain ⟨wf, rfl⟩ : ∃ wf, wf = wr := ⟨_, rfl⟩
            go_wp2_with fail
            go_loopw [6] (fun v6 wr => ∃ (t : Nat) (F : List Bool), t ≤ 8 ∧ v6 = .int .i64 t ∧ Hid (ChM w wr F) ∧ Hid (wA (512 - (m * 64 + f * 8 + t)) (m * 64 + f * 8 + t) F = chainsB G)) (fun v6 _ => 8 - (intOf v6).toNat)
            case atStart => exact ⟨0, F2, by omega, rfl, HCf, HE2⟩
            case round =>
              obtain ⟨t, F3, ht, rfl, HCt, HE3⟩ := hrel
              clear HCf HE2
              by_cases hltt : t < 8
              · have hE := HE3.out
                rw [show 512 - (m * 64 + f * 8 + t) = (512 - (m * 64 + f * 8 + (t + 1))) + 1 by omega, wA] at hE
                have e1 : wS (m * 64 + f * 8 + t) F3 = if F3.getD (f * 8 + m) false && F3.getD (m * 8 + t) false then F3.set (f * 8 + t) true else F3 := by
                  unfold wS gA
                  rw [show (m * 64 + f * 8 + t) % 64 = f * 8 + t by omega, show (m * 64 + f * 8 + t) / 64 = m by omega, show (f * 8 + t) / 8 = f by omega, show (m * 64 + f * 8 + t) % 8 = t by omega]
                rw [e1] at hE
                have HE4 := hideP2 hE
                have c1 := HCt.out.gr.cell (k := f * 8 + m) (by omega)
                have c2 := HCt.out.gr.cell (k := m * 8 + t) (by omega)
                have c3 := HCt.out.gr.cell (k := f * 8 + t) (by omega)
                have hfz := HCt.out.gr.free (f * 8 + t)
                clear hE e1 HE3
                generalize F3.getD (f * 8 + m) false = z1 at *
                generalize F3.getD (m * 8 + t) false = z2 at *
                cases z1
                · have HE5 : Hid (wA (512 - (m * 64 + f * 8 + (t + 1))) (m * 64 + f * 8 + (t + 1)) F3 = chainsB G) := HE4.out
                  clear HE4
                  go_wp2_with fail
                  go_roundw
                  case rel => exact ⟨t + 1, F3, by omega, by go_num, HCt, HE5⟩
                  case measure => simp [intOf]; omega
                · cases z2
                  · have HE5 : Hid (wA (512 - (m * 64 + f * 8 + (t + 1))) (m * 64 + f * 8 + (t + 1)) F3 = chainsB G) := HE4.out
                    clear HE4
                    go_wp2_with fail
                    go_roundw
                    case rel => exact ⟨t + 1, F3, by omega, by go_num, HCt, HE5⟩
                    case measure => simp [intOf]; omega
                  · have HE5 : Hid (wA (512 - (m * 64 + f * 8 + (t + 1))) (m * 64 + f * 8 + (t + 1)) (F3.set (f * 8 + t) true) = chainsB G) := HE4.out
                    clear HE4
                    go_wp2_with fail
                    go_roundw
                    case rel => exact ⟨t + 1, F3.set (f * 8 + t) true, by omega, by go_num, hideP2 (HCt.out.set _), HE5⟩
                    case measure => simp [intOf]; omega
              · obtain rfl : t = 8 := by omega
                have HE5 : Hid (wA (512 - (m * 64 + (f + 1) * 8)) (m * 64 + (f + 1) * 8) F3 = chainsB G) := by have := HE3.out; unfold Hid; rw [show m * 64 + (f + 1) * 8 = m * 64 + f * 8 + 8 by omega]; exact this
                clear HE3
                go_wp2_with fail
                go_roundw
                case rel => exact ⟨f + 1, F3, by omega, by go_num, HCt, HE5⟩
                case measure => simp [intOf]; omega
          · obtain rfl : f = 8 := by omega
            have HE5 : Hid (wA (512 - (m + 1) * 64) ((m + 1) * 64) F2 = chainsB G) := by have := HE2.out; unfold Hid; rw [show (m + 1) * 64 = m * 64 + 8 * 8 by omega]; exact this
            clear HE2
            go_wp2_with fail
            go_roundw
            case rel => exact ⟨m + 1, F2, by omega, by go_num, HCf, HE5⟩
            case measure => simp [intOf]; omega
      · obtain rfl : m = 8 := by omega
        have HE5 : Hid (F = chainsB G) := HE.out
        clear HE
        go_wp2_with (first
          | (refine wpList_load_row ?hgd 94 (.tmp 3) ?ho (w.heap.size + 1) ?hx 94 (gC F) (0, 0) _ HCm.out.gr.1 Tryz.underlying94 rfl (gInfoC HCm.out.gr.2) ?_
             case ho => rfl
             case hgd => rfl
             case hx => rfl)
          | (refine wpList_store_row ?hgd 94 (.tmp 2) (.tmp 41) ?ho w.heap.size (gC F) ?hx ?hy 94 (gC gZ) HCm.out.res (gInfoC HCm.out.gr.2) ?hold (gC_one F) ?_
             case ho => rfl
             case hgd => rfl
             case hx => rfl
             case hy => rfl
             case hold => rw [gC_size, gC_size, gZ_len, HCm.out.gr.2]))
        refine bodyPost_ret (v := .agg (gC F)) (results_cell_row Tryz.results169 _ _ w.heap.size 94 (gC F) (0, 0) _ rfl (setRow_heap _ _ (gC gZ) _ _ _ HCm.out.res) Tryz.underlying94 rfl (gInfoC HCm.out.gr.2)) rfl ⟨by rw [HE5.out], below_row HCm.out.bel (Nat.le_refl _) _⟩

set_option maxRecDepth 100000 in
set_option maxHeartbeats 1000000 in
theorem HasRing_s (w : World) (g : Nat) (G : List Bool) (h : GrM w g G) :
    Calls Tryz.prog 107 #[.pointer (some ⟨g, 0, none⟩)] w fun e w' => e = .returned (.bool (ringB G)) ∧ Below w.heap.size w w' := by
  have HG := hideP2 h
  have HCh := hideP2 (chains_s w g G h)
  have hlen : (chainsB G).length = 64 := by unfold chainsB; rw [wA_len]; exact h.2
  have HLn := hideP2 hlen
  have HR : Hid (ringB G = decide ((loopB8 (chainsB G) : Int) < 8)) := by unfold Hid ringB; rw [decide_eq_decide]; omega
  clear h hlen
  generalize chainsB G = C at *
  go_enter Tryz.func107, Tryz.ntmps107
  go_wp2_with fail
  refine HCh.out.mono ?_
  rintro e w1 ⟨rfl, hb1⟩
  have HB1 := hideP2 hb1
  clear hb1
  go_wp2_with (refine wpList_store_row ?hgd 94 (.tmp 3) (.tmp 5) ?ho w1.heap.size (gC C) ?hx ?hy 94 (gC gZ) (hb_end w1 _) (gInfoC HLn.out) ?hold (gC_one C) ?_
               case ho => rfl
               case hgd => rfl
               case hx => rfl
               case hy => rfl
               case hold => rw [gC_size, gC_size, gZ_len, HLn.out])
  refine (firstLoop_s _ w1.heap.size C ⟨setRow_heap _ _ (gC gZ) _ _ _ (hb_end w1 _), HLn.out⟩).mono ?_
  rintro e w2 ⟨rfl, hw⟩
  have HB2 : Hid (Below w.heap.size w w2) := by rw [hw]; exact below_row (HB1.out.alloc HB1.out.size _) HB1.out.size _
  clear hw
  go_wp2_with fail
  go_ret
  exact ⟨ret_bool HR.out.symm, HB2.out⟩

theorem isPoint_s (k : Int) (w : World) : Calls Tryz.prog 224 #[.int .i64 k] w fun e w' => e = .returned (.bool (decide (0 ≤ k) && decide (k < 8))) ∧ w' = w := by
  by_cases h0 : 0 ≤ k
  · by_cases h8 : k < 8
    · have HR : Hid ((decide (0 ≤ k) && decide (k < 8)) = true) := by unfold Hid; rw [decide_eq_true h0, decide_eq_true h8]; rfl
      generalize (decide (0 ≤ k) && decide (k < 8)) = z at *
      go_enter Tryz.func224, Tryz.ntmps224
      go_wp2_with fail
      go_ret
      exact ⟨ret_bool HR.out.symm, rfl⟩
    · have HR : Hid ((decide (0 ≤ k) && decide (k < 8)) = false) := by unfold Hid; rw [decide_eq_true h0, decide_eq_false h8]; rfl
      generalize (decide (0 ≤ k) && decide (k < 8)) = z at *
      go_enter Tryz.func224, Tryz.ntmps224
      go_wp2_with fail
      go_ret
      exact ⟨ret_bool HR.out.symm, rfl⟩
  · have HR : Hid ((decide (0 ≤ k) && decide (k < 8)) = false) := by unfold Hid; rw [decide_eq_false h0]; rfl
    generalize (decide (0 ≤ k) && decide (k < 8)) = z at *
    go_enter Tryz.func224, Tryz.ntmps224
    go_wp2_with fail
    go_ret
    exact ⟨ret_bool HR.out.symm, rfl⟩

/-- A graph with an arrow more, if both are points. -/
def addG (G : List Bool) (a b : Int) : List Bool := if (0 ≤ a ∧ a < 8) ∧ (0 ≤ b ∧ b < 8) then G.set (a.toNat * 8 + b.toNat) true else G
theorem addG_len (G : List Bool) (a b : Int) : (addG G a b).length = G.length := by unfold addG; split <;> simp

/-- Only block g has changed. -/
structure OnlyG (g : Nat) (w w' : World) : Prop where
  os : w'.os = w.os
  tape : w'.tape = w.tape
  output : w'.output = w.output
  size : w.heap.size ≤ w'.heap.size
  block : ∀ k, k < w.heap.size → k ≠ g → w'.heap[k]? = w.heap[k]?
theorem OnlyG.refl (g : Nat) (w : World) : OnlyG g w w := ⟨rfl, rfl, rfl, Nat.le_refl _, fun _ _ _ => rfl⟩
theorem OnlyG.set (g k : Nat) (w : World) (v : Value) : OnlyG g w (w.setCell ⟨g, k, none⟩ v) :=
  ⟨rfl, rfl, rfl, by simp [World.setCell], fun i _ hne => Below.heap_setCell _ _ _ _ hne⟩

set_option maxHeartbeats 1000000 in
theorem Add_s (w : World) (g : Nat) (G : List Bool) (a b : Int) (h : GrM w g G) :
    Calls Tryz.prog 168 #[.pointer (some ⟨g, 0, none⟩), .int .i64 a, .int .i64 b] w fun e w' => e = .returned (.tuple #[]) ∧ GrM w' g (addG G a b) ∧ OnlyG g w w' := by
  have HG := hideP2 h
  have hg := h.lt
  have hfz := fun k => h.free k
  have hcell := fun k (hk : k < 64) => h.cell (k := k) hk
  clear h
  by_cases ha : 0 ≤ a ∧ a < 8
  · obtain ⟨a, rfl⟩ := Int.eq_ofNat_of_zero_le ha.1
    have ha8 : a < 8 := by omega
    have b1 : (decide ((0 : Int) ≤ (a : Int)) && decide ((a : Int) < 8)) = true := by rw [decide_eq_true ha.1, decide_eq_true ha.2]; rfl
    by_cases hb : 0 ≤ b ∧ b < 8
    · obtain ⟨b, rfl⟩ := Int.eq_ofNat_of_zero_le hb.1
      have hb8 : b < 8 := by omega
      have b2 : (decide ((0 : Int) ≤ (b : Int)) && decide ((b : Int) < 8)) = true := by rw [decide_eq_true hb.1, decide_eq_true hb.2]; rfl
      have HA : Hid (addG G a b = G.set (a * 8 + b) true) := by unfold Hid addG; rw [if_pos ⟨ha, hb⟩]; rfl
      have hc := hcell (a * 8 + b) (by omega)
      have hz := hfz (a * 8 + b)
      have H1 := hideP2 (isPoint_s a w)
      have H2 := hideP2 (isPoint_s b w)
      rw [b1] at H1
      rw [b2] at H2
      clear ha hb b1 b2 hcell hfz
      go_enter Tryz.func168, Tryz.ntmps168
      go_wp2_with fail
      refine H1.out.mono ?_
      rintro e w1 ⟨rfl, hw⟩; obtain rfl := hw.symm
      go_wp2_with fail
      refine H2.out.mono ?_
      rintro e w1 ⟨rfl, hw⟩; obtain rfl := hw.symm
      go_wp2_with fail
      go_end0
      exact ⟨rfl, by rw [HA.out]; exact HG.out.set _, OnlyG.set _ _ _ _⟩
    · have HA : Hid (addG G a b = G) := by unfold Hid addG; rw [if_neg (fun h => hb h.2)]
      have b2 : (decide ((0 : Int) ≤ b) && decide (b < 8)) = false := by
        rw [Bool.and_eq_false_iff]; by_cases h0 : 0 ≤ b
        · exact .inr (decide_eq_false (fun h => hb ⟨h0, h⟩))
        · exact .inl (decide_eq_false h0)
      have H1 := hideP2 (isPoint_s a w)
      have H2 := hideP2 (isPoint_s b w)
      rw [b1] at H1
      rw [b2] at H2
      clear ha hb b1 b2 hcell hfz
      go_enter Tryz.func168, Tryz.ntmps168
      go_wp2_with fail
      refine H1.out.mono ?_
      rintro e w1 ⟨rfl, hw⟩; obtain rfl := hw.symm
      go_wp2_with fail
      refine H2.out.mono ?_
      rintro e w1 ⟨rfl, hw⟩; obtain rfl := hw.symm
      go_wp2_with fail
      go_end0
      exact ⟨rfl, by rw [HA.out]; exact HG.out, OnlyG.refl _ _⟩
  · have HA : Hid (addG G a b = G) := by unfold Hid addG; rw [if_neg (fun h => ha h.1)]
    have b1 : (decide ((0 : Int) ≤ a) && decide (a < 8)) = false := by
      rw [Bool.and_eq_false_iff]; by_cases h0 : 0 ≤ a
      · exact .inr (decide_eq_false (fun h => ha ⟨h0, h⟩))
      · exact .inl (decide_eq_false h0)
    have H1 := hideP2 (isPoint_s a w)
    rw [b1] at H1
    clear ha b1 hcell hfz
    go_enter Tryz.func168, Tryz.ntmps168
    go_wp2_with fail
    refine H1.out.mono ?_
    rintro e w1 ⟨rfl, hw⟩; obtain rfl := hw.symm
    go_wp2_with fail
    go_end0
    exact ⟨rfl, by rw [HA.out]; exact HG.out, OnlyG.refl _ _⟩
end Go.Proofs.YtnbpdffdnphbeaaGreatDoor
