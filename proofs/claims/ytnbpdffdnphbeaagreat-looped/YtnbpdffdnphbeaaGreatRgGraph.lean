/- What the program's graph tells of a ring: the points, one behind the other. -/
import Derived.Test.YtnbpdffdnphbeaaGreatPWalk
import Derived.Test.YtnbpdffdnphbeaaGreatCkGraph
import Derived.Test.YtnbpdffdnphbeaaGreatCkLinks
import Derived.Test.YtnbpdffdnphbeaaGreatCkAll
namespace Go.Proofs.YtnbpdffdnphbeaaGreat
open Go.RowKit

theorem nxG_step (G C : List Bool) (a k : Nat) (h : k < 8) : nxG G C a (8 - k) k = if gA G a k && gA C k a then k else nxG G C a (8 - (k + 1)) (k + 1) := by
  rw [show 8 - k = (8 - (k + 1)) + 1 by omega, nxG]

set_option maxRecDepth 100000 in
set_option maxHeartbeats 2000000 in
theorem nextInRing_s (w : World) (g : Nat) (G C : List Bool) (a : Nat) (ha : a < 8) (h : GrM w g G) (hC : C.length = 64) :
    Calls Tryz.prog 69 #[.pointer (some ⟨g, 0, none⟩), .agg (gC C), .int .i64 a] w fun e w' => e = .returned (.int .i64 (nextR G C a)) ∧ Below w.heap.size w w' := by
  have HCm : Hid (GrM (w.alloc (.cells (gC C) 59)) w.heap.size C) := ⟨hb_end _ _, hC⟩
  have HGm : Hid (GrM (w.alloc (.cells (gC C) 59)) g G) := h.new _
  have HBl : Hid (Below w.heap.size w (w.alloc (.cells (gC C) 59))) := (Below.refl _ _).alloc (Nat.le_refl _) _
  clear h hC
  go_enter Tryz.func69, Tryz.ntmps69
  go_wp2_with fail
  generalize w.alloc (.cells (gC C) 59) = w1 at *
  generalize hb : w.heap.size = b at *
  have HB := hideP2 hb
  clear hb
  go_loop [7] (fun kv => ∃ (k : Nat), k ≤ 8 ∧ kv = .int .i64 k ∧ Hid (nxG G C a (8 - k) k = nextR G C a)) (fun kv => 8 - (intOf kv).toNat)
  case atStart => exact ⟨0, by omega, rfl, hideP2 rfl⟩
  case round =>
    obtain ⟨k, hk, rfl, HE⟩ := hrel
    by_cases hlt : k < 8
    · have c1 := HGm.out.cell (k := a * 8 + k) (by omega)
      have c2 := HCm.out.cell (k := k * 8 + a) (by omega)
      have hE := HE.out
      rw [nxG_step G C a k hlt] at hE
      unfold gA at hE
      have HE2 := hideP2 hE
      clear HE hE
      generalize G.getD (a * 8 + k) false = z1 at *
      generalize C.getD (k * 8 + a) false = z2 at *
      cases z1
      · have HE3 : Hid (nxG G C a (8 - (k + 1)) (k + 1) = nextR G C a) := HE2.out
        clear HE2
        go_wp2_with fail
        go_round
        case rel => exact ⟨k + 1, by omega, by go_num, HE3⟩
        case measure => simp [intOf]; omega
      · cases z2
        · have HE3 : Hid (nxG G C a (8 - (k + 1)) (k + 1) = nextR G C a) := HE2.out
          clear HE2
          go_wp2_with fail
          go_round
          case rel => exact ⟨k + 1, by omega, by go_num, HE3⟩
          case measure => simp [intOf]; omega
        · have HE3 : Hid (nextR G C a = k) := HE2.out.symm
          clear HE2
          go_wp2_with fail
          go_ret
          exact ⟨ret_int (by rw [HE3.out]), by rw [HB.out]; exact HBl.out⟩
    · have HE3 : Hid (nextR G C a = a) := by have := HE.out; rw [show 8 - k = 0 by omega] at this; exact this.symm
      clear HE
      go_wp2_with fail
      go_ret
      exact ⟨ret_int (by rw [HE3.out]), by rw [HB.out]; exact HBl.out⟩

def intC (L : List Nat) : List Value := L.map fun a => Value.int .i64 (a : Nat)
theorem intC_snoc (L : List Nat) (a : Nat) : intC (L ++ [a]) = intC L ++ [.int .i64 (a : Nat)] := by simp [intC]
theorem infoInt : (Tryz.prog.info? 3).map (fun i => (i.zero, i.size, i.bytes)) = some (some (.int .i64 0), 1, 8) := by kernel_rfl
theorem nextR_lt {G C : List Bool} {a : Nat} (h : a < 8) : nextR G C a < 8 := nxG_lt G C a h 8 0 rfl
theorem colG_step (f : Nat → Nat) (a n : Nat) (r : List Nat) (x : Nat) : colG f a (n + 1) r x = if x ≠ a ∧ r.length < 8 then colG f a n (r ++ [x]) (f x) else r := rfl

theorem owns_sameP {w w' : World} {B : Nat} {e : TypeId} {size : Nat} {v : Value} {n : Nat} {xs : List Value} (h : w.ownsRow B e size v n xs) (hb : Below w.heap.size w w') : w'.ownsRow B e size v n xs := by
  refine ⟨h.1, ?_⟩
  rcases h.2 with h1 | ⟨g, cap, cur, h1, h2, h3, r⟩
  · exact .inl h1
  · refine .inr ⟨g, cap, cur, h1, h2, ?_, r⟩
    have hlt : g < w.heap.size := by
      rcases Nat.lt_or_ge g w.heap.size with h | h
      · exact h
      · rw [Array.getElem?_eq_none h] at h3; cases h3
    rw [hb.block g hlt]; exact h3
def lenV : Value → Nat
  | .slice _ n _ => n
  | _ => 0
/-- Points lie in memory, behind a slice's pointer. -/
structure IntV (w : World) (a : Option Addr) (L : List Nat) : Prop where
  blk : 0 < L.length → ∃ g, a = some ⟨g, 0, none⟩ ∧ ∀ i, i < L.length → w.cell? ⟨g, i, none⟩ = some (.int .i64 ((L.getD i 0 : Nat) : Int))
theorem intC_get (L : List Nat) (i : Nat) (h : i < L.length) : (intC L)[i]? = some (.int .i64 ((L.getD i 0 : Nat) : Int)) := by
  simp [intC, List.getD, h]
theorem own_int {w : World} {B : Nat} {v : Value} {L : List Nat} (h : w.ownsRow B 3 1 v L.length (intC L)) : ∃ a c, v = .slice a L.length c ∧ IntV w a L := by
  rcases h.2 with ⟨h1, h2⟩ | ⟨g, cap, cur, h1, _, h3, _, _, _, h7⟩
  · exact ⟨none, 0, by rw [h1, h2], ⟨fun h0 => by omega⟩⟩
  · exact ⟨some ⟨g, 0, none⟩, cap, h1, ⟨fun _ => ⟨g, rfl, fun i hi => cell_take2 h3 (n := L.length * 1) h7 (intC_get L i hi)⟩⟩⟩
theorem own_new (w : World) (B : Nat) (hB : B ≤ w.heap.size) (e : TypeId) (cs : Array Value) (hm : cs.size ≤ maxLen) : (w.alloc (.cells cs e)).ownsRow B e 1 (.slice (some ⟨w.heap.size, 0, none⟩) cs.size cs.size) cs.size cs.toList :=
  ⟨by simp, .inr ⟨w.heap.size, cs.size, cs, rfl, hB, hb_end _ _, Nat.le_refl _, hm, by simp, by rw [Nat.mul_one]; exact List.take_of_length_le (by simp)⟩⟩

set_option maxRecDepth 100000 in
set_option maxHeartbeats 4000000 in
theorem GRing_s (w : World) (g : Nat) (G : List Bool) (h : GrM w g G) :
    Calls Tryz.prog 35 #[.pointer (some ⟨g, 0, none⟩)] w fun e w' => ∃ v, e = .returned v ∧ w'.ownsRow w.heap.size 3 1 v (ringPts G).length (intC (ringPts G)) ∧ Below w.heap.size w w' := by
  obtain ⟨i0, hi0, hz0, hz1, hz2⟩ := info_parts infoInt
  have HG := hideP2 h
  have HCh := hideP2 (chains_s w g G h)
  have hlen : (chainsB G).length = 64 := by unfold chainsB; rw [wA_len]; exact h.2
  have HLn := hideP2 hlen
  have hl8 : loopB8 (chainsB G) ≤ 8 := loopG_le (chainsB G) 8 0 rfl
  have HR : Hid (ringPts G = if loopB8 (chainsB G) = 8 then [] else ringFrom (nextR G (chainsB G)) (iterF (nextR G (chainsB G)) 8 (loopB8 (chainsB G)))) := rfl
  have hgw := h.lt
  obtain ⟨B, hB⟩ : ∃ B, B = w.heap.size := ⟨_, rfl⟩
  have HB0 := hideP2 hB
  clear h hlen hB
  generalize ringPts G = ans at *
  generalize chainsB G = C at *
  go_enter Tryz.func35, Tryz.ntmps35
  go_wp2_with fail
  refine HCh.out.mono ?_
  rintro e w1 ⟨rfl, hb1⟩
  have HB1 := hideP2 hb1
  have hs1 := hb1.size
  clear hb1
  go_wp2_with (refine wpList_store_row ?hgd 59 (.tmp 3) (.tmp 9) ?ho w1.heap.size (gC C) ?hx ?hy 59 (gC gZ) (hb_end w1 _) (gInfoC HLn.out) ?hold (gC_one C) ?_
               case ho => rfl
               case hgd => rfl
               case hx => rfl
               case hy => rfl
               case hold => rw [gC_size, gC_size, gZ_len, HLn.out])
  refine (firstLoop_s _ w1.heap.size C ⟨setRow_heap _ _ (gC gZ) _ _ _ (hb_end w1 _), HLn.out⟩).mono ?_
  rintro e w2 ⟨rfl, hw⟩
  have HB2 : Hid (Below B w w2) := by rw [hw, HB0.out]; exact below_row (HB1.out.alloc HB1.out.size _) HB1.out.size _
  have HC2 : Hid (GrM w2 w1.heap.size C) := by rw [hw]; exact ⟨setRow_heap _ _ (gC gZ) _ _ _ (hb_end w1 _), HLn.out⟩
  have hbw : B ≤ w1.heap.size := by rw [HB0.out]; exact hs1
  generalize w1.heap.size = b at *
  clear hw HB1 hs1
  generalize loopB8 C = s at *
  by_cases hs : s = 8
  · have HA : Hid (ans = []) := by unfold Hid; rw [HR.out, if_pos hs]
    subst hs
    clear HR
    go_wp2_with fail
    go_ret
    have hsz : B ≤ w2.heap.size := by have := HB2.out.size; have h2 := HB0.out; omega
    refine ⟨_, rfl, ?_, by rw [← HB0.out]; exact HB2.out.alloc hsz _⟩
    rw [HA.out, ← HB0.out]
    exact own_new w2 B hsz 3 #[] (Nat.zero_le _)
  · have HA : Hid (ans = ringFrom (nextR G C) (iterF (nextR G C) 8 s)) := by unfold Hid; rw [HR.out, if_neg hs]
    have hs8 : s < 8 := by omega
    have bs : ((s : Int) == 8) = false := by simp; omega
    have hbl := HC2.out.lt
    have hsz2 : B ≤ w2.heap.size := by have := HB2.out.size; have h2 := HB0.out; omega
    have HNx : Hid (∀ w', Below w2.heap.size w2 w' → ∀ x : Nat, x < 8 → Calls Tryz.prog 69 #[.pointer (some ⟨g, 0, none⟩), .agg (gC C), .int .i64 x] w' fun e w'' => e = .returned (.int .i64 (nextR G C x)) ∧ Below w'.heap.size w' w'') := fun w' hb x hx => by
      refine nextInRing_s w' g G C x hx ⟨?_, HG.out.2⟩ HLn.out
      have h1 : Below B w w' := HB2.out.trans (hb.mono hsz2)
      rw [h1.block g (by rw [HB0.out]; exact hgw)]; exact HG.out.1
    have HCr : Hid (∀ w', Below w2.heap.size w2 w' → w'.heap[b]? = some (.cells (gC C) 59 (0, 0))) := fun w' hb => by rw [hb.block b hbl]; exact HC2.out.1
    clear HR hs
    go_wp2_with fail
    go_loopw [4, 5] (fun av sv wr => ∃ (i x : Nat), i ≤ 8 ∧ x < 8 ∧ av = .int .i64 x ∧ sv = .int .i64 i ∧ Hid (Below w2.heap.size w2 wr) ∧ Hid (iterF (nextR G C) (8 - i) x = iterF (nextR G C) 8 s)) (fun _ sv _ => 8 - (intOf sv).toNat)
    case atStart => exact ⟨0, s, by omega, hs8, rfl, rfl, hideP2 (Below.refl _ _), hideP2 rfl⟩
    case round =>
      obtain ⟨i, x, hi, hx, rfl, rfl, HB, HE⟩ := hrel
      by_cases hlt : i < 8
      · have HE2 : Hid (iterF (nextR G C) (8 - (i + 1)) (nextR G C x) = iterF (nextR G C) 8 s) := by have := HE.out; rw [show 8 - i = (8 - (i + 1)) + 1 by omega, iterF] at this; exact this
        have hnx := nextR_lt (G := G) (C := C) hx
        have HN := hideP2 (HNx.out wr HB.out x hx)
        clear HE
        generalize nextR G C x = y at *
        go_wp2_with (refine wpList_load_row ?hgd 59 (.tmp 3) ?ho b ?hx 59 (gC C) (0, 0) _ (HCr.out _ HB.out) Tryz.underlying59 rfl (gInfoC HLn.out) ?_
                     case ho => rfl
                     case hgd => rfl
                     case hx => rfl)
        refine HN.out.mono ?_
        rintro e w3 ⟨rfl, hb3⟩
        have HB3 : Hid (Below w2.heap.size w2 w3) := HB.out.trans (hb3.mono HB.out.size)
        clear hb3
        go_wp2_with fail
        go_roundw
        case rel => exact ⟨i + 1, y, by omega, hnx, rfl, by go_num, HB3, HE2⟩
        case measure => simp [intOf]; omega
      · have HA2 : Hid (ans = colG (nextR G C) x 8 [x] (nextR G C x)) := by
          have := HE.out; rw [show 8 - i = 0 by omega] at this
          have h2 : x = iterF (nextR G C) 8 s := this
          unfold Hid; rw [HA.out, ← h2]; rfl
        have hnx := nextR_lt (G := G) (C := C) hx
        have hszr : w2.heap.size ≤ wr.heap.size := HB.out.size
        have HBa : Hid (∀ o, Below w2.heap.size w2 (wr.alloc o)) := fun o => HB.out.alloc hszr o
        have HOa : Hid ((wr.alloc (.cells #[.int .i64 (x : Int)] 3)).ownsRow w2.heap.size 3 1 (.slice (some ⟨wr.heap.size, 0, none⟩) 1 1) 1 [.int .i64 (x : Int)]) := own_new wr w2.heap.size hszr 3 #[.int .i64 (x : Int)] (show 1 ≤ maxLen by unfold maxLen; decide)
        have HN := hideP2 (fun o => HNx.out _ (HBa.out o) x hx)
        clear HE HA
        go_wp2_with (refine wpList_load_row ?hgd 59 (.tmp 3) ?ho b ?hx 59 (gC C) (0, 0) _ (HCr.out _ (HBa.out _)) Tryz.underlying59 rfl (gInfoC HLn.out) ?_
                     case ho => rfl
                     case hgd => rfl
                     case hx => rfl)
        refine (HN.out _).mono ?_
        rintro e w3 ⟨rfl, hb3⟩
        have HB3 : Hid (Below w2.heap.size w2 w3) := (HBa.out _).trans (hb3.mono (HBa.out _).size)
        have HO3 : Hid (w3.ownsRow w2.heap.size 3 1 (.slice (some ⟨wr.heap.size, 0, none⟩) 1 1) 1 [.int .i64 (x : Int)]) := owns_sameP HOa.out hb3
        clear hb3 HOa HN HBa
        obtain ⟨wm, hwm⟩ : ∃ wm, wm = wr := ⟨_, rfl⟩
        subst hwm
        go_wp2_with fail
        go_loopw [6, 7] (fun rv yv wr => ∃ (r : List Nat) (y n : Nat), n + r.length = 9 ∧ 1 ≤ r.length ∧ r.length ≤ 8 ∧ y < 8 ∧ yv = .int .i64 y ∧ Hid (wr.ownsRow w2.heap.size 3 1 rv r.length (intC r)) ∧ Hid (Below w2.heap.size w2 wr) ∧ Hid (colG (nextR G C) x n r y = ans)) (fun rv _ _ => 9 - lenV rv)
        case atStart => exact ⟨[x], nextR G C x, 8, rfl, Nat.le_refl _, show 1 ≤ 8 by decide, hnx, rfl, HO3, HB3, hideP2 HA2.out.symm⟩
        case round =>
          obtain ⟨r, y, n, hn, hr1, hr8, hy, rfl, HO, HBr, HE⟩ := hrel
          obtain ⟨n', rfl⟩ : ∃ n', n = n' + 1 := ⟨n - 1, by omega⟩
          obtain ⟨ra, rc, rfl, _⟩ := own_int HO.out
          have hszn : w2.heap.size ≤ wr.heap.size := HBr.out.size
          have hE := HE.out
          rw [colG_step] at hE
          have HE2 := hideP2 hE
          clear HE hE
          by_cases k1 : y = x
          · have HF : Hid (r = ans) := by have := HE2.out; rw [if_neg (fun h => h.1 k1)] at this; exact this
            have b1 : ((y : Int) == (x : Int)) = true := by simp; omega
            clear HE2
            go_wp2_with fail
            go_ret
            refine ⟨_, rfl, ?_, ?_⟩
            · rw [← HF.out]; exact owns_base2 HO.out (by rw [← HB0.out]; exact hsz2)
            · rw [← HB0.out]; exact HB2.out.trans (HBr.out.mono hsz2)
          · have b1 : ((y : Int) == (x : Int)) = false := by simp; omega
            by_cases k2 : r.length < 8
            · have HE3 : Hid (colG (nextR G C) x n' (r ++ [y]) (nextR G C y) = ans) := by have := HE2.out; rw [if_pos ⟨k1, k2⟩] at this; exact this
              have hny := nextR_lt (G := G) (C := C) hy
              have i2 : (r.length : Int) < 8 := by omega
              clear HE2
              go_wp2_with (first
                | (at_builtin; refine wpList_append_own _ rfl _ _ 22 rfl w2.heap.size 3 i0 _ 1 8 Tryz.underlying22 hi0 hz0 hz1 hz2 rfl (by decide) _ _ _ rfl (HO.out.alloc _) ⟨wr.heap.size, 0, none⟩ 1 1 [.int .i64 (y : Int)] rfl rfl ?c1 ?c2 ?c3 ?c4 ?c5 ?_))
              case c1 => exact news_cells _ _ _ _ rfl
              case c2 => intro u hu; simp at hu; subst hu; rfl
              case c3 => unfold maxLen; omega
              case c4 => omega
              case c5 => simp; omega
              intro v' w4 hown1 hgrow _
              have HB4 : Hid (Below w2.heap.size w2 w4) := (HBr.out.alloc hszn _).grown hgrow (by simp; omega) (own_block_le HO.out)
              have HO4 : Hid (w4.ownsRow w2.heap.size 3 1 v' (r ++ [y]).length (intC (r ++ [y]))) := by unfold Hid; rw [intC_snoc]; simpa using hown1
              have HN := hideP2 (HNx.out w4 HB4.out y hy)
              clear hgrow hown1
              obtain ⟨va, vc, rfl, _⟩ := own_int HO4.out
              go_wp2_with (refine wpList_load_row ?hgd 59 (.tmp 3) ?ho b ?hx 59 (gC C) (0, 0) _ (HCr.out _ HB4.out) Tryz.underlying59 rfl (gInfoC HLn.out) ?_
                           case ho => rfl
                           case hgd => rfl
                           case hx => rfl)
              refine HN.out.mono ?_
              rintro e w5 ⟨rfl, hb5⟩
              have HB5 : Hid (Below w2.heap.size w2 w5) := HB4.out.trans (hb5.mono HB4.out.size)
              have HO5 := hideP2 (owns_sameP HO4.out hb5)
              clear hb5
              go_wp2_with fail
              go_roundw
              case rel => exact ⟨r ++ [y], nextR G C y, n', by simp; omega, by simp, by simp; omega, hny, rfl, by have h := HO5; simp only [List.length_append, List.length_singleton] at h ⊢; exact h, HB5, HE3⟩
              case measure => simp [lenV]; omega
            · have HF : Hid (r = ans) := by have := HE2.out; rw [if_neg (fun h => k2 h.2)] at this; exact this
              have i2 : ¬ (r.length : Int) < 8 := by omega
              clear HE2
              go_wp2_with fail
              go_ret
              refine ⟨_, rfl, ?_, ?_⟩
              · rw [← HF.out]; exact owns_base2 HO.out (by rw [← HB0.out]; exact hsz2)
              · rw [← HB0.out]; exact HB2.out.trans (HBr.out.mono hsz2)
end Go.Proofs.YtnbpdffdnphbeaaGreat

/- Levels: the program's rounds and the document's recursion tell the same numbers where there is no ring. Nothing of the program's run is here. -/
namespace Go.Proofs.YtnbpdffdnphbeaaGreat

/-- The highest of the numbers of the points to which an arrow leads, and one more; or 0. -/
def mxG (p : Nat → Bool) (S : Nat → Nat) : Nat → Nat → Nat → Nat
  | 0, _, acc => acc
  | n + 1, k, acc => mxG p S n (k + 1) (if p k && decide (acc ≤ S k) then S k + 1 else acc)
theorem mx_le (p : Nat → Bool) (S : Nat → Nat) (m : Nat) (n : Nat) : ∀ k acc, mxG p S n k acc ≤ m ↔ acc ≤ m ∧ ∀ z, k ≤ z → z < k + n → p z = true → S z + 1 ≤ m := by
  induction n with
  | zero => intro k acc; rw [mxG]; exact ⟨fun h => ⟨h, fun z h1 h2 => by omega⟩, fun h => h.1⟩
  | succ n ih =>
    intro k acc
    rw [mxG, ih]
    constructor
    · rintro ⟨h1, h2⟩
      refine ⟨?_, fun z hz1 hz2 hp => ?_⟩
      · split at h1
        · rename_i hc; rw [Bool.and_eq_true, decide_eq_true_iff] at hc; omega
        · exact h1
      · by_cases hz : z = k
        · subst hz
          split at h1
          · exact h1
          · rename_i hc
            rw [Bool.and_eq_true, decide_eq_true_iff] at hc
            have : ¬ acc ≤ S z := fun h => hc ⟨hp, h⟩
            omega
        · exact h2 z (by omega) (by omega) hp
    · rintro ⟨h1, h2⟩
      refine ⟨?_, fun z hz1 hz2 hp => h2 z (by omega) (by omega) hp⟩
      split
      · rename_i hc; rw [Bool.and_eq_true, decide_eq_true_iff] at hc; exact h2 k (Nat.le_refl _) (by omega) hc.1
      · exact h1
theorem mx_mono {p : Nat → Bool} {S T : Nat → Nat} {n : Nat} (h : ∀ z, z < n → p z = true → S z ≤ T z) : mxG p S n 0 0 ≤ mxG p T n 0 0 := by
  rw [mx_le]
  refine ⟨Nat.zero_le _, fun z _ hz hp => ?_⟩
  have h2 := ((mx_le p T _ n 0 0).1 (Nat.le_refl _)).2 z (Nat.zero_le _) hz hp
  have := h z (by omega) hp
  omega
theorem mx_congr {p q : Nat → Bool} {S T : Nat → Nat} (n : Nat) : ∀ k acc, (∀ z, k ≤ z → z < k + n → p z = q z ∧ (p z = true → S z = T z)) → mxG p S n k acc = mxG q T n k acc := by
  induction n with
  | zero => intro k acc _; rfl
  | succ n ih =>
    intro k acc h
    rw [mxG, mxG, ih (k + 1) _ (fun z h1 h2 => h z (by omega) (by omega))]
    obtain ⟨h1, h2⟩ := h k (Nat.le_refl _) (by omega)
    congr 1
    cases hp : p k with
    | false => rw [hp] at h1; rw [← h1]; rfl
    | true => rw [h2 hp]; rw [hp] at h1; rw [← h1]
theorem mx_app (p : Nat → Bool) (S : Nat → Nat) (n m : Nat) : ∀ k acc, (∀ z, k + n ≤ z → z < k + n + m → p z = false) → mxG p S (n + m) k acc = mxG p S n k acc := by
  induction n with
  | zero =>
    intro k acc h
    rw [Nat.zero_add, mxG]
    induction m generalizing k with
    | zero => rfl
    | succ m ih => rw [mxG, h k (by omega) (by omega)]; exact ih (k + 1) (fun z h1 h2 => h z (by omega) (by omega))
  | succ n ih => intro k acc h; rw [show n + 1 + m = (n + m) + 1 by omega, mxG, mxG]; exact ih _ _ (fun z h1 h2 => h z (by omega) (by omega))

/-- Levels by at most n arrows. -/
def lvG (G : List Bool) : Nat → Nat → Nat
  | 0, _ => 0
  | n + 1, a => mxG (gA G a) (lvG G n) 8 0 0
theorem lv_le (G : List Bool) (n : Nat) : ∀ a, lvG G n a ≤ n := by
  induction n with
  | zero => intro a; exact Nat.le_refl _
  | succ n ih => intro a; rw [lvG, mx_le]; exact ⟨Nat.zero_le _, fun z _ _ _ => by have := ih z; omega⟩
theorem lv_mono (G : List Bool) (n : Nat) : ∀ a, lvG G n a ≤ lvG G (n + 1) a := by
  induction n with
  | zero => intro a; exact Nat.zero_le _
  | succ n ih => intro a; rw [lvG, lvG]; exact mx_mono (fun z _ _ => ih z)
theorem lv_still (G : List Bool) (n : Nat) : ∀ a, lvG G (n + 1) a ≤ n → lvG G n a = lvG G (n + 1) a := by
  induction n with
  | zero => intro a h; have h2 : lvG G 0 a = 0 := rfl; omega
  | succ n ih =>
    intro a h
    rw [lvG] at h
    rw [mx_le] at h
    rw [lvG, lvG]
    exact mx_congr 8 0 0 (fun z h1 h2 => ⟨rfl, fun hp => ih z (by have := h.2 z h1 h2 hp; omega)⟩)
/-- As many arrows in a row as a level tells. -/
theorem lv_chain (G : List Bool) (n : Nat) : ∀ a, a < 8 → lvG G n a = n → ∃ x : Nat → Nat, x 0 = a ∧ (∀ i, i ≤ n → x i < 8) ∧ ∀ i, i < n → arr G (x i) (x (i + 1)) := by
  induction n with
  | zero => intro a ha _; exact ⟨fun _ => a, rfl, fun _ _ => ha, fun i h => by omega⟩
  | succ n ih =>
    intro a ha h
    have hz : ∃ z, z < 8 ∧ gA G a z = true ∧ lvG G n z = n := by
      rcases Classical.em (∃ z, z < 8 ∧ gA G a z = true ∧ lvG G n z = n) with h1 | h1
      · exact h1
      · exfalso
        have : lvG G (n + 1) a ≤ n := by
          rw [lvG, mx_le]
          refine ⟨Nat.zero_le _, fun z _ hz hp => ?_⟩
          have h2 := lv_le G n z
          have h3 : lvG G n z ≠ n := fun e => h1 ⟨z, by omega, hp, e⟩
          omega
        omega
    obtain ⟨z, hz8, hp, hl⟩ := hz
    obtain ⟨x, h0, hx8, hx⟩ := ih z hz8 hl
    refine ⟨fun i => if i = 0 then a else x (i - 1), by simp, fun i hi => ?_, fun i hi => ?_⟩
    · by_cases h : i = 0
      · simp [h, ha]
      · simp [h]; exact hx8 (i - 1) (by omega)
    · by_cases h : i = 0
      · subst h; simp [h0]; exact ⟨ha, hz8, hp⟩
      · simp [h]
        have := hx (i - 1) (by omega)
        rwa [show i - 1 + 1 = i by omega] at this
theorem chain_tc {G : List Bool} {x : Nat → Nat} {n : Nat} (hx : ∀ i, i < n → arr G (x i) (x (i + 1))) (d : Nat) : ∀ i, i + d + 1 ≤ n → TC (arr G) (x i) (x (i + d + 1)) := by
  induction d with
  | zero => intro i h; exact TC.one (hx i (by omega))
  | succ d ih => intro i h; exact (ih i (by omega)).trans (TC.one (hx (i + d + 1) (by omega)))
theorem lv_top {G : List Bool} (hl : G.length = 64) (hr : ringB G = false) (a : Nat) (ha : a < 8) : lvG G 7 a = lvG G 8 a := by
  refine lv_still G 7 a ?_
  show lvG G 8 a ≤ 7
  have h8 := lv_le G 8 a
  rcases Nat.lt_or_ge (lvG G 8 a) 8 with h | h
  · omega
  · exfalso
    obtain ⟨x, -, hx8, hx⟩ := lv_chain G 8 a ha (by omega)
    obtain ⟨i, j, h1, h2, h3⟩ := two_same 8 x hx8
    have ht := chain_tc hx (j - i - 1) i (by omega)
    rw [show i + (j - i - 1) + 1 = j by omega, ← h3] at ht
    have : ringB G = true := (ringB_iff hl).2 ⟨x i, hx8 i (by omega), ht⟩
    rw [hr] at this; cases this
def levG (G : List Bool) (a : Nat) : Nat := lvG G 7 a
theorem lev_fix {G : List Bool} (hl : G.length = 64) (hr : ringB G = false) (a : Nat) (ha : a < 8) : mxG (gA G a) (levG G) 8 0 0 = levG G a := by
  unfold levG
  rw [lv_top hl hr a ha]
  rfl
theorem lev_less {G : List Bool} (hl : G.length = 64) (hr : ringB G = false) {a b : Nat} (ha : a < 8) (hb : b < 8) (h : gA G a b = true) : levG G b < levG G a := by
  have := ((mx_le (gA G a) (levG G) _ 8 0 0).1 (Nat.le_of_eq (lev_fix hl hr a ha))).2 b (Nat.zero_le _) (by omega) h
  omega

/-- The program's rounds: the numbers of the points, each set anew in its turn. -/
def rdG (G : List Bool) : Nat → Nat → List Nat → List Nat
  | 0, _, S => S
  | n + 1, a, S => rdG G n (a + 1) (S.set a (mxG (gA G a) (fun z => S.getD z 0) 8 0 0))
def rdsG (G : List Bool) : Nat → List Nat → List Nat
  | 0, S => S
  | n + 1, S => rdsG G n (rdG G 8 0 S)
def levelsB (G : List Bool) : List Nat := rdsG G 7 (List.replicate 8 0)
theorem rdG_len (G : List Bool) (n : Nat) : ∀ a S, (rdG G n a S).length = S.length := by
  induction n with
  | zero => intro a S; rfl
  | succ n ih => intro a S; rw [rdG, ih, List.length_set]
theorem rdsG_len (G : List Bool) (n : Nat) : ∀ S, (rdsG G n S).length = S.length := by
  induction n with
  | zero => intro S; rfl
  | succ n ih => intro S; rw [rdsG, ih, rdG_len]
theorem levelsB_len (G : List Bool) : (levelsB G).length = 8 := by unfold levelsB; rw [rdsG_len]; rfl
theorem getD_setN (S : List Nat) (a v z : Nat) (ha : a < S.length) : (S.set a v).getD z 0 = if z = a then v else S.getD z 0 := by
  by_cases h : z = a
  · subst h; simp [List.getD, ha]
  · simp [List.getD, h, List.getElem?_set_ne (Ne.symm h)]
theorem rd_between {G : List Bool} (hl : G.length = 64) (hr : ringB G = false) (r : Nat) (n : Nat) : ∀ a S, S.length = 8 → a + n = 8 → (∀ z, z < 8 → lvG G r z ≤ S.getD z 0 ∧ S.getD z 0 ≤ levG G z) → (∀ z, z < a → lvG G (r + 1) z ≤ S.getD z 0) → ∀ z, z < 8 → lvG G (r + 1) z ≤ (rdG G n a S).getD z 0 ∧ (rdG G n a S).getD z 0 ≤ levG G z := by
  induction n with
  | zero => intro a S _ ha h1 h2 z hz; rw [rdG]; exact ⟨h2 z (by omega), (h1 z hz).2⟩
  | succ n ih =>
    intro a S hS ha h1 h2
    rw [rdG]
    have hlo : lvG G (r + 1) a ≤ mxG (gA G a) (fun z => S.getD z 0) 8 0 0 := by
      rw [lvG]; exact mx_mono (fun z hz _ => (h1 z hz).1)
    have hhi : mxG (gA G a) (fun z => S.getD z 0) 8 0 0 ≤ levG G a := by
      rw [← lev_fix hl hr a (by omega)]; exact mx_mono (fun z hz _ => (h1 z hz).2)
    refine ih (a + 1) _ (by rw [List.length_set]; exact hS) (by omega) (fun z hz => ?_) (fun z hz => ?_)
    · rw [getD_setN S a _ z (by omega)]
      split
      · rename_i h; subst h; exact ⟨Nat.le_trans (lv_mono G r z) hlo, hhi⟩
      · exact h1 z hz
    · rw [getD_setN S a _ z (by omega)]
      split
      · rename_i h; subst h; exact hlo
      · exact h2 z (by omega)
theorem rds_between {G : List Bool} (hl : G.length = 64) (hr : ringB G = false) (n : Nat) : ∀ r S, S.length = 8 → (∀ z, z < 8 → lvG G r z ≤ S.getD z 0 ∧ S.getD z 0 ≤ levG G z) → ∀ z, z < 8 → lvG G (r + n) z ≤ (rdsG G n S).getD z 0 ∧ (rdsG G n S).getD z 0 ≤ levG G z := by
  induction n with
  | zero => intro r S _ h z hz; exact h z hz
  | succ n ih =>
    intro r S hS h z hz
    rw [rdsG, show r + (n + 1) = (r + 1) + n by omega]
    exact ih (r + 1) _ (by rw [rdG_len]; exact hS) (rd_between hl hr r 8 0 S hS rfl h (fun z hz => by omega)) z hz
theorem levels_lev {G : List Bool} (hl : G.length = 64) (hr : ringB G = false) (z : Nat) (hz : z < 8) : (levelsB G).getD z 0 = levG G z := by
  have := rds_between hl hr 7 0 (List.replicate 8 0) rfl (fun z hz => by
    have e : (List.replicate 8 0).getD z 0 = 0 := by simp only [List.getD, List.getElem?_replicate, hz, if_true, Option.getD_some]
    rw [e]; exact ⟨Nat.le_refl _, Nat.zero_le _⟩) z hz
  unfold levelsB
  have h2 : lvG G (0 + 7) z = levG G z := rfl
  omega
theorem mx_bound (p : Nat → Bool) (S : Nat → Nat) (m n k acc : Nat) (ha : acc ≤ m + 1) (h : ∀ z, k ≤ z → z < k + n → S z ≤ m) : mxG p S n k acc ≤ m + 1 := by
  rw [mx_le]; exact ⟨ha, fun z h1 h2 _ => by have := h z h1 h2; omega⟩
end Go.Proofs.YtnbpdffdnphbeaaGreat
