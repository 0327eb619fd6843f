/- What Read of the program gives: the tokens of a text in a row of its own, and one behind them. -/
import Derived.Test.YtnbpdffdnphbeaaGreatRead
import Derived.Deep.RegionHeld3
import Derived.Deep.DrawnRows
namespace Go.Proofs.YtnbpdffdnphbeaaGreat
open Go.RowKit

theorem news_cellsH (w : World) (cs : Array Value) (T : TypeId) (l : List Value) (h : cs.toList = l) {H : Nat} (hH : w.heap.size = H) :
    ∀ j u, l[j]? = some u → (w.alloc (.cells cs T)).cell? ((⟨H, 0, none⟩ : Addr).add j) = some u := by
  subst hH; exact news_cells w cs T l h

theorem own_block_le2 {w : World} {B : Nat} {e : TypeId} {size : Nat} {v : Value} {n : Nat} {xs : List Value} (hown : w.ownsRow B e size v n xs) : ∀ k, v.ownBlock = some k → B ≤ k :=
  fun k hk => (own_block_lt hown k hk).1

set_option maxHeartbeats 1000000 in
theorem Read_any (l : Bs) (w : World) (hl : l.length ≤ 4000) :
    Calls Tryz.prog 22 #[.string ⟨l.toArray⟩] w fun e w' => ∃ v, e = .returned v ∧ w'.ownsRow w.heap.size 86 4 v ((toksAt l 0).length + 1) (flatP (toksAt l 0) ++ endTok l.length) ∧ Below w.heap.size w w' := by
  obtain ⟨i0, hi0, hz0, hz1, hz2⟩ := info_parts infoPtok
  obtain ⟨B, hB⟩ : ∃ B, B = w.heap.size := ⟨_, rfl⟩
  have HB : Hid (B = w.heap.size) := hB
  rw [← hB]
  clear hB
  go_enter Tryz.func22, Tryz.ntmps22
  go_wp2_with fail
  have h0 : (w.alloc (.cells #[] 86)).ownsRow B 86 4 (.slice (some ⟨w.heap.size, 0, none⟩) 0 0) 0 (flatP []) :=
    ⟨rfl, .inr ⟨w.heap.size, 0, #[], rfl, by rw [HB.out]; exact Nat.le_refl _, heap_alloc_new w _, Nat.le_refl _, by simp [maxLen], rfl, rfl⟩⟩
  have hb0 : Below B w (w.alloc (.cells #[] 86)) := (Below.refl _ _).alloc (by rw [HB.out]; exact Nat.le_refl _) _
  have H0 := hideP2 h0
  have HB0 := hideP2 hb0
  clear h0 hb0
  go_loopw [3, 4] (fun lv av wr => ∃ (p : Nat) (ts : Toks), p ≤ l.length ∧ av = .int .i64 p ∧ wr.ownsRow B 86 4 lv ts.length (flatP ts) ∧ Below B w wr ∧ Hid (ts ++ toksAt l p = toksAt l 0)) (fun _ av _ => l.length - (intOf av).toNat)
  case atStart => exact ⟨0, [], Nat.zero_le _, rfl, H0.out, HB0.out, rfl⟩
  case round =>
    obtain ⟨p, ts, hp, rfl, hown, hbel, hH⟩ := hrel
    clear H0 HB0
    have hBw : B ≤ wr.heap.size := by have h5 := hbel.size; have h6 := HB.out; omega
    have hts0 : ts.length ≤ 4000 := by
      have h1 := congrArg List.length hH.out; have h2 := toksAt_len l 0; simp only [List.length_append] at h1; omega
    by_cases hlt : p < l.length
    · by_cases hk : so (l.getD p 0) = 3
      · have HF : Hid (ts ++ toksAt l (p + 1) = toksAt l 0) := by have := hH.out; rw [toksAt_blank hlt hk] at this; exact this
        have HQ := hideP2 (at_blank (b := true) (by rw [hk]; rfl) : ∀ h : p < (ByteArray.mk l.toArray).size, blankI (((ByteArray.mk l.toArray)[p]'h).toNat : Int) = true)
        clear hk hH
        go_wp2_with (go_at_call 39; refine (isBlank_is _ true (HQ.out _) _).mono ?_; rintro e w' ⟨rfl, hw⟩; obtain rfl := hw.symm)
        go_roundw
        case rel => exact ⟨p + 1, ts, by omega, by go_num, hown, hbel, HF.out⟩
        case measure => simp [intOf]; omega
      · have HQ := hideP2 (at_blank (b := false) (by simp only [hk, decide_false]) : ∀ h : p < (ByteArray.mk l.toArray).size, blankI (((ByteArray.mk l.toArray)[p]'h).toNat : Int) = false)
        have HTk := hideP2 (fun w => tokenAt_any l p w hl hlt hk)
        have hF := hH.out
        rw [toksAt_tok hlt hk] at hF
        have hn1 := lenB_pos (l.drop p)
        have hn2 := lenB_le (l := l.drop p) (by rw [List.length_drop]; omega)
        rw [List.length_drop] at hn2
        have htl : ((l.drop p).take (lenB (l.drop p))).length = lenB (l.drop p) := by rw [List.length_take, List.length_drop]; omega
        generalize (l.drop p).take (lenB (l.drop p)) = t at *
        generalize lenB (l.drop p) = n at *
        have HF : Hid ((ts ++ [(p, t)]) ++ toksAt l (p + n) = toksAt l 0) := by rw [Hid, List.append_assoc]; exact hF
        have hpt : ptok (p, t) = [.int .i64 (pkind t), .string ⟨t.toArray⟩, .int .i64 (pval t), .int .i64 p] := rfl
        generalize hkk : pkind t = k at *
        generalize hvv : pval t = v at *
        have HPT := hideP2 hpt
        clear hk hH hF hkk hvv hpt
        subst htl
        go_wp2_with fail
        refine (isBlank_is _ false (HQ.out _) _).mono ?_; rintro e w' ⟨rfl, hw⟩; obtain rfl := hw.symm
        go_wp2_with fail
        refine (HTk.out _).mono ?_; rintro e w2 ⟨rfl, hb2⟩
        have hown2 := owns_below hown hb2
        have hbel2 := hbel.trans (hb2.mono hBw)
        have HG := hideP2 (own_block_lt hown)
        have hsz2 := hb2.size
        clear hown hbel hb2 HQ HTk
        unfold tokV
        go_wp2_with (at_builtin; refine wpList_append_own _ rfl _ _ 73 rfl B 86 i0 _ 4 40 Tryz.underlying73 hi0 hz0 hz1 hz2 rfl (by decide) _ _ _ rfl ((hown2.alloc _).alloc _) ⟨w2.heap.size + 1, 0, none⟩ 1 1 (ptok (p, t)) rfl rfl ?c1 ?c2 ?c3 ?c4 ?c5 ?_)
        case c1 => rw [HPT.out]; exact news_cellsH _ _ _ _ rfl (by simp)
        case c2 => rw [HPT.out]; intro u hu; simp at hu; rcases hu with rfl | rfl | rfl | rfl <;> rfl
        case c3 => unfold maxLen; omega
        case c4 => omega
        case c5 => simp; omega
        intro v' w3 hown3 hgrow _
        have hcell : w3.cell? ⟨w2.heap.size, 1, none⟩ = some (.string ⟨t.toArray⟩) := by
          rw [hgrow.cell_far ⟨w2.heap.size, 1, none⟩ (by simp; omega) (by
            intro h
            have h2 := (HG.out w2.heap.size h.symm).2
            omega)]
          simp [World.cell?_alloc_past]
        have hbel3 : Below B w w3 := ((hbel2.alloc (by omega) _).alloc (by simp; omega) _).grown hgrow (by simp; omega) (fun k hk => (HG.out k hk).1)
        clear hown2 hbel2 hgrow HG
        go_wp2
        go_roundw
        case rel => exact ⟨p + t.length, ts ++ [(p, t)], by omega, by go_num, by rw [flatP_snoc]; simpa using hown3, hbel3, HF.out⟩
        case measure => simp [intOf]; omega
    · have HF : Hid (ts = toksAt l 0) := by have := hH.out; rw [toksAt_end hlt, List.append_nil] at this; exact this
      clear hH
      go_wp2_with (at_builtin; refine wpList_append_own _ rfl _ _ 73 rfl B 86 i0 _ 4 40 Tryz.underlying73 hi0 hz0 hz1 hz2 rfl (by decide) _ _ _ rfl (hown.alloc _) ⟨wr.heap.size, 0, none⟩ 1 1 (endTok l.length) rfl rfl ?c1 ?c2 ?c3 ?c4 ?c5 ?_)
      case c1 => exact news_cells _ _ _ _ rfl
      case c2 => intro u hu; simp [endTok] at hu; rcases hu with rfl | rfl | rfl | rfl <;> rfl
      case c3 => unfold maxLen; omega
      case c4 => omega
      case c5 => simp; omega
      intro v' w3 hown3 hgrow _
      have hbel3 : Below B w w3 := (hbel.alloc hBw _).grown hgrow (by simp; omega) (own_block_le2 hown)
      clear hown hbel hgrow
      go_wp2
      go_ret
      exact ⟨_, rfl, by rw [← HF.out]; exact hown3, hbel3⟩
end Go.Proofs.YtnbpdffdnphbeaaGreat

/- The reader's place in memory: its block, the row of tokens, and what is kept from step to step. -/
namespace Go.Proofs.YtnbpdffdnphbeaaGreat
open Go.RowKit

/-- A token of the program: its kind, its text, its value, its place. -/
structure PT where
  k : Int
  s : Bs
  v : Int
  p : Nat

def pz : PT := ⟨0, [], 0, 0⟩
def cur (P : List PT) (i : Nat) : PT := P.getD i pz

/-- Of the blocks below B all but R are as they were. -/
structure Keeps (B R : Nat) (w w' : World) : Prop where
  os : w'.os = w.os
  tape : w'.tape = w.tape
  output : w'.output = w.output
  size : w.heap.size ≤ w'.heap.size
  block : ∀ k, k < B → k ≠ R → w'.heap[k]? = w.heap[k]?

theorem Keeps.refl (B R : Nat) (w : World) : Keeps B R w w := ⟨rfl, rfl, rfl, Nat.le_refl _, fun _ _ _ => rfl⟩
theorem Keeps.trans {B R : Nat} {a b c : World} (h : Keeps B R a b) (k : Keeps B R b c) : Keeps B R a c :=
  ⟨k.os.trans h.os, k.tape.trans h.tape, k.output.trans h.output, Nat.le_trans h.size k.size, fun i hi hr => (k.block i hi hr).trans (h.block i hi hr)⟩
theorem Keeps.mono {B B' R : Nat} {w w' : World} (h : Keeps B R w w') (hB : B' ≤ B) : Keeps B' R w w' := ⟨h.os, h.tape, h.output, h.size, fun k hk hr => h.block k (Nat.lt_of_lt_of_le hk hB) hr⟩
theorem Keeps.of_below {B R : Nat} {w w' : World} (h : Below B w w') : Keeps B R w w' := ⟨h.os, h.tape, h.output, h.size, fun k hk _ => h.block k hk⟩
theorem Keeps.drew {B R : Nat} {a w : World} (h : Keeps B R a w) : Keeps B R a w.drew := ⟨h.os, h.tape, h.output, h.size, h.block⟩
theorem Keeps.alloc {B R : Nat} {a w : World} (h : Keeps B R a w) (hB : B ≤ w.heap.size) (o : Obj) : Keeps B R a (w.alloc o) :=
  h.trans ⟨rfl, rfl, rfl, by simp, fun k hk _ => Below.heap_alloc _ _ _ (by omega)⟩
theorem Keeps.setCell {B R : Nat} {a w : World} (h : Keeps B R a w) {p : Addr} (hp : B ≤ p.block ∨ p.block = R) (u : Value) : Keeps B R a (w.setCell p u) :=
  h.trans ⟨rfl, rfl, rfl, by simp [World.setCell], fun k hk hr => Below.heap_setCell _ _ _ _ (by omega)⟩
theorem Keeps.cell {B R : Nat} {w w' : World} (h : Keeps B R w w') {p : Addr} (hp : p.block < B) (hr : p.block ≠ R) : w'.cell? p = w.cell? p := World.cell?_of_block (w := w) (h.block p.block hp hr)
theorem Keeps.frozen {B R : Nat} {w w' : World} (h : Keeps B R w w') {p : Addr} (hp : p.block < B) (hr : p.block ≠ R) : w'.frozen? p = w.frozen? p := World.frozen?_of_block (w := w) (h.block p.block hp hr)

/-- The program's tokens lie in block g. -/
def TokM (w : World) (g : Nat) (P : List PT) : Prop := ∀ i, i < P.length →
  w.cell? ⟨g, i * 4, none⟩ = some (.int .i64 (cur P i).k) ∧ w.cell? ⟨g, i * 4 + 1, none⟩ = some (.string ⟨(cur P i).s.toArray⟩) ∧ w.cell? ⟨g, i * 4 + 2, none⟩ = some (.int .i64 (cur P i).v) ∧ w.cell? ⟨g, i * 4 + 3, none⟩ = some (.int .i64 (cur P i).p)

def rdObj (g cap : Nat) (P : List PT) (a : Nat) (f : Bool) : Obj := .cells #[.slice (some ⟨g, 0, none⟩) P.length cap, .int .i64 a, .bool f] 76 (0, 0)

/-- The reader stands at token a; f: it has failed. -/
structure Ctx (w : World) (R g cap : Nat) (P : List PT) (a : Nat) (f : Bool) : Prop where
  blk : w.heap[R]? = some (rdObj g cap P a f)
  tok : TokM w g P
  gR : g ≠ R
  glt : g < w.heap.size
  at' : a < P.length
  cap1 : P.length ≤ cap
  cap2 : cap ≤ maxLen
  many : P.length ≤ 4001
  endk : ∀ i, i < P.length → (cur P i).k ≠ 0 → i + 1 < P.length

theorem Ctx.rlt {w : World} {R g cap : Nat} {P : List PT} {a : Nat} {f : Bool} (h : Ctx w R g cap P a f) : R < w.heap.size := by
  rcases Nat.lt_or_ge R w.heap.size with h1 | h1
  · exact h1
  · have := h.blk; rw [Array.getElem?_eq_none h1] at this; cases this

theorem TokM.keeps {w w' : World} {g B R : Nat} {P : List PT} (h : TokM w g P) (hk : Keeps B R w w') (hg : g < B) (hr : g ≠ R) : TokM w' g P := by
  intro i hi
  obtain ⟨a, b, c, d⟩ := h i hi
  exact ⟨by rw [hk.cell (p := ⟨g, _, none⟩) hg hr]; exact a, by rw [hk.cell (p := ⟨g, _, none⟩) hg hr]; exact b, by rw [hk.cell (p := ⟨g, _, none⟩) hg hr]; exact c, by rw [hk.cell (p := ⟨g, _, none⟩) hg hr]; exact d⟩

theorem Ctx.keeps {w w' : World} {R g cap : Nat} {P : List PT} {a a' : Nat} {f f' : Bool} (h : Ctx w R g cap P a f) (hb : w'.heap[R]? = some (rdObj g cap P a' f')) (hk : Keeps w.heap.size R w w') (ha : a' < P.length) : Ctx w' R g cap P a' f' :=
  ⟨hb, h.tok.keeps hk h.glt h.gR, h.gR, Nat.lt_of_lt_of_le h.glt hk.size, ha, h.cap1, h.cap2, h.many, h.endk⟩

theorem Ctx.cells {w : World} {R g cap : Nat} {P : List PT} {a : Nat} {f : Bool} (h : Ctx w R g cap P a f) :
    w.cell? ⟨R, 0, none⟩ = some (.slice (some ⟨g, 0, none⟩) P.length cap) ∧ w.cell? ⟨R, 1, none⟩ = some (.int .i64 a) ∧ w.cell? ⟨R, 2, none⟩ = some (.bool f) := by
  have hb := h.blk
  unfold rdObj at hb
  refine ⟨?_, ?_, ?_⟩ <;> simp [World.cell?, hb]

theorem Ctx.notFrozen {w : World} {R g cap : Nat} {P : List PT} {a : Nat} {f : Bool} (h : Ctx w R g cap P a f) (o : Nat) : w.frozen? ⟨R, o, none⟩ = false := by
  have hb := h.blk
  unfold rdObj at hb
  simp [World.frozen?, hb]

theorem rd_adv {w : World} {R g cap a : Nat} {P : List PT} {f : Bool} (h : w.heap[R]? = some (rdObj g cap P a f)) : (w.setCell ⟨R, 1, none⟩ (.int .i64 ((a : Int) + 1))).heap[R]? = some (rdObj g cap P (a + 1) f) := by
  unfold rdObj at h ⊢
  rw [heap_setCell_same w R 1 _ _ _ h]; simp
theorem rd_fail {w : World} {R g cap a : Nat} {P : List PT} {f : Bool} (h : w.heap[R]? = some (rdObj g cap P a f)) : (w.setCell ⟨R, 2, none⟩ (.bool true)).heap[R]? = some (rdObj g cap P a true) := by
  unfold rdObj at h ⊢
  rw [heap_setCell_same w R 2 _ _ _ h]; simp
theorem kept_alloc {w : World} {R : Nat} {o x : Obj} (hR : R < w.heap.size) (h : w.heap[R]? = some x) : (w.alloc o).heap[R]? = some x := by
  rw [Below.heap_alloc _ _ _ hR]; exact h
theorem size_setCell (w : World) (a : Addr) (v : Value) : (w.setCell a v).heap.size = w.heap.size := by simp [World.setCell]
theorem rd_adv_alloc {w : World} {R g cap a : Nat} {P : List PT} {f : Bool} (h : w.heap[R]? = some (rdObj g cap P a f)) (hR : R < w.heap.size) (x : Obj) : ((w.setCell ⟨R, 1, none⟩ (.int .i64 ((a : Int) + 1))).alloc x).drew.heap[R]? = some (rdObj g cap P (a + 1) f) :=
  kept_alloc (w := w.setCell ⟨R, 1, none⟩ (.int .i64 ((a : Int) + 1))) (by rw [size_setCell]; exact hR) (rd_adv h)
theorem keeps_set_alloc (w : World) (R o : Nat) (v : Value) (x : Obj) : Keeps w.heap.size R w ((w.setCell ⟨R, o, none⟩ v).alloc x).drew :=
  (((Keeps.refl _ _ _).setCell (p := ⟨R, o, none⟩) (.inr rfl) v).alloc (by rw [size_setCell]; exact Nat.le_refl _) x).drew
theorem kept_drew {w : World} {R : Nat} {x : Obj} (h : w.heap[R]? = some x) : w.drew.heap[R]? = some x := h

/-- A place, one further if so. -/
def adv (b : Bool) (a : Nat) : Nat := match b with | true => a + 1 | false => a

def skipB (P : List PT) (t : Bs) (a : Nat) (f : Bool) : Bool := !f && decide ((cur P a).k = 4) && decide ((cur P a).s = t)

set_option maxHeartbeats 1000000 in
theorem next_rd (w : World) (R g cap : Nat) (P : List PT) (a : Nat) (f : Bool) (h : Ctx w R g cap P a f) (kd : Int) :
    Calls Tryz.prog 23 #[.pointer (some ⟨R, 0, none⟩), .int .i64 kd] w fun e w' => e = .returned (.bool ((cur P a).k == kd)) ∧ Ctx w' R g cap P a f ∧ Keeps w.heap.size R w w' := by
  obtain ⟨c0, c1, _⟩ := h.cells
  obtain ⟨t0, _, _, _⟩ := h.tok a h.at'
  have i1 : (0 : Int) ≤ (a : Int) := by omega
  have i2 : (a : Int) < (P.length : Int) := by have := h.at'; omega
  have HC := hideP2 h
  clear h
  go_enter Tryz.func23, Tryz.ntmps23
  go_wp2_with fail
  go_region_held3 (fun w' => w'.cell? ⟨R, 0, none⟩ = some (.slice (some ⟨g, 0, none⟩) P.length cap) ∧ w'.cell? ⟨R, 1, none⟩ = some (.int .i64 a) ∧ w'.cell? ⟨g, a * 4, none⟩ = some (.int .i64 (cur P a).k)) (go_keep) (fail)
  go_wp2_with fail
  go_ret
  exact ⟨rfl, HC.out.keeps HC.out.blk (Keeps.refl _ _ _).drew HC.out.at', (Keeps.refl _ _ _).drew⟩

end Go.Proofs.YtnbpdffdnphbeaaGreat
