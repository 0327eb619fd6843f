/- What Form of the document's answer gives of a text: the place of what can't stand, or -1. -/
import Derived.Test.YtnbpdffdnphbeaaGreatDoorNext
import Derived.Test.YtnbpdffdnphbeaaGreatDoorLex
namespace Go.Proofs.YtnbpdffdnphbeaaGreatDoor
open Go.RowKit

/-- Tokens lie in block g from place o on. -/
def SegR (w : World) (g o : Nat) (ts : List (Nat × Bs)) : Prop := ∀ i, i < ts.length →
  w.cell? ⟨g, o + i * 3, none⟩ = some (.string ⟨(ts.getD i (0, [])).2.toArray⟩) ∧ w.cell? ⟨g, o + i * 3 + 1, none⟩ = some (.int .i64 (ts.getD i (0, [])).1) ∧ w.cell? ⟨g, o + i * 3 + 2, none⟩ = some (.string ⟨(clsB (ts.getD i (0, [])).2).toArray⟩)

theorem flatR_get (ts : List (Nat × Bs)) : ∀ i, i < ts.length →
    (flatR ts)[i * 3]? = some (.string ⟨(ts.getD i (0, [])).2.toArray⟩) ∧ (flatR ts)[i * 3 + 1]? = some (.int .i64 (ts.getD i (0, [])).1) ∧ (flatR ts)[i * 3 + 2]? = some (.string ⟨(clsB (ts.getD i (0, [])).2).toArray⟩) := by
  induction ts with
  | nil => intro i h; simp at h
  | cons t r ih =>
    intro i h
    have e : flatR (t :: r) = rtok t ++ flatR r := by simp [flatR]
    cases i with
    | zero => rw [e]; simp [rtok]
    | succ i =>
      have hlen : (rtok t).length = 3 := rfl
      have hi := ih i (by simpa using h)
      rw [e]
      refine ⟨?_, ?_, ?_⟩
      · rw [List.getElem?_append_right (by rw [hlen]; omega), hlen, show (i + 1) * 3 - 3 = i * 3 by omega]; simpa using hi.1
      · rw [List.getElem?_append_right (by rw [hlen]; omega), hlen, show (i + 1) * 3 + 1 - 3 = i * 3 + 1 by omega]; simpa using hi.2.1
      · rw [List.getElem?_append_right (by rw [hlen]; omega), hlen, show (i + 1) * 3 + 2 - 3 = i * 3 + 2 by omega]; simpa using hi.2.2

theorem cell_take {w : World} {g : Nat} {cur : Array Value} {e : TypeId} {fz : Nat × Nat} {k n : Nat} {xs : List Value} {u : Value}
    (hb : w.heap[g]? = some (.cells cur e fz)) (ht : cur.toList.take n = xs) (hx : xs[k]? = some u) : w.cell? ⟨g, k, none⟩ = some u := by
  have h1 : cur.toList[k]? = some u := by
    rw [← ht, List.getElem?_take] at hx
    split at hx
    · exact hx
    · cases hx
  simp [World.cell?, hb]
  simpa using h1

/-- A row of tokens that is owned: its value and where it lies. -/
theorem owns_seg {w : World} {base : Nat} {v : Value} {ts : List (Nat × Bs)} (h : w.ownsRow base 193 3 v ts.length (flatR ts)) :
    (v = .slice none 0 0 ∧ ts = []) ∨ ∃ g cap, v = .slice (some ⟨g, 0, none⟩) ts.length cap ∧ base ≤ g ∧ g < w.heap.size ∧ ts.length ≤ cap ∧ cap ≤ maxLen ∧ SegR w g 0 ts := by
  rcases h.2 with ⟨h1, h2⟩ | ⟨g, cap, cur, h1, h2, h3, h4, h5, h6, h7⟩
  · exact .inl ⟨h1, List.eq_nil_of_length_eq_zero h2⟩
  · refine .inr ⟨g, cap, h1, h2, ?_, h4, h5, ?_⟩
    · rcases Nat.lt_or_ge g w.heap.size with h | h
      · exact h
      · rw [Array.getElem?_eq_none h] at h3; cases h3
    · intro i hi
      obtain ⟨a, b, c⟩ := flatR_get ts i hi
      refine ⟨?_, ?_, ?_⟩
      · rw [Nat.zero_add]; exact cell_take h3 h7 a
      · rw [Nat.zero_add]; exact cell_take h3 h7 b
      · rw [Nat.zero_add]; exact cell_take h3 h7 c

theorem Folw.below {w w' : World} (h : Folw w) (hb : Below w.heap.size w w') : Folw w' := by
  have h0 : 0 < w.heap.size := by
    have := h 0 (by omega)
    rcases Nat.eq_zero_or_pos w.heap.size with h1 | h1
    · rw [World.cell?, Array.getElem?_eq_none (by simpa using h1)] at this; cases this
    · exact h1
  intro j hj
  rw [hb.cell (p := ⟨0, j, none⟩) h0]; exact h j hj

set_option maxHeartbeats 1000000 in
theorem Form_any (l : Bs) (w : World) (hl : l.length ≤ 4000) (hf : Folw w) :
    Calls Tryz.prog 74 #[.string ⟨l.toArray⟩] w fun e w' => e = .returned (.int .i64 (formB l)) ∧ Below w.heap.size w w' := by
  have HW : Hid (Folw w) := hf
  clear hf
  go_enter Tryz.func74, Tryz.ntmps74
  go_wp2_with (go_at_call 109; refine (Tokens_any l _ hl).mono ?_; rintro e w1 ⟨v, rfl, hown, hbel⟩)
  have HF1 : Hid (Folw w1) := HW.out.below hbel
  have HR : Hid (formB l = formTo l.length (toksAt l 0) sLine 0) := rfl
  have hts := toksAt_len l 0
  generalize toksAt l 0 = ts at *
  rcases owns_seg hown with ⟨rfl, rfl⟩ | ⟨g, cap, rfl, _, _, hcap, hmax, hseg⟩
  · clear hown hts
    go_loop [4, 5, 6] (fun sv ov iv => sv = .string ⟨sLine.toArray⟩ ∧ ov = .int .i64 0 ∧ iv = .int .i64 0) (fun _ _ _ => 0)
    case atStart => exact ⟨rfl, rfl, rfl⟩
    case round =>
      obtain ⟨rfl, rfl, rfl⟩ := hrel
      have hs : (!sLine == [108, 105, 110, 101]) = false := by decide
      go_wp2_with fail
      go_ret; exact ⟨ret_int (by rw [HR.out]; rfl), hbel⟩
  · have HS : Hid (SegR w1 g 0 ts) := hseg
    clear hown hseg
    go_loop [4, 5, 6] (fun sv ov iv => ∃ (i : Nat) (st : Bs) (op : Int), i ≤ ts.length ∧ sv = .string ⟨st.toArray⟩ ∧ ov = .int .i64 op ∧ iv = .int .i64 i ∧ -(i : Int) ≤ op ∧ op ≤ i ∧ Hid (formTo l.length (ts.drop i) st op = formB l)) (fun _ _ iv => ts.length - (intOf iv).toNat)
    case atStart => exact ⟨0, sLine, 0, Nat.zero_le _, rfl, rfl, rfl, by omega, by omega, HR.out.symm⟩
    case round =>
      obtain ⟨i, st, op, hi, rfl, rfl, rfl, ho1, ho2, HI⟩ := hrel
      by_cases hlt : i < ts.length
      · obtain ⟨_, hc1, hc2⟩ := HS.out i hlt
        have HD : Hid (ts.drop i = ts.getD i (0, []) :: ts.drop (i + 1)) := drop_consT ts i hlt
        obtain ⟨tk, htk⟩ : ∃ tk, ts.getD i (0, []) = tk := ⟨_, rfl⟩
        rw [htk] at hc1 hc2 HD
        obtain ⟨cl, hcl⟩ : ∃ cl, clsB tk.2 = cl := ⟨_, rfl⟩
        rw [hcl] at hc2
        obtain ⟨st2, hst2⟩ : ∃ st2, nextB st cl op = st2 := ⟨_, rfl⟩
        have HN : Hid (nextB st cl op = st2) := hst2
        have HI2 : Hid ((if st2 = [] then (tk.1 : Int) else formTo l.length (ts.drop (i + 1)) st2 (if cl = kOpen then op + 1 else if cl = kShut then op - 1 else op)) = formB l) := by
          have := HI.out; rw [HD.out, formTo, hcl, hst2] at this; exact this
        clear htk hcl hst2 HI HD
        simp only [Nat.zero_add] at hc1 hc2
        by_cases hst : st2 = []
        · have he : List.isEmpty st2 = true := by simp [hst]
          have HE : Hid ((tk.1 : Int) = formB l) := by have := HI2.out; rw [if_pos hst] at this; exact this
          clear hst HI2
          go_wp2_with (go_at_call 128; refine (next_any st cl op _ HF1.out).mono ?_; rintro e w' ⟨rfl, hw⟩; obtain rfl := hw.symm; rw [HN.out])
          go_ret; exact ⟨ret_int HE.out, hbel⟩
        · have he : List.isEmpty st2 = false := by simp [hst]
          have HE : Hid (formTo l.length (ts.drop (i + 1)) st2 (if cl = kOpen then op + 1 else if cl = kShut then op - 1 else op) = formB l) := by have := HI2.out; rw [if_neg hst] at this; exact this
          clear hst HI2
          by_cases k1 : cl = kOpen
          · have HG : Hid (formTo l.length (ts.drop (i + 1)) st2 (op + 1) = formB l) := by have := HE.out; rw [if_pos k1] at this; exact this
            have b1 : (cl == [40]) = true := by rw [k1]; rfl
            have b2 : (cl == [41]) = false := by rw [k1]; rfl
            clear k1 HE
            go_wp2_with (go_at_call 128; refine (next_any st cl op _ HF1.out).mono ?_; rintro e w' ⟨rfl, hw⟩; obtain rfl := hw.symm; rw [HN.out])
            go_round
            case rel => exact ⟨i + 1, st2, op + 1, by omega, rfl, rfl, by go_num, by omega, by omega, HG.out⟩
            case measure => simp [intOf]; omega
          · by_cases k2 : cl = kShut
            · have HG : Hid (formTo l.length (ts.drop (i + 1)) st2 (op - 1) = formB l) := by have := HE.out; rw [if_neg k1, if_pos k2] at this; exact this
              have b1 : (cl == [40]) = false := by rw [k2]; rfl
              have b2 : (cl == [41]) = true := by rw [k2]; rfl
              clear k1 k2 HE
              go_wp2_with (go_at_call 128; refine (next_any st cl op _ HF1.out).mono ?_; rintro e w' ⟨rfl, hw⟩; obtain rfl := hw.symm; rw [HN.out])
              go_round
              case rel => exact ⟨i + 1, st2, op - 1, by omega, rfl, rfl, by go_num, by omega, by omega, HG.out⟩
              case measure => simp [intOf]; omega
            · have HG : Hid (formTo l.length (ts.drop (i + 1)) st2 op = formB l) := by have := HE.out; rw [if_neg k1, if_neg k2] at this; exact this
              have b1 : (cl == [40]) = false := by simpa [kOpen] using k1
              have b2 : (cl == [41]) = false := by simpa [kShut] using k2
              clear k1 k2 HE
              go_wp2_with (go_at_call 128; refine (next_any st cl op _ HF1.out).mono ?_; rintro e w' ⟨rfl, hw⟩; obtain rfl := hw.symm; rw [HN.out])
              go_round
              case rel => exact ⟨i + 1, st2, op, by omega, rfl, rfl, by go_num, by omega, by omega, HG.out⟩
              case measure => simp [intOf]; omega
      · have hd : ts.drop i = [] := List.drop_eq_nil_of_le (by omega)
        by_cases hst : st = sLine
        · have HE : Hid (formB l = -1) := by have := HI.out; rw [hd, formTo, if_pos hst] at this; exact this.symm
          have b1 : (!st == [108, 105, 110, 101]) = false := by rw [hst]; rfl
          clear hd hst HI
          go_wp2_with fail
          go_ret; exact ⟨ret_int HE.out.symm, hbel⟩
        · have HE : Hid (formB l = l.length) := by have := HI.out; rw [hd, formTo, if_neg hst] at this; exact this.symm
          have b1 : (!st == [108, 105, 110, 101]) = true := by simpa [sLine] using hst
          clear hd hst HI
          go_wp2_with fail
          go_ret; exact ⟨ret_int HE.out.symm, hbel⟩
end Go.Proofs.YtnbpdffdnphbeaaGreatDoor

/- Plain functions on tokens: where a word stands outside of brackets, tokens with a blank between, what a guard becomes. -/
namespace Go.Proofs.YtnbpdffdnphbeaaGreatDoor

abbrev Toks := List (Nat × Bs)

/-- The brackets that are open behind a token. -/
def opn (cl : Bs) (op : Int) : Int := if cl = kOpen then op + 1 else if cl = kShut then op - 1 else op

def outG (word : Bs) : Toks → Nat → Int → Int → Int
  | [], _, _, at' => at'
  | t :: r, i, op, at' => outG word r (i + 1) (opn (clsB t.2) op) (if opn (clsB t.2) op = 0 ∧ clsB t.2 = word then (i : Int) else at')

/-- The last place at which a word stands outside of brackets, or -1. -/
def outB (ts : Toks) (word : Bs) : Int := outG word ts 0 0 (-1)

theorem outG_bound (word : Bs) (ts : Toks) : ∀ (i : Nat) (op at' : Int), -1 ≤ at' → at' < i → -1 ≤ outG word ts i op at' ∧ outG word ts i op at' < i + ts.length := by
  induction ts with
  | nil => intro i op a h1 h2; simp [outG]; omega
  | cons t r ih =>
    intro i op a h1 h2
    rw [outG]
    have := ih (i + 1) (opn (clsB t.2) op) (if opn (clsB t.2) op = 0 ∧ clsB t.2 = word then (i : Int) else a) (by split <;> omega) (by split <;> omega)
    simp only [List.length_cons]
    omega

theorem outB_bound (ts : Toks) (word : Bs) : -1 ≤ outB ts word ∧ outB ts word < ts.length := by
  have := outG_bound word ts 0 0 (-1) (by omega) (by omega)
  unfold outB; omega

def gluF : Bs → Nat → Toks → Bs
  | s, _, [] => s
  | s, i, t :: r => gluF ((if 0 < i then s ++ [32] else s) ++ t.2) (i + 1) r

/-- Tokens with a blank between each two. -/
def gluedB (ts : Toks) : Bs := gluF [] 0 ts

/-- How many bytes tokens and blanks between them take at most. -/
def szT : Toks → Nat
  | [] => 0
  | t :: r => t.2.length + 1 + szT r

theorem szT_append (a b : Toks) : szT (a ++ b) = szT a + szT b := by
  induction a with
  | nil => simp [szT]
  | cons t r ih => simp [szT, ih]; omega

theorem szT_take_drop (ts : Toks) (k : Nat) : szT (ts.take k) + szT (ts.drop k) = szT ts := by
  rw [← szT_append, List.take_append_drop]

theorem szT_drop_le (ts : Toks) (k : Nat) : szT (ts.drop k) ≤ szT ts := by have := szT_take_drop ts k; omega
theorem szT_take_le (ts : Toks) (k : Nat) : szT (ts.take k) ≤ szT ts := by have := szT_take_drop ts k; omega

theorem gluF_len (ts : Toks) : ∀ (s : Bs) (i : Nat), (gluF s i ts).length ≤ s.length + szT ts := by
  induction ts with
  | nil => intro s i; simp [gluF, szT]
  | cons t r ih =>
    intro s i
    rw [gluF]
    have h1 := ih ((if 0 < i then s ++ [32] else s) ++ t.2) (i + 1)
    have h2 : ((if 0 < i then s ++ [32] else s) ++ t.2).length ≤ s.length + 1 + t.2.length := by
      split <;> simp <;> omega
    simp only [szT]
    omega

theorem szT_len (ts : Toks) : ts.length ≤ szT ts := by
  induction ts with
  | nil => simp [szT]
  | cons t r ih => simp [szT]; omega

def kNot : Bs := [110, 111, 116]
def kWhen : Bs := [119, 104, 101, 110]
def kRule : Bs := [114, 117, 108, 101]

/-- Text in brackets. -/
def brk (s : Bs) : Bs := [40, 32] ++ s ++ [32, 41]

/-- What a guard becomes, and its kind: 0 plain, 1 an and-text, 2 an or-text. -/
def tidG : Nat → Toks → Bs × Int
  | 0, _ => ([], 0)
  | n + 1, ts =>
    if 0 ≤ outB ts kOr then ((tidG n (ts.take (outB ts kOr).toNat)).1 ++ [32, 111, 114, 32] ++ (tidG n (ts.drop ((outB ts kOr).toNat + 1))).1, 2)
    else if 0 ≤ outB ts kAnd then
      let a := tidG n (ts.take (outB ts kAnd).toNat)
      let b := tidG n (ts.drop ((outB ts kAnd).toNat + 1))
      ((if a.2 = 2 then brk a.1 else a.1) ++ [32, 97, 110, 100, 32] ++ (if b.2 = 2 then brk b.1 else b.1), 1)
    else if clsB (ts.getD 0 (0, [])).2 = kNot then
      let a := tidG n (ts.drop 1)
      ([110, 111, 116, 32] ++ (if 0 < a.2 then brk a.1 else a.1), 0)
    else if clsB (ts.getD 0 (0, [])).2 = kOpen then tidG n ((ts.drop 1).take (ts.length - 2))
    else (gluedB ts, 0)

def whenG : Toks → Nat → Option Nat
  | [], _ => none
  | t :: r, i => if clsB t.2 = kWhen then some i else whenG r (i + 1)

/-- The place of the word when, or the last place. -/
def whenB (ts : Toks) : Int := match whenG ts 0 with | some i => (i : Int) | none => (ts.length : Int) - 1

end Go.Proofs.YtnbpdffdnphbeaaGreatDoor

/- What outside, glued and when of the document's answer give of tokens that lie in memory. -/
namespace Go.Proofs.YtnbpdffdnphbeaaGreatDoor
open Go.RowKit

set_option maxHeartbeats 1000000 in
theorem outside_any (ts : Toks) (word : Bs) (g o cap : Nat) (w : World) (hs : SegR w g o ts) (hn : ts.length ≤ 10000) (_hc : ts.length ≤ cap) :
    Calls Tryz.prog 135 #[.slice (some ⟨g, o, none⟩) ts.length cap, .string ⟨word.toArray⟩] w fun e w' => e = .returned (.int .i64 (outB ts word)) ∧ w' = w := by
  have HS : Hid (SegR w g o ts) := hs
  clear hs
  go_enter Tryz.func135, Tryz.ntmps135
  go_wp2
  go_loop [5, 6, 7] (fun ov av iv => ∃ (i : Nat) (op at' : Int), i ≤ ts.length ∧ ov = .int .i64 op ∧ av = .int .i64 at' ∧ iv = .int .i64 i ∧ -(i : Int) ≤ op ∧ op ≤ i ∧ Hid (outG word (ts.drop i) i op at' = outB ts word)) (fun _ _ iv => ts.length - (intOf iv).toNat)
  case atStart => exact ⟨0, 0, -1, Nat.zero_le _, rfl, rfl, rfl, by omega, by omega, rfl⟩
  case round =>
    obtain ⟨i, op, at', hi, rfl, rfl, rfl, ho1, ho2, HI⟩ := hrel
    by_cases hlt : i < ts.length
    · obtain ⟨_, _, hc2⟩ := HS.out i hlt
      have HD : Hid (ts.drop i = ts.getD i (0, []) :: ts.drop (i + 1)) := drop_consT ts i hlt
      obtain ⟨cl, hcl⟩ : ∃ cl, clsB (ts.getD i (0, [])).2 = cl := ⟨_, rfl⟩
      rw [hcl] at hc2
      have HI2 : Hid (outG word (ts.drop (i + 1)) (i + 1) (opn cl op) (if opn cl op = 0 ∧ cl = word then (i : Int) else at') = outB ts word) := by
        have := HI.out; rw [HD.out, outG, hcl] at this; exact this
      clear HI HD hcl
      by_cases k1 : cl = kOpen
      · have k2 : True := trivial
        have hop : opn cl op = op + 1 := by simp [opn, k1]
        have b1 : (cl == [40]) = true := by rw [k1]; rfl
        have b2 : (cl == [41]) = false := by rw [k1]; rfl
        by_cases hz : op + 1 = 0
        · have c0 : (op + 1 == 0) = true := by simpa using hz
          by_cases hw : cl = word
          · have c1 : (cl == word) = true := by simpa using hw
            have HE : Hid (outG word (ts.drop (i + 1)) (i + 1) (op + 1) (i : Int) = outB ts word) := by have := HI2.out; rw [hop, if_pos ⟨hz, hw⟩] at this; exact this
            clear HI2 hop hz hw k1 k2
            go_wp2
            all_goals
              go_round
              case rel => exact ⟨i + 1, op + 1, i, by omega, by first | rfl | go_num, rfl, by go_num, by omega, by omega, HE.out⟩
              case measure => simp [intOf]; omega
          · have c1 : (cl == word) = false := by simpa using hw
            have HE : Hid (outG word (ts.drop (i + 1)) (i + 1) (op + 1) at' = outB ts word) := by have := HI2.out; rw [hop, if_neg (fun h => hw h.2)] at this; exact this
            clear HI2 hop hz hw k1 k2
            go_wp2
            all_goals
              go_round
              case rel => exact ⟨i + 1, op + 1, at', by omega, by first | rfl | go_num, rfl, by go_num, by omega, by omega, HE.out⟩
              case measure => simp [intOf]; omega
        · have c0 : (op + 1 == 0) = false := by simpa using hz
          have HE : Hid (outG word (ts.drop (i + 1)) (i + 1) (op + 1) at' = outB ts word) := by have := HI2.out; rw [hop, if_neg (fun h => hz h.1)] at this; exact this
          clear HI2 hop hz k1 k2
          go_wp2
          all_goals
            go_round
            case rel => exact ⟨i + 1, op + 1, at', by omega, by first | rfl | go_num, rfl, by go_num, by omega, by omega, HE.out⟩
            case measure => simp [intOf]; omega
      by_cases k2 : cl = kShut
      · have hop : opn cl op = op - 1 := by simp [opn, k2, kOpen, kShut]
        have b1 : (cl == [40]) = false := by rw [k2]; rfl
        have b2 : (cl == [41]) = true := by rw [k2]; rfl
        by_cases hz : op - 1 = 0
        · have c0 : (op - 1 == 0) = true := by simpa using hz
          by_cases hw : cl = word
          · have c1 : (cl == word) = true := by simpa using hw
            have HE : Hid (outG word (ts.drop (i + 1)) (i + 1) (op - 1) (i : Int) = outB ts word) := by have := HI2.out; rw [hop, if_pos ⟨hz, hw⟩] at this; exact this
            clear HI2 hop hz hw k1 k2
            go_wp2
            all_goals
              go_round
              case rel => exact ⟨i + 1, op - 1, i, by omega, by first | rfl | go_num, rfl, by go_num, by omega, by omega, HE.out⟩
              case measure => simp [intOf]; omega
          · have c1 : (cl == word) = false := by simpa using hw
            have HE : Hid (outG word (ts.drop (i + 1)) (i + 1) (op - 1) at' = outB ts word) := by have := HI2.out; rw [hop, if_neg (fun h => hw h.2)] at this; exact this
            clear HI2 hop hz hw k1 k2
            go_wp2
            all_goals
              go_round
              case rel => exact ⟨i + 1, op - 1, at', by omega, by first | rfl | go_num, rfl, by go_num, by omega, by omega, HE.out⟩
              case measure => simp [intOf]; omega
        · have c0 : (op - 1 == 0) = false := by simpa using hz
          have HE : Hid (outG word (ts.drop (i + 1)) (i + 1) (op - 1) at' = outB ts word) := by have := HI2.out; rw [hop, if_neg (fun h => hz h.1)] at this; exact this
          clear HI2 hop hz k1 k2
          go_wp2
          all_goals
            go_round
            case rel => exact ⟨i + 1, op - 1, at', by omega, by first | rfl | go_num, rfl, by go_num, by omega, by omega, HE.out⟩
            case measure => simp [intOf]; omega
      have hop : opn cl op = op := by simp [opn, k1, k2]
      have b1 : (cl == [40]) = false := by simpa [kOpen] using k1
      have b2 : (cl == [41]) = false := by simpa [kShut] using k2
      by_cases hz : op = 0
      · have c0 : (op == 0) = true := by simpa using hz
        by_cases hw : cl = word
        · have c1 : (cl == word) = true := by simpa using hw
          have HE : Hid (outG word (ts.drop (i + 1)) (i + 1) (op) (i : Int) = outB ts word) := by have := HI2.out; rw [hop, if_pos ⟨hz, hw⟩] at this; exact this
          clear HI2 hop hz hw k1 k2
          go_wp2
          all_goals
            go_round
            case rel => exact ⟨i + 1, op, i, by omega, by first | rfl | go_num, rfl, by go_num, by omega, by omega, HE.out⟩
            case measure => simp [intOf]; omega
        · have c1 : (cl == word) = false := by simpa using hw
          have HE : Hid (outG word (ts.drop (i + 1)) (i + 1) (op) at' = outB ts word) := by have := HI2.out; rw [hop, if_neg (fun h => hw h.2)] at this; exact this
          clear HI2 hop hz hw k1 k2
          go_wp2
          all_goals
            go_round
            case rel => exact ⟨i + 1, op, at', by omega, by first | rfl | go_num, rfl, by go_num, by omega, by omega, HE.out⟩
            case measure => simp [intOf]; omega
      · have c0 : (op == 0) = false := by simpa using hz
        have HE : Hid (outG word (ts.drop (i + 1)) (i + 1) (op) at' = outB ts word) := by have := HI2.out; rw [hop, if_neg (fun h => hz h.1)] at this; exact this
        clear HI2 hop hz k1 k2
        go_wp2
        all_goals
          go_round
          case rel => exact ⟨i + 1, op, at', by omega, by first | rfl | go_num, rfl, by go_num, by omega, by omega, HE.out⟩
          case measure => simp [intOf]; omega
    · have hd : ts.drop i = [] := List.drop_eq_nil_of_le (by omega)
      have HE : Hid (outB ts word = at') := by have := HI.out; rw [hd, outG] at this; exact this.symm
      clear hd HI
      go_wp2
      go_ret; exact ⟨ret_int HE.out.symm, rfl⟩

theorem cat_mk (a b : Bs) : (ByteArray.mk a.toArray) ++ (ByteArray.mk b.toArray) = ⟨(a ++ b).toArray⟩ := by
  apply ByteArray.ext
  simp

set_option maxHeartbeats 1000000 in
theorem glued_any (ts : Toks) (g o cap : Nat) (w : World) (hs : SegR w g o ts) (hn : szT ts ≤ 10000) (_hc : ts.length ≤ cap) :
    Calls Tryz.prog 140 #[.slice (some ⟨g, o, none⟩) ts.length cap] w fun e w' => e = .returned (.string ⟨(gluedB ts).toArray⟩) ∧ w' = w := by
  have HS : Hid (SegR w g o ts) := hs
  have hlen := szT_len ts
  clear hs
  go_enter Tryz.func140, Tryz.ntmps140
  go_wp2
  go_loop [3, 4] (fun sv iv => ∃ (i : Nat) (s : Bs), i ≤ ts.length ∧ sv = .string ⟨s.toArray⟩ ∧ iv = .int .i64 i ∧ s.length + szT (ts.drop i) ≤ szT ts ∧ Hid (gluF s i (ts.drop i) = gluedB ts)) (fun _ iv => ts.length - (intOf iv).toNat)
  case atStart => exact ⟨0, [], Nat.zero_le _, rfl, rfl, by simp, rfl⟩
  case round =>
    obtain ⟨i, s, hi, rfl, rfl, hsl, HI⟩ := hrel
    by_cases hlt : i < ts.length
    · obtain ⟨hc0, _, _⟩ := HS.out i hlt
      have HD : Hid (ts.drop i = ts.getD i (0, []) :: ts.drop (i + 1)) := drop_consT ts i hlt
      obtain ⟨x, hx⟩ : ∃ x, ts.getD i (0, []) = x := ⟨_, rfl⟩
      rw [hx] at hc0 HD
      rw [HD.out, szT] at hsl
      have HI2 : Hid (gluF ((if 0 < i then s ++ [32] else s) ++ x.2) (i + 1) (ts.drop (i + 1)) = gluedB ts) := by
        have := HI.out; rw [HD.out, gluF] at this; exact this
      obtain ⟨y, hy⟩ : ∃ y, x.2 = y := ⟨_, rfl⟩
      rw [hy] at hc0 HI2 hsl
      obtain ⟨m, hm⟩ : ∃ m, szT (ts.drop (i + 1)) = m := ⟨_, rfl⟩
      have HM : Hid (szT (ts.drop (i + 1)) = m) := hm
      rw [hm] at hsl
      clear HI HD hx hy hm
      by_cases h0 : 0 < i
      · have HE : Hid (gluF ((s ++ [32]) ++ y) (i + 1) (ts.drop (i + 1)) = gluedB ts) := by have := HI2.out; rw [if_pos h0] at this; exact this
        clear HI2
        go_wp2
        go_round
        case rel => exact ⟨i + 1, (s ++ [32]) ++ y, by omega, by rw [← cat_mk, ← cat_mk], by go_num, by rw [HM.out]; simp; omega, HE.out⟩
        case measure => simp [intOf]; omega
      · have HE : Hid (gluF (s ++ y) (i + 1) (ts.drop (i + 1)) = gluedB ts) := by have := HI2.out; rw [if_neg h0] at this; exact this
        clear HI2
        go_wp2
        go_round
        case rel => exact ⟨i + 1, s ++ y, by omega, by rw [← cat_mk], by go_num, by rw [HM.out]; simp; omega, HE.out⟩
        case measure => simp [intOf]; omega
    · have hd : ts.drop i = [] := List.drop_eq_nil_of_le (by omega)
      have HE : Hid (gluedB ts = s) := by have := HI.out; rw [hd, gluF] at this; exact this.symm
      clear hd HI
      go_wp2
      go_ret; exact ⟨ret_str HE.out.symm, rfl⟩

set_option maxHeartbeats 1000000 in
theorem when_any (ts : Toks) (g o cap : Nat) (w : World) (hs : SegR w g o ts) (hn : ts.length ≤ 10000) (_hc : ts.length ≤ cap) :
    Calls Tryz.prog 78 #[.slice (some ⟨g, o, none⟩) ts.length cap] w fun e w' => e = .returned (.int .i64 (whenB ts)) ∧ w' = w := by
  have HS : Hid (SegR w g o ts) := hs
  clear hs
  go_enter Tryz.func78, Tryz.ntmps78
  go_wp2
  go_loop [3] (fun iv => ∃ i : Nat, i ≤ ts.length ∧ iv = .int .i64 i ∧ Hid (whenG (ts.drop i) i = whenG ts 0)) (fun iv => ts.length - (intOf iv).toNat)
  case atStart => exact ⟨0, Nat.zero_le _, rfl, rfl⟩
  case round =>
    obtain ⟨i, hi, rfl, HI⟩ := hrel
    by_cases hlt : i < ts.length
    · obtain ⟨_, _, hc2⟩ := HS.out i hlt
      have HD : Hid (ts.drop i = ts.getD i (0, []) :: ts.drop (i + 1)) := drop_consT ts i hlt
      obtain ⟨cl, hcl⟩ : ∃ cl, clsB (ts.getD i (0, [])).2 = cl := ⟨_, rfl⟩
      rw [hcl] at hc2
      have HI2 : Hid ((if cl = kWhen then some i else whenG (ts.drop (i + 1)) (i + 1)) = whenG ts 0) := by have := HI.out; rw [HD.out, whenG, hcl] at this; exact this
      clear HI HD hcl
      by_cases k1 : cl = kWhen
      · have HE : Hid (whenB ts = i) := by have := HI2.out; rw [if_pos k1] at this; unfold Hid whenB; rw [← this]
        have b1 : (cl == [119, 104, 101, 110]) = true := by rw [k1]; rfl
        clear HI2 k1
        go_wp2
        go_ret; exact ⟨ret_int HE.out.symm, rfl⟩
      · have HE : Hid (whenG (ts.drop (i + 1)) (i + 1) = whenG ts 0) := by have := HI2.out; rw [if_neg k1] at this; exact this
        have b1 : (cl == [119, 104, 101, 110]) = false := by simpa [kWhen] using k1
        clear HI2 k1
        go_wp2
        go_round
        case rel => exact ⟨i + 1, by omega, by go_num, HE.out⟩
        case measure => simp [intOf]; omega
    · have hd : ts.drop i = [] := List.drop_eq_nil_of_le (by omega)
      have HE : Hid (whenB ts = (ts.length : Int) - 1) := by have := HI.out; rw [hd, whenG] at this; unfold Hid whenB; rw [← this]
      clear hd HI
      go_wp2
      go_ret; exact ⟨ret_int HE.out.symm, rfl⟩
end Go.Proofs.YtnbpdffdnphbeaaGreatDoor

/- Plain facts on what a guard becomes: which tokens are good for it, how long it gets. -/
namespace Go.Proofs.YtnbpdffdnphbeaaGreatDoor

/-- Tokens over which the document's way of tidying never comes to nothing. -/
def goodT : Nat → Toks → Bool
  | 0, _ => false
  | n + 1, ts =>
    if 0 ≤ outB ts kOr then goodT n (ts.take (outB ts kOr).toNat) && goodT n (ts.drop ((outB ts kOr).toNat + 1))
    else if 0 ≤ outB ts kAnd then goodT n (ts.take (outB ts kAnd).toNat) && goodT n (ts.drop ((outB ts kAnd).toNat + 1))
    else if clsB (ts.getD 0 (0, [])).2 = kNot then decide (0 < ts.length) && goodT n (ts.drop 1)
    else if clsB (ts.getD 0 (0, [])).2 = kOpen then decide (2 < ts.length) && goodT n ((ts.drop 1).take (ts.length - 2))
    else decide (0 < ts.length)

theorem outB_nil (word : Bs) : outB [] word = -1 := rfl

theorem goodT_pos {n : Nat} {ts : Toks} (h : goodT n ts = true) : 0 < ts.length := by
  cases n with
  | zero => simp [goodT] at h
  | succ n =>
    cases ts with
    | nil => simp [goodT, outB_nil] at h
    | cons t r => simp

theorem szT_split (ts : Toks) (k : Nat) (h : k < ts.length) : szT (ts.take k) + 1 + szT (ts.drop (k + 1)) ≤ szT ts := by
  have h1 := szT_take_drop ts k
  rw [drop_consT ts k h, szT] at h1
  omega

theorem tidG_len (n : Nat) : ∀ ts : Toks, (tidG n ts).1.length ≤ 16 * szT ts := by
  induction n with
  | zero => intro ts; simp [tidG]
  | succ n ih =>
    intro ts
    have bo := outB_bound ts kOr
    have ba := outB_bound ts kAnd
    rw [tidG]
    split
    · have h1 := ih (ts.take (outB ts kOr).toNat); have h2 := ih (ts.drop ((outB ts kOr).toNat + 1))
      have h3 := szT_split ts (outB ts kOr).toNat (by omega)
      simp only [List.length_append, List.length_cons, List.length_nil]; omega
    · split
      · have h1 := ih (ts.take (outB ts kAnd).toNat); have h2 := ih (ts.drop ((outB ts kAnd).toNat + 1))
        have h3 := szT_split ts (outB ts kAnd).toNat (by omega)
        have h4 : ∀ (c : Prop) [Decidable c] (a : Bs), (if c then brk a else a).length ≤ a.length + 4 := by
          intro c _ a; split <;> simp [brk]
        have h5 := h4 ((tidG n (ts.take (outB ts kAnd).toNat)).2 = 2) (tidG n (ts.take (outB ts kAnd).toNat)).1
        have h6 := h4 ((tidG n (ts.drop ((outB ts kAnd).toNat + 1))).2 = 2) (tidG n (ts.drop ((outB ts kAnd).toNat + 1))).1
        simp only [List.length_append, List.length_cons, List.length_nil]; omega
      · split
        · rename_i hn
          have h1 := ih (ts.drop 1)
          have h4 : ∀ (c : Prop) [Decidable c] (a : Bs), (if c then brk a else a).length ≤ a.length + 4 := by
            intro c _ a; split <;> simp [brk]
          have h5 := h4 (0 < (tidG n (ts.drop 1)).2) (tidG n (ts.drop 1)).1
          have h0 : 0 < ts.length := by
            cases ts with
            | nil => revert hn; decide
            | cons t r => simp
          have h3 := szT_split ts 0 h0
          simp only [List.length_append, List.length_cons, List.length_nil, Nat.zero_add] at h3 ⊢; omega
        · split
          · have h1 := ih ((ts.drop 1).take (ts.length - 2))
            have h2 := szT_take_le (ts.drop 1) (ts.length - 2); have h3 := szT_drop_le ts 1
            omega
          · have := gluF_len ts [] 0; simp only [gluedB]; simp at this; omega

theorem tidG_kind (n : Nat) : ∀ ts : Toks, 0 ≤ (tidG n ts).2 ∧ (tidG n ts).2 ≤ 2 := by
  induction n with
  | zero => intro ts; simp [tidG]
  | succ n ih =>
    intro ts
    rw [tidG]
    split
    · simp
    · split
      · simp
      · split
        · simp
        · split
          · exact ih _
          · simp

end Go.Proofs.YtnbpdffdnphbeaaGreatDoor
