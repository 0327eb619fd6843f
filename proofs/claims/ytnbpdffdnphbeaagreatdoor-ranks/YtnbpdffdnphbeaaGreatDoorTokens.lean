/- What Tokens of the document's answer gives of a text of at most 4000 bytes: its tokens, in a row of its own. -/
import Derived.Test.YtnbpdffdnphbeaaGreatDoorLex
import Derived.Deep.AppendLies
namespace Go.Proofs.YtnbpdffdnphbeaaGreatDoor
open Go.RowKit

/-- The cells of a token, as the document's answer lays it. -/
def rtok (t : Nat × Bs) : List Value := [.string ⟨t.2.toArray⟩, .int .i64 t.1, .string ⟨(clsB t.2).toArray⟩]
def flatR (ts : List (Nat × Bs)) : List Value := ts.flatMap rtok

theorem flatR_len (ts : List (Nat × Bs)) : (flatR ts).length = ts.length * 3 := by
  induction ts with
  | nil => rfl
  | cons t r ih => simp [flatR, rtok] at ih ⊢; omega
theorem flatR_snoc (ts : List (Nat × Bs)) (t : Nat × Bs) : flatR (ts ++ [t]) = flatR ts ++ rtok t := by simp [flatR]

theorem infoTok : (Tryz.prog.info? 193).map (fun i => (i.zero, i.size, i.bytes)) = some (some (.agg #[.string ⟨#[]⟩, .int .i64 0, .string ⟨#[]⟩]), 3, 40) := by kernel_rfl

theorem ext_end (l : Bs) (p : Nat) : (ByteArray.mk l.toArray).extract p l.length = ⟨(l.drop p).toArray⟩ := by
  rw [ByteArray.extract_mk, List.take_of_length_le (by simp)]

theorem news_cells (w : World) (cs : Array Value) (T : TypeId) (l : List Value) (h : cs.toList = l) :
    ∀ j u, l[j]? = some u → (w.alloc (.cells cs T)).cell? ((⟨w.heap.size, 0, none⟩ : Addr).add j) = some u := by
  subst h
  exact World.news_of_block (heap_alloc_new w _)

set_option maxHeartbeats 1000000 in
theorem Tokens_any (l : Bs) (w : World) (hl : l.length ≤ 4000) :
    Calls Tryz.prog 109 #[.string ⟨l.toArray⟩] w fun e w' => ∃ v, e = .returned v ∧ w'.ownsRow w.heap.size 193 3 v (toksAt l 0).length (flatR (toksAt l 0)) ∧ Below w.heap.size w w' := by
  obtain ⟨i0, hi, hz0, hz1, hz2⟩ := info_parts infoTok
  obtain ⟨B, hB⟩ : ∃ B, B = w.heap.size := ⟨_, rfl⟩
  have HB : Hid (B = w.heap.size) := hB
  rw [← hB]
  clear hB
  go_enter Tryz.func109, Tryz.ntmps109
  go_wp2
  go_loopw [3, 4] (fun lv av wr => ∃ (p : Nat) (ts : List (Nat × Bs)), p ≤ l.length ∧ av = .int .i64 p ∧ wr.ownsRow B 193 3 lv ts.length (flatR ts) ∧ Below B w wr ∧ Hid (ts ++ toksAt l p = toksAt l 0)) (fun _ av _ => l.length - (intOf av).toNat)
  case atStart => exact ⟨0, [], Nat.zero_le _, rfl, World.ownsRow_nil _ _ _ _, Below.refl _ _, rfl⟩
  case round =>
    obtain ⟨p, ts, hp, rfl, hown, hbel, hH⟩ := hrel
    by_cases hlt : p < l.length
    · have hd0 : 0 < (l.drop p).length := by simp; omega
      have hn1 := lenB_pos (l.drop p)
      have hn2 := lenB_le hd0
      rw [List.length_drop] at hn2
      obtain ⟨n, hn⟩ : ∃ n, lenB (l.drop p) = n := ⟨_, rfl⟩
      have HN : Hid (lenB (l.drop p) = n) := hn
      rw [hn] at hn1 hn2
      clear hn
      obtain ⟨t, ht⟩ : ∃ t, (l.drop p).take n = t := ⟨_, rfl⟩
      have hx1 : (ByteArray.mk l.toArray).extract p (p + n) = ⟨t.toArray⟩ := by rw [ByteArray.extract_mk, ← ht, show p + n - p = n by omega]
      have htn : t.length = n := by rw [← ht, List.length_take, List.length_drop]; omega
      have hk0 : t.getD 0 0 = l.getD p 0 := by rw [← ht]; simp only [List.getD, List.getElem?_take, List.getElem?_drop, Nat.add_zero]; rw [if_pos (by omega)]
      obtain ⟨k, hk⟩ : ∃ k, so (l.getD p 0) = k := ⟨_, rfl⟩
      have HK : Hid (∀ h : 0 < (ByteArray.mk t.toArray).size, sortI (((ByteArray.mk t.toArray)[0]'h).toNat : Int) = k) := at_so (by rw [hk0]; exact hk)
      have ht0 : 0 < t.length := by omega
      have ht1 : t.length ≤ 4000 := by omega
      by_cases h3 : k = 3
      · subst h3
        have HF : Hid (ts ++ toksAt l (p + n) = toksAt l 0) := by have := hH.out; rw [toksAt_blanks hlt hk, HN.out] at this; exact this
        clear hk hk0 hH ht htn
        go_wp2_with (first
          | (go_at_call 172; rw [ext_end]; refine (long_any (l.drop p) _ hd0 (by simp; omega)).mono ?_; rintro e w' ⟨rfl, hw⟩; obtain rfl := hw.symm; rw [HN.out])
          | (go_at_call 173; refine (sort_is _ 3 (HK.out _) _).mono ?_; rintro e w' ⟨rfl, hw⟩; obtain rfl := hw.symm))
        go_roundw
        case rel => exact ⟨p + n, ts, by omega, by go_num, hown, hbel, HF.out⟩
        case measure => simp [intOf]; omega
      · have h3' : (k != 3) = true := by simp [h3]
        have HF : Hid ((ts ++ [(p, t)]) ++ toksAt l (p + n) = toksAt l 0) := by
          have := hH.out; rw [toksAt_tok hlt (by rw [hk]; exact h3), HN.out, ht] at this; rw [Hid, List.append_assoc]; exact this
        have hts : ts.length ≤ 4000 := by
          have h1 := congrArg List.length HF.out; have h2 := toksAt_len l 0; simp only [List.length_append] at h1; omega
        clear hk hk0 hH ht htn h3
        go_wp2_with (first
          | (go_at_call 172; rw [ext_end]; refine (long_any (l.drop p) _ hd0 (by simp; omega)).mono ?_; rintro e w' ⟨rfl, hw⟩; obtain rfl := hw.symm; rw [HN.out])
          | (go_at_call 173; refine (sort_is _ k (HK.out _) _).mono ?_; rintro e w' ⟨rfl, hw⟩; obtain rfl := hw.symm)
          | (go_at_call 174; refine (class_any t _ ht0 ht1).mono ?_; rintro e w' ⟨rfl, hw⟩; obtain rfl := hw.symm)
          | (at_builtin; refine wpList_append_own _ rfl _ _ 194 rfl B 193 i0 _ 3 40 Tryz.underlying194 hi hz0 hz1 hz2 rfl (by decide) _ _ _ rfl (hown.alloc _) ⟨wr.heap.size, 0, none⟩ 1 1 (rtok (p, t)) rfl rfl ?c1 ?c2 ?c3 ?c4 ?c5 ?_))
        case c1 => exact news_cells _ _ _ _ rfl
        case c2 => intro u hu; simp [rtok] at hu; rcases hu with rfl | rfl | rfl <;> rfl
        case c3 => unfold maxLen; omega
        case c4 => omega
        case c5 => have h5 := hbel.size; have h6 := HB.out; simp; omega
        intro v' w1 hown1 hgrow _
        have hbel1 : Below B w w1 := (hbel.alloc (by have h5 := hbel.size; have h6 := HB.out; omega) _).grown hgrow (by have h5 := hbel.size; have h6 := HB.out; simp; omega) (by
          intro k hk
          rcases hown.2 with ⟨h1, _⟩ | ⟨g, cap, cur, h1, h2, _⟩
          · rw [h1] at hk; simp [Value.ownBlock] at hk
          · rw [h1] at hk; simp [Value.ownBlock] at hk; omega)
        clear hown hbel hgrow
        go_wp2
        go_roundw
        case rel => exact ⟨p + n, ts ++ [(p, t)], by omega, by go_num, by rw [flatR_snoc]; simpa using hown1, hbel1, HF.out⟩
        case measure => simp [intOf]; omega
    · have HF : Hid (ts = toksAt l 0) := by have := hH.out; rw [toksAt_end hlt, List.append_nil] at this; exact this
      clear hH
      go_wp2
      go_ret
      exact ⟨_, rfl, by rw [← HF.out]; exact hown, hbel⟩
end Go.Proofs.YtnbpdffdnphbeaaGreatDoor
