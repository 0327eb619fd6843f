/- What Tidy of the program gives, if what is plain holds of the text. -/
import Derived.Test.YtnbpdffdnphbeaaGreatDoorWtext
import Derived.Test.YtnbpdffdnphbeaaGreatDoorLex4
namespace Go.Proofs.YtnbpdffdnphbeaaGreatDoor
open Go.RowKit

def textL2 : List PLine → WSt → WSt
  | [], st => st
  | x :: r, st => textL2 r (wLine x st)
theorem textG2_map (ls : List LX) : ∀ st, textG2 ls st = textL2 (ls.map Prod.fst) st := by
  induction ls with
  | nil => intro st; rfl
  | cons x r ih => intro st; rw [textG2, List.map_cons, textL2, ih]

/-- What is plain of a text of at most 4000 bytes: the reader fails just where the document's form does, and what is written is the document's text. -/
structure PureT (n : Nat) (l : Bs) : Prop where
  fails : (readB l).2.2 = true → 0 ≤ formB l
  reads : (readB l).2.2 = false → formB l < 0
  good : (readB l).2.2 = false → ∀ x ∈ (readB l).1, GoodP x
  many : (readB l).1.length ≤ 10000
  text : (readB l).2.2 = false → (textL2 (readB l).1 ([], false)).1 = tidyT n l
  short : (tidyT n l).length ≤ bigW
  goodR : formB l < 0 → ∀ p ∈ linesB (toksAt l 0), goodL n (segT (toksAt l 0) p)

theorem Text_none (w : World) : Calls Tryz.prog 61 #[.slice none 0 0] w fun e w' => e = .returned (.string ⟨#[]⟩) ∧ Below w.heap.size w w' := by
  have hcv : ∀ w : World, (convert 224 9 (.slice none 0 0)).run Tryz.prog w = .ok (.string ⟨#[]⟩) w := fun w => conv_own (B := 0) (out := []) (World.ownsRow_nil w 0 5 1)
  go_enter Tryz.func61, Tryz.ntmps61
  go_wp2_with fail
  go_loop [9] (fun iv => iv = .int .i64 0) (fun _ => 0)
  case atStart => rfl
  case round =>
    obtain rfl := hrel
    go_wp2_with fail
    go_ret
    exact ⟨rfl, (Below.refl _ _).alloc (Nat.le_refl _) _⟩

theorem tidyB_long {n : Nat} {l : Bs} (h : 4000 < l.length) : tidyB n l = ([], 1) := by unfold tidyB; rw [if_pos h]
theorem tidyB_form {n : Nat} {l : Bs} (h : ¬ 4000 < l.length) (h2 : 0 ≤ formB l) : tidyB n l = ([], 2) := by unfold tidyB; rw [if_neg h, if_pos h2]
theorem tidyB_ok {n : Nat} {l : Bs} (h : ¬ 4000 < l.length) (h2 : formB l < 0) : tidyB n l = (tidyT n l, 0) := by unfold tidyB; rw [if_neg h, if_neg (by omega)]

def PowVar (w : World) : Prop := Tab w ∧ ∃ g, Tryz.prog.globalNamed "internal/strconv.uint64pow10" = some g ∧ g < w.heap.size

set_option maxHeartbeats 1000000 in
theorem StTidy_err (l : Bs) (w : World) (k : Int) (hk : k = 1 ∨ k = 2) (p : Int) (hR : Calls Tryz.prog 60 #[.string ⟨l.toArray⟩] w fun e w' => e = .returned (readV (.slice none 0 0) k p) ∧ Below w.heap.size w w') :
    Calls Tryz.prog 24 #[.string ⟨l.toArray⟩] w fun e w' => e = .returned (.tuple #[.string ⟨#[]⟩, .int .i64 k]) ∧ Below w.heap.size w w' := by
  have HR := hideP2 hR
  have e1 : (k != 0) = true := by rcases hk with rfl | rfl <;> rfl
  clear hR hk
  go_enter Tryz.func24, Tryz.ntmps24
  go_wp2_with fail
  refine HR.out.mono ?_
  rintro e w1 ⟨rfl, hb⟩
  have HB := hideP2 hb
  have hs := hb.size
  clear hb HR
  unfold readV
  go_wp2_with fail
  go_region_held3 (fun w' => w'.cell? ⟨w1.heap.size, 1, none⟩ = some (.int .i64 k)) (go_keep) (fail)
  go_wp2_with fail
  go_ret2
  exact ⟨rfl, (HB.out.alloc hs _).drew⟩

set_option maxHeartbeats 1000000 in
theorem StTidy_any (n : Nat) (l : Bs) (w : World) (hmax : l.length ≤ maxLen) (hv : PowVar w) (hp : l.length ≤ 4000 → PureT n l) :
    Calls Tryz.prog 24 #[.string ⟨l.toArray⟩] w fun e w' => e = .returned (.tuple #[.string ⟨(tidyB n l).1.toArray⟩, .int .i64 (tidyB n l).2]) ∧ Below w.heap.size w w' := by
  by_cases hl : 4000 < l.length
  · rw [tidyB_long hl]
    exact StTidy_err l w 1 (.inl rfl) 0 (BookRead_long l w hmax hl)
  · have hP := hp (by omega)
    have hR := BookRead_any l w (by omega)
    cases hf : (readB l).2.2
    · rw [tidyB_ok hl (hP.reads hf)]
      have hgood := hP.good hf
      have htext := hP.text hf
      have hshort := hP.short
      have hmany := hP.many
      have HR := hideP2 hR
      have HRI : Hid (∀ w' e, ReadIs w w' l e → ∃ lv ls, e = .returned (readV lv 0 0) ∧ ls.map Prod.fst = (readB l).1 ∧ LinesM w' w.heap.size lv ls) := by
        intro w' e h; unfold ReadIs at h; rw [hf] at h; exact h
      generalize readB l = F at *
      generalize tidyT n l = T at *
      have HG := hideP2 hgood
      have HT := hideP2 htext
      have HSh := hideP2 hshort
      have HMn := hideP2 hmany
      have HV := hideP2 hv
      clear hR hP hp hgood htext hshort hmany hv hf
      go_enter Tryz.func24, Tryz.ntmps24
      go_wp2_with fail
      refine HR.out.mono ?_
      rintro e w1 ⟨hri, hb⟩
      obtain ⟨lv, ls, rfl, hmap, hown, hrows⟩ := HRI.out _ _ hri
      have HB := hideP2 hb
      have hs := hb.size
      obtain ⟨la, ln, lc, rfl⟩ := own_slice hown
      have hG2 : ∀ x ∈ ls, GoodP x.1 := fun x hx => HG.out _ (by rw [← hmap]; exact List.mem_map.2 ⟨x, hx, rfl⟩)
      have hT2 : (textG2 ls ([], false)).1 = T := by rw [textG2_map, hmap]; exact HT.out
      have hLn : ls.length ≤ 10000 := by have h9 := congrArg List.length hmap; rw [List.length_map] at h9; rw [h9]; exact HMn.out
      have hcall : ∀ o : Obj, Calls Tryz.prog 61 #[.slice la ln lc] (w1.alloc o) fun e w' => e = .returned (.string ⟨T.toArray⟩) ∧ Below (w1.alloc o).heap.size (w1.alloc o) w' := by
        intro o
        have hbel : Below w.heap.size w (w1.alloc o) := HB.out.alloc hs o
        obtain ⟨htab, g, hg1, hg2⟩ := HV.out
        have hsz : w.heap.size ≤ (w1.alloc o).heap.size := hbel.size
        rcases hown.2 with ⟨k1, k2⟩ | ⟨gl, cap, cur, k1, _, k3, _, _, _, k7⟩
        · have e0 : ls = [] := List.eq_nil_of_length_eq_zero k2
          subst e0
          cases k1
          rw [← hT2]; exact Text_none _
        · cases k1
          rw [← hT2]
          refine Text_some (w1.alloc o) gl _ cur ls ⟨hb_new k3, k7⟩ hLn hG2 (fun x hx => LineB.of_rows ⟨(hrows x hx).1.alloc _, (hrows x hx).2.alloc _⟩) (htab.below ⟨g, hg1, hg2⟩ hbel) ⟨g, hg1, by omega⟩ (by rw [hT2]; exact HSh.out)
      have HCl := hideP2 hcall
      clear hb hri hown hrows hG2 hT2 hLn hcall hmap HR HRI HG HT HSh HMn HV
      unfold readV
      go_wp2_with fail
      refine (HCl.out _).mono ?_
      rintro e w2 ⟨rfl, hb2⟩
      have HB2 : Hid (Below w.heap.size w w2) := (HB.out.alloc hs _).trans (hb2.mono (by simp; omega))
      clear hb2 HCl
      go_wp2_with fail
      go_ret2
      exact ⟨rfl, HB2.out⟩
    · rw [tidyB_form hl (hP.fails hf)]
      refine StTidy_err l w 2 (.inr rfl) (cur (toP l) (readB l).2.1).p (hR.mono ?_)
      rintro e w' ⟨h1, h2⟩
      unfold ReadIs at h1
      rw [hf] at h1
      exact ⟨h1, h2⟩
end Go.Proofs.YtnbpdffdnphbeaaGreatDoor
