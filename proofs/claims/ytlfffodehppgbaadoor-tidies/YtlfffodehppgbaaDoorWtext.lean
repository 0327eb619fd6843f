/- What Text of the program's tidy gives: the lines written anew. -/
import Derived.Test.YtlfffodehppgbaaDoorWline
namespace Go.Proofs.YtlfffodehppgbaaDoor
open Go.RowKit

theorem foldl_push (out : Bs) : ∀ acc : Bs, (out.map (fun b : UInt8 => (b.toNat : Int))).foldl (fun r n => r.push (UInt8.ofNat n.toNat)) (ByteArray.mk acc.toArray) = ⟨(acc ++ out).toArray⟩ := by
  induction out with
  | nil => intro acc; simp
  | cons c r ih =>
    intro acc
    simp only [List.map_cons, List.foldl_cons]
    have e : (ByteArray.mk acc.toArray).push (UInt8.ofNat ((c.toNat : Int)).toNat) = ByteArray.mk (acc ++ [c]).toArray := by
      simp [ByteArray.push]
    rw [e, ih]; simp

theorem conv_own {w : World} {B : Nat} {v : Value} {out : Bs} (h : w.ownsRow B 5 1 v out.length (bC out)) : (convert 80 9 v).run Tryd.prog w = .ok (.string ⟨out.toArray⟩) w := by
  have hcells := fun g (hv : v = .slice (some ⟨g, 0, none⟩) out.length (match v with | .slice _ _ c => c | _ => 0)) => h.cells (g := g)
  rcases h.2 with ⟨h1, h2⟩ | ⟨g, cap, cur, h1, h2, h3, h4, h5, h6, h7⟩
  · have e : out = [] := List.eq_nil_of_length_eq_zero h2
    subst e; subst h1
    rw [run_convert_bytes_string w _ _ 5 none 0 0 Tryd.underlying80 Tryd.underlying5 Tryd.underlying9]
    rfl
  · subst h1
    rw [run_convert_bytes_string w _ _ 5 _ _ _ Tryd.underlying80 Tryd.underlying5 Tryd.underlying9]
    have hb : bC out = (out.map (fun b : UInt8 => (b.toNat : Int))).map (Value.int .u8) := by simp [bC]
    have hl := run_loadCells_list (P := Tryd.prog) (w := w) ⟨g, 0, none⟩ (bC out) (fun j u hu => by
      rw [Addr.add_lit, Nat.zero_add]; exact cell_take2 h3 h7 hu)
    rw [bC_len, hb] at hl
    rw [run_bytesToString w ⟨g, 0, none⟩ out.length cap _ hl]
    have hf := foldl_push out []
    rw [List.nil_append] at hf
    rw [← hf]; rfl
end Go.Proofs.YtlfffodehppgbaaDoor
