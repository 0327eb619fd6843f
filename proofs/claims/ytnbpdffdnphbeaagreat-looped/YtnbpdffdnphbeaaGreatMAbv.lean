/- What Above of the program's links gives: which rule stands above which. -/
import Derived.Test.YtnbpdffdnphbeaaGreatCkAll
import Derived.Test.YtnbpdffdnphbeaaGreatRkLinks
import Derived.Laws.IdiomStrings
import Derived.Deep.DeepCutAuto
namespace Go.Proofs.YtnbpdffdnphbeaaGreat
open Go.RowKit

set_option maxRecDepth 100000 in
set_option maxHeartbeats 2000000 in
theorem LAbove_s (w : World) (a : Option Addr) (c : Nat) (ls : List LX) (h : LinV w a ls) :
    Calls Tryz.prog 58 #[.slice a ls.length c] w fun e w' => e = .returned (.agg (gC (chainsB (ordG (labsB (fs ls)) (fs ls) gZ)))) ∧ Below w.heap.size w w' := by
  have HO := hideP2 (fun o => Order_s (w.alloc o) a c ls (h.below ((Below.refl _ _).alloc (Nat.le_refl _) o) (Nat.le_refl _)))
  have HGL : Hid ((ordG (labsB (fs ls)) (fs ls) gZ).length = 64) := by unfold Hid; rw [ordG_len]; exact gZ_len
  clear h
  generalize ordG (labsB (fs ls)) (fs ls) gZ = Go at *
  have HCL : Hid ((chainsB Go).length = 64) := by unfold Hid chainsB; rw [wA_len]; exact HGL.out
  have HCh := hideP2 (fun w' g (hg : GrM w' g Go) => chains_s w' g Go hg)
  generalize chainsB Go = Gc at *
  go_enter Tryz.func58, Tryz.ntmps58
  go_wp2_with fail
  refine (HO.out _).mono ?_
  rintro e w1 ⟨rfl, hb1⟩
  have hz1 : w1.heap[w.heap.size]? = some (.cells (gC gZ) 59 (0, 0)) := by rw [hb1.block _ (lt_end _ _)]; exact hb_end _ _
  have hs1 := Nat.lt_of_lt_of_le (lt_end w _) hb1.size
  have HB1 : Hid (Below w.heap.size w w1) := ((Below.refl _ _).alloc (Nat.le_refl _) _).trans (hb1.mono (Nat.le_of_lt (lt_end _ _)))
  have HZ1 := hideP2 hz1
  clear hb1 hz1 HO
  go_wp2_with (refine wpList_store_row ?hgd 59 (.tmp 3) (.tmp 5) ?ho w1.heap.size (gC Go) ?hx ?hy 59 (gC gZ) (hb_end w1 _) (gInfoC HGL.out) ?hold (gC_one Go) ?_
               case ho => rfl
               case hgd => rfl
               case hx => rfl
               case hy => rfl
               case hold => rw [gC_size, gC_size, gZ_len, HGL.out])
  refine (HCh.out _ w1.heap.size ⟨setRow_heap _ _ (gC gZ) _ _ _ (hb_end w1 _), HGL.out⟩).mono ?_
  rintro e w2 ⟨rfl, hb2⟩
  have HBm : Hid (Below w.heap.size w ((w1.alloc (.cells (gC gZ) 59 (0, 0))).setRow w1.heap.size (gC Go))) := below_row (HB1.out.alloc (Nat.le_of_lt hs1) _) (Nat.le_of_lt hs1) _
  have hsz : ((w1.alloc (.cells (gC gZ) 59 (0, 0))).setRow w1.heap.size (gC Go)).heap.size = w1.heap.size + 1 := by unfold World.setRow; simp
  have HB2 : Hid (Below w.heap.size w w2) := HBm.out.trans (hb2.mono (by rw [hsz]; omega))
  have HZ2 : Hid (w2.heap[w.heap.size]? = some (.cells (gC gZ) 59 (0, 0))) := by
    unfold Hid; rw [hb2.block _ (by rw [hsz]; omega), setRow_other _ _ _ _ (by omega)]; exact hb_new HZ1.out
  clear hb2 HBm hsz HCh
  go_wp2_with (refine wpList_store_row ?hgd 59 (.tmp 2) (.tmp 6) ?ho w.heap.size (gC Gc) ?hx ?hy 59 (gC gZ) HZ2.out (gInfoC HCL.out) ?hold (gC_one Gc) ?_
               case ho => rfl
               case hgd => rfl
               case hx => rfl
               case hy => rfl
               case hold => rw [gC_size, gC_size, gZ_len, HCL.out])
  refine bodyPost_ret (v := .agg (gC Gc)) (results_cell_row Tryz.results58 _ _ w.heap.size 59 (gC Gc) (0, 0) _ rfl (setRow_heap _ _ (gC gZ) _ _ _ HZ2.out) Tryz.underlying59 rfl (gInfoC HCL.out)) rfl ⟨rfl, below_row HB2.out (Nat.le_refl _) _⟩
end Go.Proofs.YtnbpdffdnphbeaaGreat

/- What own gives; the cells of a model, row by row. -/
namespace Go.Proofs.YtnbpdffdnphbeaaGreat
open Go.RowKit

/-- A text of its own: bytes of it, and a text of these. -/
theorem conv_there (w : World) (s : Bs) : ∃ wc cap, (convert 9 45 (.string ⟨s.toArray⟩)).run Tryz.prog w = .ok (.slice (some ⟨w.heap.size, 0, none⟩) s.length cap) wc ∧ (convert 45 9 (.slice (some ⟨w.heap.size, 0, none⟩) s.length cap)).run Tryz.prog wc = .ok (.string ⟨s.toArray⟩) wc ∧ Below w.heap.size w wc := by
  have h1 := run_bytes_of_string (P := Tryz.prog) w 9 45 5 ⟨s.toArray⟩ Tryz.underlying9 Tryz.underlying45 Tryz.underlying5
  have hsz : (⟨s.toArray⟩ : ByteArray).size = s.length := by simp [ByteArray.size]
  rw [hsz] at h1
  generalize grownCap w s.length 0 5 = cap at h1
  refine ⟨_, cap, h1, ?_, ?_⟩
  · refine run_convert_bytes_back (P := Tryz.prog) _ 45 9 5 ⟨w.heap.size, 0, none⟩ cap s Tryz.underlying45 Tryz.underlying5 Tryz.underlying9 (fun j hj => ?_)
    have h2 := cell_row (hb_end w.drew (.cells (bytesRow ⟨s.toArray⟩ cap) 5 ((bytesRow ⟨s.toArray⟩ cap).size, (bytesRow ⟨s.toArray⟩ cap).size + 1))) j
    have h3 : (bytesRow ⟨s.toArray⟩ cap)[j]? = some (.int .u8 (s[j].toNat : Int)) := by
      unfold bytesRow
      rw [Array.getElem?_append_left (by simpa using hj)]
      simp [hj]
    rw [h3] at h2
    have e : (⟨w.heap.size, 0, none⟩ : Addr).add j = ⟨w.heap.size, j, none⟩ := by simp [Addr.add]; omega
    rw [e]
    exact h2
  · exact (below_drewN (Below.refl w.heap.size w) 1).alloc (Nat.le_refl _) _
set_option maxHeartbeats 1000000 in
theorem own_s (w : World) (s : Bs) : Calls Tryz.prog 60 #[.string ⟨s.toArray⟩] w fun e w' => e = .returned (.string ⟨s.toArray⟩) ∧ Below w.heap.size w w' := by
  obtain ⟨wc, cap, kc1, kc2, hbc⟩ := conv_there w s
  have HB := hideP2 hbc
  clear hbc
  go_enter Tryz.func60, Tryz.ntmps60
  go_wp2_with fail
  go_ret
  exact ⟨rfl, HB.out⟩

theorem lvlB_len (ls : List PLine) : (lvlB ls).length ≤ (headsB ls).length := by
  have key : ∀ (S : List Nat) (hd : List Bs) (i : Nat) (acc : List (Bs × Nat)), (lvlG S hd i acc).length ≤ acc.length + hd.length := by
    intro S hd
    induction hd with
    | nil => intro i acc; simp [lvlG]
    | cons n r ih => intro i acc; rw [lvlG]; have := ih (i + 1) (if i < 8 then acc ++ [(n, S.getD i 0)] else acc); split at this <;> simp at this ⊢ <;> split <;> omega
  have := key (levelsB (namG (headsB ls) ls gZ)) (headsB ls) 0 []
  unfold lvlB
  simpa using this
theorem headsB_len (ls : List PLine) : (headsB ls).length ≤ ls.length := by
  have key : ∀ (ls : List PLine) (acc : List Bs), (headsG ls acc).length ≤ acc.length + ls.length := by
    intro ls
    induction ls with
    | nil => intro acc; simp [headsG]
    | cons x r ih => intro acc; rw [headsG]; have := ih (if x.kind = 3 ∧ findN acc x.conc < 0 then acc ++ [x.conc] else acc); split at this <;> simp at this ⊢ <;> split <;> omega
  have := key ls []
  unfold headsB
  simpa using this
/-- The cells of a model. -/
def mdC (iv cv rv : Value) (G : List Bool) : Array Value := #[iv, cv, rv] ++ gC G
def mdO (iv cv rv : Value) (G : List Bool) : Obj := .cells (mdC iv cv rv G) 61 (0, 0)
theorem mdC_size (iv cv rv : Value) (G : List Bool) : (mdC iv cv rv G).size = 3 + G.length := by unfold mdC; rw [Array.size_append, gC_size]; rfl
theorem mdC_get3 (iv cv rv : Value) (G : List Bool) (k : Nat) (hk : k < G.length) : (mdC iv cv rv G)[3 + k]? = some (.bool (G.getD k false)) := by
  unfold mdC gC
  rw [Array.getElem?_append_right (by simp)]
  simp [List.getD, hk]
theorem mdC_get (iv cv rv : Value) (G : List Bool) : (mdC iv cv rv G)[0]? = some iv ∧ (mdC iv cv rv G)[1]? = some cv ∧ (mdC iv cv rv G)[2]? = some rv := by
  unfold mdC
  refine ⟨?_, ?_, ?_⟩ <;> rw [Array.getElem?_append_left (by simp)] <;> rfl
theorem md_cell {w : World} {b : Nat} {iv cv rv : Value} {G : List Bool} (h : w.heap[b]? = some (mdO iv cv rv G)) : w.cell? ⟨b, 0, none⟩ = some iv ∧ w.cell? ⟨b, 1, none⟩ = some cv ∧ w.cell? ⟨b, 2, none⟩ = some rv ∧ (∀ k, k < G.length → w.cell? ⟨b, 3 + k, none⟩ = some (.bool (G.getD k false))) ∧ ∀ j, w.frozen? ⟨b, j, none⟩ = false := by
  unfold mdO at h
  obtain ⟨h0, h1, h2⟩ := mdC_get iv cv rv G
  exact ⟨(cell_row h 0).trans h0, (cell_row h 1).trans h1, (cell_row h 2).trans h2, fun k hk => (cell_row h _).trans (mdC_get3 iv cv rv G k hk), fun j => by simp [World.frozen?, h]⟩
theorem md_set0 {w : World} {b : Nat} {iv cv rv v : Value} {G : List Bool} (h : w.heap[b]? = some (mdO iv cv rv G)) : (w.setCell ⟨b, 0, none⟩ v).heap[b]? = some (mdO v cv rv G) := by
  unfold mdO at h ⊢
  rw [heap_setCell_same w b 0 _ _ _ h]; congr 2; unfold mdC; rw [Array.setIfInBounds_append, if_pos (by simp)]; rfl
theorem md_set1 {w : World} {b : Nat} {iv cv rv v : Value} {G : List Bool} (h : w.heap[b]? = some (mdO iv cv rv G)) : (w.setCell ⟨b, 1, none⟩ v).heap[b]? = some (mdO iv v rv G) := by
  unfold mdO at h ⊢
  rw [heap_setCell_same w b 1 _ _ _ h]; congr 2; unfold mdC; rw [Array.setIfInBounds_append, if_pos (by simp)]; rfl
theorem md_set2 {w : World} {b : Nat} {iv cv rv v : Value} {G : List Bool} (h : w.heap[b]? = some (mdO iv cv rv G)) : (w.setCell ⟨b, 2, none⟩ v).heap[b]? = some (mdO iv cv v G) := by
  unfold mdO at h ⊢
  rw [heap_setCell_same w b 2 _ _ _ h]; congr 2; unfold mdC; rw [Array.setIfInBounds_append, if_pos (by simp)]; rfl
theorem range64 (G : List Bool) (h : G.length = 64) : G = (List.range 64).map (fun i => G.getD i false) := by
  apply List.ext_getElem?
  intro i
  by_cases hi : i < 64
  · simp [hi, List.getD, h]
  · rw [List.getElem?_eq_none (by omega), List.getElem?_eq_none (by simp; omega)]
set_option maxRecDepth 100000 in
theorem mod_built (G : List Bool) (h : G.length = 64) : Tryz.prog.built 61 [(3, .agg (gC G))] = some (mdC (.slice none 0 0) (.slice none 0 0) (.slice none 0 0) G) := by
  have key : ∀ b : Nat → Bool, Tryz.prog.built 61 [(3, .agg (gC ((List.range 64).map b)))] = some (mdC (.slice none 0 0) (.slice none 0 0) (.slice none 0 0) ((List.range 64).map b)) := fun b => by kernel_rfl
  rw [range64 G h]; exact key _
theorem gC_some (G : List Bool) : ∀ v ∈ gC G, v.oneCell' = true := by
  intro v hv
  have := Array.all_eq_true_iff_forall_mem.1 (gC_one G) v hv
  exact this
theorem mdC_one {iv cv rv : Value} (h0 : iv.oneCell' = true) (h1 : cv.oneCell' = true) (h2 : rv.oneCell' = true) (G : List Bool) : (mdC iv cv rv G).all (·.oneCell') = true := by
  rw [Array.all_eq_true_iff_forall_mem]
  intro v hv
  unfold mdC at hv
  rcases Array.mem_append.1 hv with h | h
  · simp at h; rcases h with rfl | rfl | rfl <;> assumption
  · exact gC_some G v h
theorem modInfo {G : List Bool} (h : G.length = 64) (iv cv rv : Value) : (Tryz.prog.info? 61).map (·.size) = some (mdC iv cv rv G).size := by rw [mdC_size, h]; kernel_rfl
theorem mod_zero : Tryz.zeroCells61 = mdC (.slice none 0 0) (.slice none 0 0) (.slice none 0 0) gZ := by kernel_rfl
theorem lvC_take (L : List (Bs × Nat)) (i : Nat) (h : i < L.length) : lvC (L.take (i + 1)) = lvC (L.take i) ++ [.string ⟨(L.getD i ([], 0)).1.toArray⟩, .int .i64 ((L.getD i ([], 0)).2 : Nat)] := by
  have : L.take (i + 1) = L.take i ++ [L.getD i ([], 0)] := by rw [List.take_add_one]; simp [List.getD, h]
  rw [this, lvC_snoc]
theorem own_nil (w : World) (B : Nat) (t : TypeId) (k : Nat) : w.ownsRow B t k (.slice none 0 0) 0 [] := ⟨by simp, .inl ⟨rfl, rfl⟩⟩
end Go.Proofs.YtnbpdffdnphbeaaGreat
