/-
  The contract of copied.
-/
import Derived.Test.YtgceileakcjmdaaRwB
namespace Go.Proofs.Ytgceileakcjmdaa
open Go.ChangeShapes Go.WideShapes Go.ChangeAt Go.RowKit Go.PlainAid

theorem fs_size (m : MsD) (v : Value) : (m.fs v).size = 7 := rfl
theorem fs_info (m : MsD) (v : Value) : (Try.prog.info? 24).map (·.size) = some (m.fs v).size := Try.sizeMs
theorem cp_facts {m : MsD} {w w5 : World} {v : Value} (hb : Below ((w.alloc (.cells #[.int .i64 m.k, .int .i64 m.b, .int .i64 m.c, .int .i64 m.s, .int .i64 m.r, .int .i64 m.y, .slice none 0 0] 24)).alloc (.cells #[.int .i64 0, .int .i64 0, .int .i64 0, .int .i64 0, .int .i64 0, .int .i64 0, .slice none 0 0] 24)).heap.size ((w.alloc (.cells #[.int .i64 m.k, .int .i64 m.b, .int .i64 m.c, .int .i64 m.s, .int .i64 m.r, .int .i64 m.y, .slice none 0 0] 24)).alloc (.cells #[.int .i64 0, .int .i64 0, .int .i64 0, .int .i64 0, .int .i64 0, .int .i64 0, .slice none 0 0] 24)) w5) (ho : w5.ownsRow ((w.alloc (.cells #[.int .i64 m.k, .int .i64 m.b, .int .i64 m.c, .int .i64 m.s, .int .i64 m.r, .int .i64 m.y, .slice none 0 0] 24)).alloc (.cells #[.int .i64 0, .int .i64 0, .int .i64 0, .int .i64 0, .int .i64 0, .int .i64 0, .slice none 0 0] 24)).heap.size 35 3 v m.d.length (ocs m.d)) :
    w5.frozen? ⟨w.heap.size, 6, none⟩ = false ∧ w5.cell? ⟨w.heap.size, 6, none⟩ = some (.slice none 0 0) ∧ (w5.setCell ⟨w.heap.size, 6, none⟩ v).heap[w.heap.size]? = some (.cells (m.fs v) 24) ∧
    (w5.setCell ⟨w.heap.size, 6, none⟩ v).heap[w.heap.size + 1]? = some (.cells #[.int .i64 0, .int .i64 0, .int .i64 0, .int .i64 0, .int .i64 0, .int .i64 0, .slice none 0 0] 24) ∧ (w5.setCell ⟨w.heap.size, 6, none⟩ v).ownsRow w.heap.size 35 3 v m.d.length (ocs m.d) ∧ Below w.heap.size w (w5.setCell ⟨w.heap.size, 6, none⟩ v) ∧ v.oneCell' = true := by
  have hs : ((w.alloc (.cells #[.int .i64 m.k, .int .i64 m.b, .int .i64 m.c, .int .i64 m.s, .int .i64 m.r, .int .i64 m.y, .slice none 0 0] 24)).alloc (.cells #[.int .i64 0, .int .i64 0, .int .i64 0, .int .i64 0, .int .i64 0, .int .i64 0, .slice none 0 0] 24)).heap.size = w.heap.size + 2 := by simp
  have h1 : MB ((w.alloc (.cells #[.int .i64 m.k, .int .i64 m.b, .int .i64 m.c, .int .i64 m.s, .int .i64 m.r, .int .i64 m.y, .slice none 0 0] 24)).alloc (.cells #[.int .i64 0, .int .i64 0, .int .i64 0, .int .i64 0, .int .i64 0, .int .i64 0, .slice none 0 0] 24)) w.heap.size m (.slice none 0 0) := MB.alloc (m := m) (heap_alloc_new w _) _
  have h2 : ((w.alloc (.cells #[.int .i64 m.k, .int .i64 m.b, .int .i64 m.c, .int .i64 m.s, .int .i64 m.r, .int .i64 m.y, .slice none 0 0] 24)).alloc (.cells #[.int .i64 0, .int .i64 0, .int .i64 0, .int .i64 0, .int .i64 0, .int .i64 0, .slice none 0 0] 24)).heap[w.heap.size + 1]? = some (.cells #[.int .i64 0, .int .i64 0, .int .i64 0, .int .i64 0, .int .i64 0, .int .i64 0, .slice none 0 0] 24) := by
    have := heap_alloc_new (w.alloc (.cells #[.int .i64 m.k, .int .i64 m.b, .int .i64 m.c, .int .i64 m.s, .int .i64 m.r, .int .i64 m.y, .slice none 0 0] 24)) (.cells #[.int .i64 0, .int .i64 0, .int .i64 0, .int .i64 0, .int .i64 0, .int .i64 0, .slice none 0 0] 24)
    rw [show (w.alloc (.cells #[.int .i64 m.k, .int .i64 m.b, .int .i64 m.c, .int .i64 m.s, .int .i64 m.r, .int .i64 m.y, .slice none 0 0] 24)).heap.size = w.heap.size + 1 by simp] at this
    exact this
  have h3 := h1.below hb
  have h4 : w5.heap[w.heap.size + 1]? = some (.cells #[.int .i64 0, .int .i64 0, .int .i64 0, .int .i64 0, .int .i64 0, .int .i64 0, .slice none 0 0] 24) := (hb.block _ (by omega)).trans h2
  have hB : Below w.heap.size w ((w.alloc (.cells #[.int .i64 m.k, .int .i64 m.b, .int .i64 m.c, .int .i64 m.s, .int .i64 m.r, .int .i64 m.y, .slice none 0 0] 24)).alloc (.cells #[.int .i64 0, .int .i64 0, .int .i64 0, .int .i64 0, .int .i64 0, .int .i64 0, .slice none 0 0] 24)) := ((Below.refl _ w).alloc (Nat.le_refl _) _).alloc (by simp) _
  have hz := hb.size
  refine ⟨frz h3 6, h3.cells.2.2.2.2.2.2, mb_d h3 v m.d, ?_, ?_, ?_, ?_⟩
  · rw [Below.heap_setCell w5 ⟨w.heap.size, 6, none⟩ v (w.heap.size + 1) (by simp)]
    exact h4
  · exact own_lower (own_set ho h3 (by decide)) (by omega)
  · exact below_set (hB.trans (hb.mono hB.size)) (Nat.le_refl _) (by omega)
  · obtain ⟨ao, cp, rfl⟩ := own_form ho
    rfl

set_option maxRecDepth 20000 in
set_option maxHeartbeats 1000000 in
theorem copied16_any (m : MsD) (v : Value) (w : World) (hr : RdD w v m.d) (hl : m.d.length ≤ 4398046511104) :
    Calls Try.prog 7 #[.agg (m.fs v)] w fun e w' => ∃ u, e = .returned (.agg (m.fs u)) ∧ w'.ownsRow w.heap.size 35 3 u m.d.length (ocs m.d) ∧ Below w.heap.size w w' := by
  have hB : Below w.heap.size w ((w.alloc (.cells #[.int .i64 m.k, .int .i64 m.b, .int .i64 m.c, .int .i64 m.s, .int .i64 m.r, .int .i64 m.y, .slice none 0 0] 24)).alloc (.cells #[.int .i64 0, .int .i64 0, .int .i64 0, .int .i64 0, .int .i64 0, .int .i64 0, .slice none 0 0] 24)) := ((Below.refl _ w).alloc (Nat.le_refl _) _).alloc (by simp) _
  have hr0 := hr.below hB
  have h70 : (#[.int .i64 0, .int .i64 0, .int .i64 0, .int .i64 0, .int .i64 0, .int .i64 0, .slice none 0 0] : Array Value).size = 7 := rfl
  obtain ⟨ao, cp, hv, -⟩ := id hr
  subst hv
  clear hr hB
  have HP : ∀ u, .agg (m.fs u) = Value.agg #[.int .i64 m.k, .int .i64 m.b, .int .i64 m.c, .int .i64 m.s, .int .i64 m.r, .int .i64 m.y, u] := fun _ => rfl
  rw [HP]
  clear HP
  go_enter Try.func7, Try.ntmps7
  go_wp2_with (first
    | (at_builtin; refine wpList_app_ops _ rfl (.tmp 8) (.tmp 9) rfl _ m.d rfl rfl hr0 hl ?_; intro v0 w5 ho5 hb5; obtain ⟨ao5, cp5, rfl⟩ := own_form ho5; obtain ⟨z5, c5, hx6, hr6, ho6, hB6, h16⟩ := cp_facts hb5 ho5; have hone := fs_one m (.slice ao5 m.d.length cp5) h16; clear ho5 hb5)
    | (with_reducible refine at_load 24 _ rfl ?_; refine wpList_load_row rfl 24 _ rfl w.heap.size rfl 24 _ _ _ hx6 Try.underlying24 rfl (fs_info m (.slice ao5 m.d.length cp5)) ?_)
    | (with_reducible refine at_store 24 _ _ rfl ?_; refine store_ms rfl _ _ rfl (w.heap.size + 1) (m.fs (.slice ao5 m.d.length cp5)) #[.int .i64 0, .int .i64 0, .int .i64 0, .int .i64 0, .int .i64 0, .int .i64 0, .slice none 0 0] rfl rfl hr6 h70 (fs_size m (.slice ao5 m.d.length cp5)) hone ?_))
  have hfin := setRow_heap _ _ _ (m.fs (.slice ao5 m.d.length cp5)) _ _ hr6
  have hBf : Below w.heap.size w (World.setRow (w5.setCell ⟨w.heap.size, 6, none⟩ (.slice ao5 m.d.length cp5)) (w.heap.size + 1) (m.fs (.slice ao5 m.d.length cp5))) := below_row hB6 (by omega) hB6.size
  have hof := own_row (cs := m.fs (.slice ao5 m.d.length cp5)) ho6 hr6 (by decide)
  refine bodyPost_ret (results_cell_row rfl _ _ (w.heap.size + 1) 24 _ (0, 0) _ rfl hfin Try.underlying24 rfl (fs_info m (.slice ao5 m.d.length cp5))) rfl ?_
  exact ⟨(.slice ao5 m.d.length cp5), rfl, hof, hBf⟩
end Go.Proofs.Ytgceileakcjmdaa
