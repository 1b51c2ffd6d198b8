/-
  The law's word (layer 24): a document of letters.
-/
import Derived.Test.YtjimolafoihnpaaTrQ
import Derived.Laws.DeepStrings4
namespace Go.Proofs.Ytjimolafoihnpaa.tc
open Go.Maps Go.ChangeShapes Go.WideShapes Go.ChangeAt Go.RowKit Go.PlainAid

/-- A document of letters. -/
def wdR (s : ByteArray) : List RunD := (List.range s.size).map fun i => ⟨0, bt s i, 0, s.extract i (i + 1)⟩
theorem wdR_take (s : ByteArray) (k : Nat) (h : k < s.size) : (wdR s).take (k + 1) = (wdR s).take k ++ [⟨0, bt s k, 0, s.extract k (k + 1)⟩] := by
  have hl : k < (wdR s).length := by simpa [wdR] using h
  rw [List.take_succ_eq_append_getElem hl]
  simp [wdR]
theorem slice_okT (s : ByteArray) (p : Nat) (W : World) (h : p < s.size) :
    (Instr.slice 9 (.string s) (some (.int .i64 (p : Int))) (some (.int .i64 ((p : Int) + 1))) none).run Try.prog W = .ok (.string (s.extract p (p + 1))) W := by
  rw [run_slice_string_if (P := Try.prog) (w := W) 9 s .i64 .i64 (p : Int) ((p : Int) + 1) Try.underlying9, if_pos (by omega), if_pos (by omega)]
  rfl
set_option maxRecDepth 20000 in
set_option maxHeartbeats 2000000 in
theorem word_any (s : ByteArray) (w : World) (hs : s.size ≤ 1000) :
    Calls Try.prog 20 #[.string s] w fun e w' => ∃ v, e = .returned v ∧ w'.ownsRow w.heap.size 37 4 v (wdR s).length ((wdR s).map cRn).flatten ∧ Below w.heap.size w w' := by
  obtain ⟨i0, hi, hz0, hz1, hz2⟩ := info_parts infoRun
  have hwl : (wdR s).length = s.size := by simp [wdR]
  go_enter Try.func20, Try.ntmps20
  go_wp2_with fail
  go_loopw [3, 4] (fun u iv wr => ∃ k : Nat, k ≤ s.size ∧ iv = .int .i64 (k : Int) ∧ wr.ownsRow w.heap.size 37 4 u k (((wdR s).take k).map cRn).flatten ∧ Below w.heap.size w wr) (fun _ iv _ => s.size - (Go.RowKit.intOf iv).toNat)
  case atStart => exact ⟨0, by omega, rfl, by simpa using World.ownsRow_nil _ _ _ _, Below.refl _ _⟩
  case round =>
    obtain ⟨k, hk, rfl, ho, hb⟩ := hrel
    by_cases hlt : k < s.size
    · have hlt' : (k : Int) < (s.size : Int) := by omega
      have HT : Hid ((((wdR s).take (k + 1)).map cRn).flatten = (((wdR s).take k).map cRn).flatten ++ [.int .i64 0, .int .i64 (bt s k), .int .i64 0, .string (s.extract k (k + 1))]) := by
        show _ = _
        rw [wdR_take s k hlt, List.map_append, List.flatten_append]
        rfl
      generalize (((wdR s).take k).map cRn).flatten = X at *
      obtain ⟨au, ku, rfl⟩ := own_form ho
      have hgb := get_bt s k hlt
      have hsl := fun W => slice_okT s k W hlt
      have hb0 := bt_nonneg s k
      have hb1 := bt_le s k
      have hwb : IntKind.i64.wrap (bt s k) = bt s k := by rw [IntKind.wrap_i64]; omega
      have hwk : IntKind.i64.wrap ((k : Int) + 1) = (k : Int) + 1 := by rw [IntKind.wrap_i64]; omega
      go_wp2_with fail
      go_region_law (refine step_append_lies _ (by rfl) (.tmp 11) (.tmp 23) 30 (by rfl) w.heap.size 37 i0 (.agg #[.int .i64 0, .int .i64 0, .int .i64 0, .string ⟨#[]⟩]) 4 40 Try.underlying30 hi hz0 hz1 hz2 rfl (by decide) (.slice au k ku) k X (by simp [Act.eval]) (World.ownsRow.alloc (w := wr.drew) ho _) ⟨wr.heap.size, 0, none⟩ 1 1 [.int .i64 0, .int .i64 (bt s k), .int .i64 0, .string (s.extract k (k + 1))] (by simp [Act.eval]) rfl (World.news_of_block (heap_alloc_new wr.drew _)) (by simp [Value.oneCell']) (by decide) (by unfold maxLen; omega) (by omega) (by have := hb.size; simp; omega) (wr.heap.size + 1) (by simp) ?_; intro g9 cap9 w9 hown hgr hgl hlt9)
      all_goals
        have hb9 := ((Below.drew hb).alloc hb.size _).grown hgr (by have := hb.size; simp; omega) (fun j hj => (ho.lt j hj).1)
        go_wp2_with fail
        exact ⟨⟨k + 1, by omega, by go_num, by rw [HT.out]; exact hown, hb9⟩, by simp [Go.RowKit.intOf]; omega⟩
    · obtain rfl : k = s.size := by omega
      rw [List.take_of_length_le (by omega)] at ho
      obtain ⟨au, ku, rfl⟩ := own_form ho
      go_wp2_with fail
      go_ret
      exact ⟨_, rfl, by rw [hwl]; exact ho, hb⟩
end Go.Proofs.Ytjimolafoihnpaa.tc
