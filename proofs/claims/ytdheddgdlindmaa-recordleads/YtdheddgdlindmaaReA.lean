/-
  record: where in a row of pairs each key stands.
-/
import Derived.Test.YtdheddgdlindmaaRcO
import Derived.Maps.Own
import Derived.Maps.OwnSet
import Derived.Maps.Views
import Derived.WalkArith
namespace Go.Proofs.Ytdheddgdlindmaa
open Go.Maps Go.ChangeShapes Go.WideShapes Go.ChangeAt Go.RowKit Go.PlainAid

theorem strKeyed : Keyed Try.prog 9 := string_keyed Try.underlying9
def kS (k : ByteArray) : Lit := .string k.data.toList
theorem kS_inj {a b : ByteArray} (h : kS a = kS b) : a = b := by
  unfold kS at h
  simp only [Lit.string.injEq] at h
  exact ByteArray.ext (Array.toList_inj.1 h)
theorem kS_key {k : ByteArray} (h : k.size ≤ maxLen) : keyOf Try.prog 9 (.string k) = some (kS k) := WideMaps.keyOf_string_mk Try.underlying9 h
theorem kS_lit (k : ByteArray) : WideAt.IsKeyLit (kS k) := trivial
theorem Try.zeroIR (u : World) : (zeroValue 3).run Try.prog u = .ok (.int .i64 0) u := by kernel_rfl
/-- The map in block b tells where each key of L stands. -/
structure PlD (D : DataW Unit) (L : List PaD) : Prop where
  m : IsMap D
  has : ∀ k : ByteArray, has D (kS k) = decide (∃ x ∈ L, x.k = k)
  at_ : ∀ (i : Nat) (x : PaD), L[i]? = some x → ∀ z, D.atKey (kS x.k) z = .lit (.int .i64 (i : Int))
def PlM (w : World) (b : Nat) (L : List PaD) : Prop := ∃ D : DataW Unit, w.ownsMap Try.prog 9 (plainElem (H := Unit) Try.prog 3) b L.length D ∧ PlD D L
theorem pld_nil : PlD (.map []) [] := ⟨⟨_, rfl⟩, fun k => by simp [Maps.has], fun i x h => by simp at h⟩
theorem pld_put {D : DataW Unit} {L : List PaD} {x : PaD} (h : PlD D L) (hn : ∀ y ∈ L, y.k ≠ x.k) : PlD (D.put (kS x.k) (.lit (.int .i64 (L.length : Int)))) (L ++ [x]) := by
  refine ⟨h.m.put _ _, fun k => ?_, fun i y hi z => ?_⟩
  · by_cases hk : x.k = k
    · subst hk
      rw [has_put_same h.m (kS_lit _)]
      simp
    · rw [has_put_other (fun e => hk (kS_inj e).symm), h.has]
      simp [hk]
  · by_cases hl : i < L.length
    · rw [List.getElem?_append_left hl] at hi
      have hy := List.mem_of_getElem? hi
      rw [atKey_put_other (fun e => hn y hy (kS_inj e)), h.at_ i y hi]
    · obtain ⟨rfl, rfl⟩ := last_one hl hi
      rw [atKey_put_same h.m (kS_lit _)]
theorem make_hint (n : Int) (w : World) : (Instr.makeMap 106 (some (.int .i64 n))).run Try.prog w = .ok (.map (some w.heap.size)) (w.alloc (.map #[] 0)) := by
  simp [Instr.makeMap, run_underlying Try.underlying106, asInt, asIntOf, Result.andThen]
set_option maxRecDepth 20000 in
set_option maxHeartbeats 2000000 in
theorem places_any (v : Value) (L : List PaD) (w : World) (hr : RdPa w v L) (hn : (L.map PaD.k).Nodup) (hk : ∀ x ∈ L, x.k.size ≤ maxLen) (hl : L.length ≤ 1000000) :
    Calls Try.prog 67 #[v] w fun e w' => ∃ b, e = .returned (.map (some b)) ∧ PlM w' b L ∧ w.heap.size ≤ b ∧ Below w.heap.size w w' := by
  obtain ⟨ao, cp, rfl, hcs⟩ := hr
  have hmm := make_hint (L.length : Int) w
  have h0 : PlM (w.alloc (.map #[] 0)) w.heap.size [] := ⟨_, World.ownsMap_made w _ _ _, pld_nil⟩
  have hb0 := alloc_bR w (.map #[] 0)
  go_enter Try.func67, Try.ntmps67
  go_wp2_with fail
  clear hmm
  go_loopw [11] (fun i wr => ∃ k : Nat, k ≤ L.length ∧ i = .int .i64 (k : Int) ∧ PlM wr w.heap.size (L.take k) ∧ Below w.heap.size w wr ∧ w.heap.size < wr.heap.size) (fun i _ => L.length - (Go.RowKit.intOf i).toNat)
  case atStart => exact ⟨0, by omega, rfl, h0, hb0, by simp⟩
  case round =>
    clear h0 hb0
    obtain ⟨k, hkl, rfl, hM, hbl, hsz⟩ := hrel
    by_cases hlt : k < L.length
    · have hlt' : (k : Int) < (L.length : Int) := by omega
      obtain ⟨g, off, rfl, hg, c0, c1⟩ := hcs k L[k] (by simp [hlt])
      rw [← hbl.cell (p := ⟨g, _, none⟩) hg] at c0 c1
      have hks := hk L[k] (List.getElem_mem hlt)
      obtain ⟨D, hown, hD⟩ := hM
      have hnk : ∀ y ∈ L.take k, y.k ≠ L[k].k := by
        intro y hy e
        have h1 : L.Pairwise (fun a b => a.k ≠ b.k) := List.pairwise_map.1 hn
        obtain ⟨j, hj, rfl⟩ := List.mem_iff_getElem.1 hy
        rw [List.length_take] at hj
        rw [List.getElem_take] at e
        exact List.pairwise_iff_getElem.1 h1 j k (by omega) hlt (by omega) e
      have hD2 := pld_put hD hnk
      have hln : (L.take k).length = k := by rw [List.length_take]; omega
      rw [hln] at hD2
      rw [← List.take_succ_eq_append_getElem hlt] at hD2
      have HT : Hid ((L.take (k + 1)).length = k + 1) := by show _ = _; rw [List.length_take]; omega
      have hown1 : (wr.alloc (.cells #[.string L[k].k, .string L[k].v] 44)).ownsMap Try.prog 9 (plainElem (H := Unit) Try.prog 3) w.heap.size (L.take k).length D := hown.alloc _
      have hkey := kS_key hks
      have hnew := heap_alloc_new wr (.cells #[.string L[k].k, .string L[k].v] 44)
      have n0 : (wr.alloc (.cells #[.string L[k].k, .string L[k].v] 44)).cell? ⟨wr.heap.size, 0, none⟩ = some (.string L[k].k) := cell_of_row _ _ 0 _ _ (0, 0) hnew
      have hal := alloc_bR wr (.cells #[.string L[k].k, .string L[k].v] 44)
      have hB1 := hbl.trans (hal.mono hbl.size)
      have hval : plainElem (H := Unit) Try.prog 3 (.int .i64 (k : Int)) = some (.lit (.int .i64 (k : Int)), []) := plainElem_int Try.underlying3 (Go.WalkArith.wf_i64 ⟨by omega, by omega⟩)
      obtain ⟨w3, hup, hown3, hg3⟩ := hown1.update strKeyed Try.underlying106 (by rw [hln]; unfold maxLen; omega) hkey hval
      have hB3 : Below w.heap.size w w3 := hB1.grown hg3 (by have := hal.size; omega) (fun j hj => by cases hj; omega)
      have hs3 := hg3.size
      rw [hln] at hown3
      clear hn hnew hD hown hown1 hnk hcs hval
      generalize L[k] = x at *
      go_wp2_with fail
      refine ⟨⟨k + 1, by omega, by go_num, ⟨_, ?_, hD2⟩, hB3, by have := hal.size; omega⟩, by simp [Go.RowKit.intOf]; omega⟩
      rw [HT.out]
      exact hown3
    · have hlt' : ¬ (k : Int) < (L.length : Int) := by omega
      rw [List.take_of_length_le (by omega)] at hM
      clear hcs
      go_wp2_with fail
      go_ret
      exact ⟨_, rfl, hM, Nat.le_refl _, hbl⟩
end Go.Proofs.Ytdheddgdlindmaa
