/-
  A net in the world; the contracts of New, Len, has.
-/
import Derived.Test.YtaopfdgebibpeaaNtC
namespace Go.Proofs.Ytaopfdgebibpeaa.nt
open Go.Maps Go.WideShapes Go.RowKit Go.ChangeShapes Go.ChangeAt Go.PlainAid

/-- A letter that may be sent. -/
def LtD.Sm (x : LtD) : Prop := (0 ≤ x.to ∧ x.to ≤ 8) ∧ x.t.size ≤ 30000
theorem LtD.Sm.wf {x : LtD} (h : x.Sm) : x.Wf := ⟨⟨by have := h.1.1; omega, by have := h.1.2; omega⟩, by have := h.2; unfold maxLen; omega⟩
/-- A net: its block, its map's, its room, its row as a value, its letters; at most n entries in the map. -/
structure NtS where
  p : Nat
  mb : Nat
  room : Int
  u : Value
  L : List LtD
  n : Nat
def NtS.bl (N : NtS) : List Nat := N.p :: N.mb :: N.u.ownBlock.toList
structure IsNet (W : World) (N : NtS) : Prop where
  bx : W.heap[N.p]? = some (.cells #[.int .i64 N.room, N.u, .map (some N.mb)] 52)
  row : W.ownsRow 0 36 2 N.u N.L.length (lcs N.L)
  map : Cnt W N.mb N.n N.L
  ok : ∀ x ∈ N.L, x.Sm
  rm : 1 ≤ N.room ∧ N.room ≤ 3000
  len : (N.L.length : Int) ≤ N.room
theorem own_only {S : List Nat} {w w' : World} {B e z n : Nat} {v : Value} {L : List Value} (h : w.ownsRow B e z v n L) (ho : Only S w w') (hd : ∀ g, v.ownBlock = some g → g ∉ S) : w'.ownsRow B e z v n L := by
  refine ⟨h.1, ?_⟩
  rcases h.2 with hn | ⟨g, cap, cur, rfl, hb, hgg, rest⟩
  · exact .inl hn
  · exact .inr ⟨g, cap, cur, rfl, hb, (ho.block g (heap_lt hgg) (hd g rfl)).trans hgg, rest⟩
theorem own_form {w : World} {b e z n : Nat} {v : Value} {L : List Value} (h : w.ownsRow b e z v n L) : ∃ ao cp, v = .slice ao n cp := by
  rcases h.2 with ⟨rfl, rfl⟩ | ⟨g, cap, cur, rfl, _⟩
  · exact ⟨_, _, rfl⟩
  · exact ⟨_, _, rfl⟩
theorem IsNet.only {S : List Nat} {W W' : World} {N : NtS} (h : IsNet W N) (ho : Only S W W') (hd : ∀ b ∈ N.bl, b ∉ S) : IsNet W' N :=
  ⟨only_heap h.bx ho (hd _ (by simp [NtS.bl])), own_only h.row ho (fun g hg => hd g (by simp [NtS.bl, hg])), h.map.only ho (hd _ (by simp [NtS.bl])), h.ok, h.rm, h.len⟩
theorem IsNet.below {W W' : World} {N : NtS} (h : IsNet W N) (hb : Below W.heap.size W W') : IsNet W' N := h.only (Only.of_below (S := []) hb) (by simp)
theorem IsNet.lt {W : World} {N : NtS} (h : IsNet W N) : ∀ b ∈ N.bl, b < W.heap.size := by
  intro b hb
  simp only [NtS.bl, List.mem_cons, Option.mem_toList] at hb
  rcases hb with rfl | rfl | hb
  · exact heap_lt h.bx
  · exact h.map.lt
  · exact (h.row.lt b hb).2
theorem IsNet.apart {W : World} {N : NtS} (h : IsNet W N) : N.p ≠ N.mb ∧ N.u.ownBlock ≠ some N.p ∧ N.u.ownBlock ≠ some N.mb := by
  obtain ⟨D, ⟨es, c, hm, -⟩, -⟩ := h.map
  have hp := h.bx
  refine ⟨fun e => ?_, fun e => ?_, fun e => ?_⟩
  · rw [e, hm] at hp; cases hp
  · rcases h.row.2 with ⟨hv, _⟩ | ⟨g, cap, cur, hv, _, hg, _⟩
    · rw [hv] at e; cases e
    · rw [hv] at e
      simp [Value.ownBlock] at e
      subst e
      rw [hp] at hg
      simp at hg
  · rcases h.row.2 with ⟨hv, _⟩ | ⟨g, cap, cur, hv, _, hg, _⟩
    · rw [hv] at e; cases e
    · rw [hv] at e
      simp [Value.ownBlock] at e
      subst e
      rw [hm] at hg
      simp at hg
theorem IsNet.cells_of {W : World} {N : NtS} (h : W.heap[N.p]? = some (.cells #[.int .i64 N.room, N.u, .map (some N.mb)] 52)) : W.cell? ⟨N.p, 0, none⟩ = some (.int .i64 N.room) ∧ W.cell? ⟨N.p, 1, none⟩ = some N.u ∧ W.cell? ⟨N.p, 2, none⟩ = some (.map (some N.mb)) ∧ W.frozen? ⟨N.p, 1, none⟩ = false :=
  ⟨cell_of_row _ _ 0 _ _ (0, 0) h, cell_of_row _ _ 1 _ _ (0, 0) h, cell_of_row _ _ 2 _ _ (0, 0) h, by simp [World.frozen?, h]⟩
theorem IsNet.cells {W : World} {N : NtS} (h : IsNet W N) : W.cell? ⟨N.p, 0, none⟩ = some (.int .i64 N.room) ∧ W.cell? ⟨N.p, 1, none⟩ = some N.u ∧ W.cell? ⟨N.p, 2, none⟩ = some (.map (some N.mb)) ∧ W.frozen? ⟨N.p, 1, none⟩ = false :=
  ⟨cell_of_row _ _ 0 _ _ (0, 0) h.bx, cell_of_row _ _ 1 _ _ (0, 0) h.bx, cell_of_row _ _ 2 _ _ (0, 0) h.bx, by simp [World.frozen?, h.bx]⟩

set_option maxRecDepth 20000 in
theorem new_bad (room : Int) (w : World) (h : room < 1 ∨ 3000 < room) : Calls Try.prog 4 #[.int .i64 room] w fun e w' => e = .returned (.tuple #[.pointer none, .int .i64 1]) ∧ w' = w := by
  have hmm := @run_makeMap Try.prog
  by_cases h1 : room < 1
  · go_enter Try.func4, Try.ntmps4
    go_wp2
    go_ret2
    exact ⟨rfl, rfl⟩
  · have h2 : 3000 < room := by omega
    go_enter Try.func4, Try.ntmps4
    go_wp2
    go_ret2
    exact ⟨rfl, rfl⟩
set_option maxRecDepth 20000 in
theorem new_ok (room : Int) (w : World) (h1 : 1 ≤ room) (h2 : room ≤ 3000) : Calls Try.prog 4 #[.int .i64 room] w fun e w' =>
    e = .returned (.tuple #[.pointer (some ⟨w.heap.size + 1, 0, none⟩), .int .i64 0]) ∧ IsNet w' ⟨w.heap.size + 1, w.heap.size, room, .slice none 0 0, [], 0⟩ ∧ Below w.heap.size w w' := by
  have hmm := @run_makeMap Try.prog
  have hc := cnt_new w
  have hN : IsNet ((w.alloc (.map #[] 0)).alloc (.cells #[.int .i64 room, .slice none 0 0, .map (some w.heap.size)] 52)) ⟨w.heap.size + 1, w.heap.size, room, .slice none 0 0, [], 0⟩ := by
    refine ⟨?_, World.ownsRow_nil _ _ _ _, hc.only (Only.alloc [] _ _) (by simp), by simp, ⟨h1, h2⟩, by simp; omega⟩
    have := heap_alloc_new (w.alloc (.map #[] 0)) (.cells #[.int .i64 room, .slice none 0 0, .map (some w.heap.size)] 52)
    rw [show (w.alloc (.map #[] 0)).heap.size = w.heap.size + 1 by simp] at this
    exact this
  have hB : Below w.heap.size w ((w.alloc (.map #[] 0)).alloc (.cells #[.int .i64 room, .slice none 0 0, .map (some w.heap.size)] 52)) := ((Below.refl _ w).alloc (Nat.le_refl _) _).alloc (by simp) _
  go_enter Try.func4, Try.ntmps4
  go_wp2
  go_ret2
  exact ⟨rfl, hN, hB⟩

set_option maxRecDepth 20000 in
theorem len_any (N : NtS) (w : World) (h : IsNet w N) : Calls Try.prog 9 #[.pointer (some ⟨N.p, 0, none⟩)] w fun e w' => e = .returned (.int .i64 (N.L.length : Int)) ∧ w' = w := by
  obtain ⟨c0, c1, c2, -⟩ := h.cells
  obtain ⟨ao, cp, hu⟩ := own_form h.row
  rw [hu] at c1
  go_enter Try.func9, Try.ntmps9
  go_wp2
  go_ret
  exact ⟨rfl, rfl⟩
/-- Is there a letter of that number? -/
def NtS.hasI (N : NtS) (i : Int) : Bool := decide (0 ≤ i) && decide (i < (N.L.length : Int))
set_option maxRecDepth 20000 in
theorem has_any (N : NtS) (i : Int) (w : World) (h : IsNet w N) : Calls Try.prog 22 #[.pointer (some ⟨N.p, 0, none⟩), .int .i64 i] w fun e w' => e = .returned (.bool (N.hasI i)) ∧ w' = w := by
  obtain ⟨c0, c1, c2, -⟩ := h.cells
  obtain ⟨ao, cp, hu⟩ := own_form h.row
  rw [hu] at c1
  by_cases h0 : 0 ≤ i
  · by_cases h1 : i < (N.L.length : Int)
    · have H : Hid (N.hasI i = true) := by show _ = _; simp [NtS.hasI, h0, h1]
      go_enter Try.func22, Try.ntmps22
      go_wp2
      go_ret
      rw [H.out]
      exact ⟨rfl, rfl⟩
    · have H : Hid (N.hasI i = false) := by show _ = _; simp [NtS.hasI]; omega
      go_enter Try.func22, Try.ntmps22
      go_wp2
      go_ret
      rw [H.out]
      exact ⟨rfl, rfl⟩
  · have H : Hid (N.hasI i = false) := by show _ = _; simp [NtS.hasI, h0]
    go_enter Try.func22, Try.ntmps22
    go_wp2
    go_ret
    rw [H.out]
    exact ⟨rfl, rfl⟩
end Go.Proofs.Ytaopfdgebibpeaa.nt
