/-
  The contracts of Write, Len and String, package strings, at shelf.
-/
import Derived.Test.YtkmdjhdininimaaShR
import Derived.Test.YtkmdjhdininimaaLayB
import Derived.Laws.AppendOwn
namespace Go.Proofs.Ytkmdjhdininimaa
open Go.RowKit Go.Maps

theorem Try.info5 : (Try.prog.info? 5).map (fun i => (i.zero, i.size, i.bytes)) = some (some (.int .u8 0), 1, 1) := by kernel_rfl
theorem bdX : Builder.Extra Try.prog Try.laysSt_ren where
  sizeBuilder := Try.infoBd
  liesBuilder := by kernel_rfl
  t5 := Try.underlying5
  a5 := Try.isAgg5
  z5 := Try.sizeOf5
  v5 := Try.zeroValue5
  infoByte := Try.info5
  cellsByte := by kernel_rfl
  sizeByte := by kernel_rfl
  neB5 := by decide
theorem string_any (B b : Nat) (l : List UInt8) (w : World) (h : Bd B b (Lib.byteCells l) w) (hBw : B ≤ w.heap.size) :
    Calls Try.prog 61 #[.pointer (some ⟨b, 0, none⟩)] w fun e w' => e = .returned (.string (mk l)) ∧ Below B w w' :=
  Any.Builder_String_any Try.laysSt bdX B b l w h hBw
theorem blen_any (B b : Nat) (bs : List Value) (w : World) (h : Bd B b bs w) :
    Calls Try.prog 59 #[.pointer (some ⟨b, 0, none⟩)] w fun e w' => e = .returned (.int .i64 bs.length) ∧ w' = w :=
  Any.Builder_Len Try.laysLn B b bs w h
theorem copyCheck_kept (B b : Nat) (bs : List Value) (w : World) (h : Bd B b bs w) :
    Calls Try.prog 72 #[.pointer (some ⟨b, 0, none⟩)] w fun e w' => e = .returned (.tuple #[]) ∧ BdAt B b bs w' ∧ Below B w w' ∧ ∀ k, k < w.heap.size → k ≠ b → w'.heap[k]? = w.heap[k]? := by
  rcases h with h | h
  · obtain ⟨hB, v, hb, ho, hne⟩ := h
    refine (copyCheck_fresh b v w hb).mono ?_
    rintro e w' ⟨rfl, h2, hg⟩
    exact ⟨rfl, ⟨hB, v, h2, ho.kept hg (.inr hne), hne⟩, (Below.refl B w).grown hg (by have := heap_lt hb; omega) (fun k e => by injection e with e; omega), fun k hk hn => hg.block k hk (fun e => by injection e with e; omega)⟩
  · obtain ⟨hB, v, hb, ho, hne⟩ := h
    refine (copyCheck_used b v w hb).mono ?_
    rintro e w' ⟨rfl, rfl⟩
    exact ⟨rfl, ⟨hB, v, hb, ho, hne⟩, Below.refl _ _, fun _ _ _ => rfl⟩
/-- The bytes may lie in a block that is younger than the builder. -/
theorem cell_same {w w' : World} {a : Addr} (h : w'.heap[a.block]? = w.heap[a.block]?) : w'.cell? a = w.cell? a := by
  simp [World.cell?, h]
set_option maxRecDepth 20000 in
set_option maxHeartbeats 1000000 in
theorem bwrite_any (B b : Nat) (bs : List Value) (ad : Addr) (m c : Nat) (news : List Value) (w : World) (h : Bd B b bs w)
    (hl : news.length = m) (hnews : ∀ j u, news[j]? = some u → w.cell? (ad.add j) = some u) (hab : ad.block ≠ b) (hal : ad.block < w.heap.size) (h1 : ∀ u ∈ news, u.oneCell' = true)
    (hlen : bs.length + m ≤ 140737488355328) (hBw : B ≤ w.heap.size) :
    Calls Try.prog 60 #[.pointer (some ⟨b, 0, none⟩), .slice (some ad) m c] w fun e w' => e = .returned (.tuple #[.int .i64 m, .nilIface]) ∧ BdAt B b (bs ++ news) w' ∧ Below B w w' := by
  obtain ⟨i0, hin, hz0, hz1, hz2⟩ := info_parts Try.info5
  have hc := copyCheck_kept B b bs w h
  clear h
  go_enter Try.func60, Try.ntmps60
  go_wp2_with (go_at_call 72; refine hc.mono ?_)
  rintro e w1 ⟨rfl, h1', hb1, hk1⟩
  obtain ⟨hB, v, hbk, hown, hne⟩ := h1'
  obtain ⟨a1, k1, rfl⟩ := own_formS hown
  have c1 := cell_at hbk 1
  simp at c1
  have hs1 := hb1.size
  have hnews1 : ∀ j u, news[j]? = some u → w1.cell? (ad.add j) = some u := fun j u hj => by
    have e : (ad.add j).block = ad.block := by unfold Addr.add; split <;> rfl
    exact (cell_same (w := w) (w' := w1) (a := ad.add j) (by rw [e]; exact hk1 _ hal hab)).trans (hnews j u hj)
  clear hk1 hc
  go_wp2_with (at_builtin; refine wpList_append_own _ rfl _ _ 28 rfl B 5 i0 (.int .u8 0) 1 1 Try.underlying28 hin hz0 hz1 hz2 rfl (by decide) _ _ _ rfl hown ad m c news rfl (by omega) hnews1 h1 ?c3 ?c4 ?c5 ?_)
  case c3 => unfold maxLen; omega
  case c4 => omega
  case c5 => omega
  intro v4 w4 ho4 hg4 _
  obtain ⟨a4, k4, rfl⟩ := own_formS ho4
  have hbk4 := (hg4.block b (heap_lt hbk) (fun e => hne e.symm)).trans hbk
  have z4 := frozen_at hbk4 1
  have q4 := cell_at hbk4 1
  simp at q4
  have hbl := hb1.grown hg4 (by omega) (fun k hk => (hown.lt k hk).1)
  go_wp2_with fail
  go_ret2
  exact ⟨rfl, Lib.BuilderAt.put hB hbk4 (by simpa [hl] using ho4) (by decide), hbl.setCell (p := ⟨b, 1, none⟩) hB _⟩
end Go.Proofs.Ytkmdjhdininimaa
