/-
  A slice of texts that came in, as the walks are told of it; forms between two texts.
-/
import Derived.Test.YthkkdbcflfhmaabFormsL
import Derived.SliceStrings
import Derived.ShutString
import Derived.ChangeOld
import Derived.SizedLaws
namespace Go.Proofs.Ythkkdbcflfhmaab
open Go.ChangeShapes Go.WideShapes Go.ChangeAt Go.RowKit Go.PlainAid

theorem reads_below {w w' : World} {v : Value} {xs : List ByteArray} (h : Reads w v xs) (hb : Below w.heap.size w w') : Reads w' v xs := by
  rcases h with h | ⟨b, off, cp, rfl, h⟩
  · exact .inl h
  · exact .inr ⟨b, off, cp, rfl, fun i hi => (hb.cell (World.block_lt_of_cell? w _ (h i hi))).trans (h i hi)⟩

theorem chain {w a b : World} (h : Below w.heap.size w a) (k : Below a.heap.size a b) : Below w.heap.size w b := h.trans (k.mono h.size)

/-- What a slice of texts that came in reads as. -/
theorem open_strs_as {H : Type} {enc : TypeId × Value → H} {P : Program} {w : World} {base : Nat} {spare : Nat → Bool} {held : Bool} {T E : TypeId} {fuel : Nat} {ao : Option Addr} {len cap : Nat} {x : DataW H × List MemPlace}
    (ht : P.underlying T = some (.slice E)) (he : P.underlying E = some .string) (hc : P.cellsOf E = 1)
    (h : DataW.trod enc P w base spare held fuel T (Value.slice ao len cap).cells.toList = some x) :
    ∃ xs : List ByteArray, Reads w (.slice ao len cap) xs ∧ xs.length ≤ maxLen ∧ (∀ s ∈ xs, s.size ≤ maxLen) ∧ (xs = [] ∨ ∃ el sp, x.1 = .slice el sp ∧ el = strs xs) := by
  rcases open_strings ht he hc h with ⟨hcs, _⟩ | ⟨a, l, c, ss, hcs, _, hl, hm, hz, hx, hcell, hws⟩
  · simp [Value.cells] at hcs
    obtain ⟨rfl, rfl, rfl⟩ := hcs
    exact ⟨[], .inl ⟨rfl, _, _, rfl⟩, by simp, by simp, .inl rfl⟩
  · simp [Value.cells] at hcs
    obtain ⟨rfl, rfl, rfl⟩ := hcs
    have hlen : len ≤ ss.length := by rw [hz]; split <;> omega
    have htl : (ss.take len).length = len := by rw [List.length_take]; omega
    refine ⟨ss.take len, ?_, by rw [htl]; omega, fun s hs => hws s (List.mem_of_mem_take hs), .inr ⟨_, _, by rw [hx], rfl⟩⟩
    by_cases h0 : len = 0
    · subst h0
      exact .inl ⟨by simp, _, _, rfl⟩
    · obtain ⟨b, off, spot⟩ := a
      have hc0 := hcell 0 (by omega)
      have hspot : spot = none := by simpa [Addr.add] using World.cell?_spot hc0
      subst hspot
      refine .inr ⟨b, off, cap, by rw [htl], fun i hi => ?_⟩
      rw [htl] at hi
      have hci := hcell i (by omega)
      have hadd : (⟨b, off, none⟩ : Addr).add i = ⟨b, off + i, none⟩ := by unfold Addr.add; split <;> simp_all
      rw [hadd] at hci
      rw [hci]
      have e : (ss.take len).getD i ⟨#[]⟩ = ss.getD i ByteArray.empty := by
        rw [List.getD_eq_getElem?_getD, List.getElem?_take, if_pos hi, List.getD_eq_getElem?_getD]
        rfl
      rw [e]

/-- A form between two texts stands there. -/
theorem at_mid (p q : ByteArray) (F : List UInt8) : At (p ++ mk F ++ q) p.size F := by
  have hsz : (p ++ mk F ++ q).size = p.size + F.length + q.size := by
    rw [ByteArray.size_append, ByteArray.size_append, mk_size]
  refine ⟨by omega, fun i hi => ?_⟩
  rw [bt_data _ _ (by omega)]
  congr 2
  have e : (p ++ mk F ++ q).data.toList = p.data.toList ++ F ++ q.data.toList := by simp [mk]
  simp only [e]
  rw [List.getElem_append_left (by simp [hi]), List.getElem_append_right (by simp)]
  simp

theorem size_mid (p q : ByteArray) (F : List UInt8) : (p ++ mk F ++ q).size = p.size + F.length + q.size := by
  rw [ByteArray.size_append, ByteArray.size_append, mk_size]
end Go.Proofs.Ythkkdbcflfhmaab
