/-
  The map of a delta's places; the contract of what fills it.
-/
import Derived.Test.YtgabanndjiegdabOtS
import Derived.Test.YtgabanndjiegdabMapG
import Derived.Maps.RangeWalk
import Derived.Deep.WholeRow
namespace Go.Proofs.Ytgabanndjiegdab
open Go.ChangeShapes Go.WideShapes Go.ChangeAt Go.RowKit Go.PlainAid Go.Maps

/-- A place's doings as bytes. -/
def spE (s : Spot) : Sec := UInt8.ofNat s.k.toNat :: s.put.data.toList
def Spot.val (s : Spot) : Value := .agg #[.string s.put, .int .i64 s.k]
def Spot.Ok (s : Spot) : Prop := 0 ≤ s.k ∧ s.k < 256
def spotR (v : Value) : Option (DataW Unit × List MemPlace) :=
  match v with
  | .agg cs => match cs.toList with
    | [.string p, .int .i64 k] => if 0 ≤ k ∧ k < 256 then some (.lit (.string (spE ⟨p, k⟩)), []) else none
    | _ => none
  | _ => none
theorem spotR_mk {s : Spot} (h : s.Ok) : spotR s.val = some (.lit (.string (spE s)), []) := by
  simp only [spotR, Spot.val]
  exact if_pos h
theorem spotR_inv {v : Value} {z : DataW Unit × List MemPlace} (h : spotR v = some z) : ∃ s : Spot, v = s.val ∧ s.Ok ∧ z = (.lit (.string (spE s)), []) := by
  unfold spotR at h
  split at h
  · rename_i cs
    split at h
    · rename_i p k hl
      split at h
      · rename_i hk
        refine ⟨⟨p, k⟩, ?_, hk, (Option.some.inj h).symm⟩
        rw [Spot.val, ← hl]
      · cases h
    · cases h
  · cases h
theorem spE_inj {s t : Spot} (hs : s.Ok) (ht : t.Ok) (h : spE s = spE t) : s = t := by
  obtain ⟨p, k⟩ := s
  obtain ⟨q, j⟩ := t
  simp only [spE, List.cons.injEq] at h
  obtain ⟨h1, h2⟩ := h
  have e1 : p = q := by
    obtain ⟨p⟩ := p
    obtain ⟨q⟩ := q
    congr 1
    exact Array.toList_inj.1 h2
  subst e1
  simp only [Spot.Ok] at hs ht
  have h3 := congrArg UInt8.toNat h1
  simp only [UInt8.toNat_ofNat'] at h3
  have : k = j := by omega
  rw [this]

/-- The map of places. -/
def spF (l : List Spot) : SecF := fun i => (l[i]?).map spE
theorem spF_snoc (l : List Spot) (s : Spot) : putF (spF l) l.length (spE s) = spF (l ++ [s]) := by
  funext i
  unfold putF spF
  by_cases h : i = l.length
  · subst h; simp
  · rw [if_neg h]
    by_cases h2 : i < l.length
    · rw [List.getElem?_append_left h2]
    · rw [List.getElem?_eq_none (by omega), List.getElem?_eq_none (by simp; omega)]

theorem wf_i64 {k : Int} (h0 : -9223372036854775808 ≤ k) (h1 : k ≤ 9223372036854775807) : (Lit.int .i64 k).wf = true := by
  have e0 : IntKind.i64.min = -9223372036854775808 := by decide
  have e1 : IntKind.i64.max = 9223372036854775807 := by decide
  simp only [Lit.wf, e0, e1, h0, h1, decide_true, Bool.and_self]
theorem keyed : Keyed Try.prog 3 := int_keyed Try.underlying3
theorem key_nat (i : Nat) (h : i ≤ 8192) : keyOf Try.prog 3 (.int .i64 (i : Int)) = some (.int .i64 (i : Int)) :=
  keyOf_int_mk Try.underlying3 (wf_i64 (by omega) (by omega))
theorem Try.infoSp : (Try.prog.info? 87).map (fun i => (i.zero, i.size)) = some (some (.agg #[.string ⟨#[]⟩, .int .i64 0]), 2) := by kernel_rfl
theorem Try.zeroSp (u : World) : (zeroValue 87).run Try.prog u = .ok (.agg #[.string ⟨#[]⟩, .int .i64 0]) u := (zero_of_info Try.infoSp).1 u
theorem Try.sizeSp : (Try.prog.info? 87).map (·.size) = some 2 := (zero_of_info Try.infoSp).2

theorem ownsMap_only {P : Program} {k : TypeId} {R : Value → Option (DataW Unit × List MemPlace)} {w w' : World} {b n : Nat} {D : DataW Unit} {S : List Nat} (h : w.ownsMap P k R b n D) (ho : Only S w w') (hb : b ∉ S) : w'.ownsMap P k R b n D := by
  have hlt := h.lt
  obtain ⟨es, clock, hh, F, hs, hD⟩ := h
  exact ⟨es, clock, (ho.block b hlt hb).trans hh, F, hs, hD⟩
theorem tightS {w : World} {b m N : Nat} {f : SecF} (h : w.ownsMap Try.prog 3 spotR b m (DF N f)) : w.ownsMap Try.prog 3 spotR b N (DF N f) := by
  obtain ⟨es, c, hb, F, _, hD⟩ := h
  refine ⟨es, c, hb, F, ?_, hD⟩
  have := size_DF N f
  rw [hD, size_eq, length_sorted] at this
  simpa using this
/-- A map of places at m. -/
def MpS (W : World) (m : Nat) (l : List Spot) : Prop := W.ownsMap Try.prog 3 spotR m 2000 (DF 2000 (spF l))
theorem MpS.only {W W' : World} {m : Nat} {l : List Spot} {S : List Nat} (h : MpS W m l) (ho : Only S W W') (hm : m ∉ S) : MpS W' m l := ownsMap_only h ho hm
theorem MpS.lookup {W : World} {m : Nat} {l : List Spot} (h : MpS W m l) {i : Nat} {s : Spot} (hs : l[i]? = some s) (hok : s.Ok) (hl : l.length ≤ 2000) :
    (Instr.lookup 84 (.map (some m)) (.int .i64 (i : Int)) false).run Try.prog W = .ok (.agg #[.string s.put, .int .i64 s.k]) W := by
  have hi : i < l.length := (List.getElem?_eq_some_iff.1 hs).1
  have hz : spotR (.agg #[.string ⟨#[]⟩, .int .i64 0]) = some (.lit (.string (spE ⟨⟨#[]⟩, 0⟩)), []) := spotR_mk (s := ⟨⟨#[]⟩, 0⟩) ⟨by decide, by decide⟩
  obtain ⟨v, ps, hrun, hR⟩ := World.ownsMap.lookup h keyed Try.underlying84 (Try.zeroSp W) hz (key_nat i (by omega))
  obtain ⟨t, rfl, ht, hzz⟩ := spotR_inv hR
  rw [hrun]
  rw [atKey_DF (N := 2000) (f := spF l) (i := i) (s := spE s) (by omega) (by simp [spF, hs])] at hzz
  simp only [Prod.mk.injEq, DataW.lit.injEq, Lit.string.injEq] at hzz
  rw [← spE_inj hok ht hzz.1]
  rfl

/-- What the first closure has: the map's cell and the map. -/
structure I1 (S : List Spot) (p m : Nat) (i : Nat) (BL : List Nat) (W : World) : Prop where
  bl : BL = [m]
  cp : W.heap[p]? = some (.cells #[.map (some m)] 84 (0, 0))
  mp : MpS W m (S.take i)
  ne : p ≠ m
theorem I1.alloc {S : List Spot} {p m i : Nat} {BL : List Nat} {W : World} (h : I1 S p m i BL W) (x : Obj) : I1 S p m i BL (W.alloc x) :=
  ⟨h.bl, only_heap h.cp (Only.alloc [] W x) (by simp), h.mp.only (Only.alloc [] W x) (by simp), h.ne⟩
theorem I1.lt {S : List Spot} {p m i : Nat} {BL : List Nat} {W : World} (h : I1 S p m i BL W) : ∀ g ∈ BL, g < W.heap.size := by
  intro g hg
  rw [h.bl] at hg
  simp at hg
  subst hg
  exact World.ownsMap.lt h.mp

set_option maxRecDepth 20000 in
set_option maxHeartbeats 1500000 in
theorem see1_any {S : List Spot} {p m i : Nat} {BL : List Nat} {W : World} (h : I1 S p m i BL W) {s : Spot} (hs : S[i]? = some s) (hok : s.Ok) (hl : S.length ≤ 1500) :
    Calls Try.prog 42 #[.int .i64 (i : Int), .agg #[.string s.put, .int .i64 s.k], .pointer (some ⟨p, 0, none⟩)] W fun e w' => e = .returned (.tuple #[]) ∧ ∃ BL', I1 S p m (i + 1) BL' w' ∧ Only BL W w' ∧ ∀ g ∈ BL', g ∈ BL ∨ W.heap.size ≤ g := by
  have hi : i < S.length := (List.getElem?_eq_some_iff.1 hs).1
  have hbl := h.bl
  subst hbl
  have hA := h.alloc (.cells #[.string s.put, .int .i64 s.k] 87)
  have hcp : (W.alloc (.cells #[.string s.put, .int .i64 s.k] 87)).cell? ⟨p, 0, none⟩ = some (.map (some m)) := cell_of_row _ _ 0 _ _ (0, 0) hA.cp
  have hmp : (W.alloc (.cells #[.string s.put, .int .i64 s.k] 87)).ownsMap Try.prog 3 spotR m 2000 (DF 2000 (spF (S.take i))) := hA.mp
  have hval : spotR (.agg #[.string s.put, .int .i64 s.k]) = some (.lit (.string (spE s)), []) := spotR_mk hok
  have hkey := key_nat i (by omega)
  have HT : Hid (S.take (i + 1) = S.take i ++ [s] ∧ (S.take i).length = i) := by
    refine ⟨?_, by rw [List.length_take]; omega⟩
    rw [List.take_add_one, hs]; rfl
  go_enter Try.func42, Try.ntmps42
  go_wp2_with (at_mapUpdate; refine wpList_mapUpdate_own _ rfl _ _ _ 84 rfl 3 87 keyed Try.underlying84 spotR m _ _ rfl hmp (by unfold maxLen; omega) _ _ _ rfl rfl hkey _ _ hval ?_; intro w3 hown3 hg3)
  go_end0
  have hO : Only [m] (W.alloc (.cells #[.string s.put, .int .i64 s.k] 87)) w3 := Only.of_grown hg3 (by simp)
  refine ⟨rfl, [m], ⟨rfl, only_heap hA.cp hO (by simp; exact hA.ne), ?_, hA.ne⟩, (Only.alloc _ _ _).trans hO, fun _ hg => .inl (by simpa using hg)⟩
  rw [put_DF (spE s) (by omega)] at hown3
  have e : putF (spF (S.take i)) i (spE s) = spF (S.take (i + 1)) := by
    rw [HT.out.1, ← spF_snoc, HT.out.2]
  rw [e] at hown3
  exact tightS hown3
end Go.Proofs.Ytgabanndjiegdab
