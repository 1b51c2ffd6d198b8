/-
  The map that counts letters, as data.
-/
import Derived.Test.YtaopfdgebibpeaaNtB
namespace Go.Proofs.Ytaopfdgebibpeaa.nt
open Go.ChangeMaps (setBlock heap_setBlock_same heap_setBlock_other)
open Go.Maps Go.WideShapes Go.RowKit Go.ChangeShapes Go.ChangeAt Go.PlainAid

/-! ### The map that counts letters -/

/-- It fits. -/
def LtD.Wf (x : LtD) : Prop := (-9223372036854775808 ≤ x.to ∧ x.to ≤ 9223372036854775807) ∧ x.t.size ≤ maxLen
theorem laidOutN : laidOutB Try.prog = true := by kernel_rfl
theorem ltLaw : WideMaps.KeyLaw Try.prog 36 := deep_law_laid laidOutN (m := 3) (by decide) (by decide +kernel) (by kernel_rfl) (by kernel_rfl)
theorem ltKeyed : Keyed Try.prog 36 := Keyed.of_law ltLaw
def kL (x : LtD) : Lit := .string (keyBytes [.int .i64 x.to, .string x.t.data.toList])
theorem lits_int {e : Nat} {c : Int} (hc : (Lit.int .i64 c).wf = true) : Try.prog.keyLits (e + 1) 3 [.int .i64 c] = some [.int .i64 c] := by
  simp [Program.keyLits, Try.underlying3, hc]
theorem lits_str {e : Nat} {s : ByteArray} (hs : s.size ≤ maxLen) : Try.prog.keyLits (e + 1) 9 [.string s] = some [.string s.data.toList] := by
  simp [Program.keyLits, Try.underlying9, hs]
theorem kL_key {x : LtD} (h : x.Wf) : keyOf Try.prog 36 x.v = some (kL x) := by
  have h1 : Try.prog.keyType 36 = true := by kernel_rfl
  have hts : ∃ n, Try.prog.types.size + 1 = n + 1 + 1 := by
    have h0 : 1 ≤ Try.prog.types.size := by decide +kernel
    exact ⟨Try.prog.types.size - 1, by omega⟩
  obtain ⟨n, hts⟩ := hts
  have k1 : Try.prog.cellsOf 36 = 2 := by kernel_rfl
  have k3 : Try.prog.cellsOf 3 = 1 := by kernel_rfl
  have k9 : Try.prog.cellsOf 9 = 1 := by kernel_rfl
  have hf : Value.formed Try.prog 36 (.agg #[.int .i64 x.to, .string x.t]) = true := by
    simp [Value.formed, Try.underlying36, k1]
  unfold keyOf LtD.v
  rw [Try.underlying36]
  simp only [h1, Bool.true_and]
  rw [if_pos hf, hts, show (Value.agg #[.int .i64 x.to, .string x.t]).cells.toList = [.int .i64 x.to, .string x.t] from rfl]
  have e : Try.prog.keyLits (n + 1 + 1) 36 [.int .i64 x.to, .string x.t] = some [.int .i64 x.to, .string x.t.data.toList] := by
    unfold Program.keyLits
    simp only [Try.underlying36]
    rw [if_pos ⟨by rw [k1]; rfl, by kernel_rfl⟩]
    simp [k3, k9, lits_int (wf_i64 h.1.1 h.1.2), lits_str h.2]
  rw [e]
  rfl
theorem kL_inj {x y : LtD} (hx : x.Wf) (hy : y.Wf) (h : kL x = kL y) : x = y := by
  have h1 := kL_key hx
  have h2 := kL_key hy
  rw [h] at h1
  have e := keyOf_inj_deep (P := Try.prog) (m := 3) (by kernel_rfl) (by kernel_rfl) h1 h2
  simp only [LtD.v, Value.agg.injEq] at e
  have e1 := congrArg (fun a : Array Value => (a[0]?, a[1]?)) e
  simp at e1
  obtain ⟨a, b⟩ := x
  obtain ⟨a', b'⟩ := y
  simp only at e1
  rw [e1.1, e1.2]

/-- How often a letter stands in a list. -/
def cnt (L : List LtD) (x : LtD) : Nat := L.count x
/-- The map in block b counts the letters of L; it has at most n entries. -/
def Cnt (w : World) (b n : Nat) (L : List LtD) : Prop :=
  ∃ D : DataW Unit, w.ownsMap Try.prog 36 (plainElem (H := Unit) Try.prog 3) b n D ∧ ∀ k, LtD.Wf k → D.atKey (kL k) (.lit (.int .i64 0)) = .lit (.int .i64 (cnt L k : Int))
theorem cnt_new (w : World) : Cnt (w.alloc (.map #[] 0)) w.heap.size 0 [] :=
  ⟨.map [], World.ownsMap_made w _ _ _, fun k _ => by simp [DataW.atKey, cnt]⟩
theorem Cnt.only {S : List Nat} {w w' : World} {b n : Nat} {L : List LtD} (h : Cnt w b n L) (ho : Only S w w') (hb : b ∉ S) : Cnt w' b n L := by
  obtain ⟨D, h1, h2⟩ := h
  exact ⟨D, ownsMap_only h1 ho hb, h2⟩
theorem Cnt.lt {w : World} {b n : Nat} {L : List LtD} (h : Cnt w b n L) : b < w.heap.size := by
  obtain ⟨D, h1, _⟩ := h
  exact h1.lt
theorem Cnt.mono {w : World} {b n m : Nat} {L : List LtD} (h : Cnt w b n L) (hm : n ≤ m) : Cnt w b m L := by
  obtain ⟨D, h1, h2⟩ := h
  exact ⟨D, h1.mono hm, h2⟩
theorem Try.zeroI (u : World) : (zeroValue 3).run Try.prog u = .ok (.int .i64 0) u := by kernel_rfl
/-- Looked up. -/
theorem Cnt.look {w : World} {b n : Nat} {L : List LtD} (h : Cnt w b n L) {x : LtD} (hx : x.Wf) : (Instr.lookup 50 (.map (some b)) x.v false).run Try.prog w = .ok (.int .i64 (cnt L x : Int)) w := by
  obtain ⟨D, h1, h2⟩ := h
  obtain ⟨c, hr, ha, _⟩ := h1.lookup_int ltKeyed Try.underlying50 Try.underlying3 (Try.zeroI w) (kL_key hx)
  rw [h2 x hx] at ha
  simp only [DataW.lit.injEq, Lit.int.injEq, true_and] at ha
  rw [hr, ha]
theorem setBlock_same {w : World} {b : Nat} {o : Obj} (h : w.heap[b]? = some o) : setBlock w b o = w := by
  obtain ⟨hb, -⟩ := Array.getElem?_eq_some_iff.1 h
  have : w.heap.setIfInBounds b o = w.heap := by
    apply Array.ext_getElem?
    intro i
    by_cases hi : b = i
    · subst hi
      rw [Array.getElem?_setIfInBounds_self_of_lt hb, h]
    · rw [Array.getElem?_setIfInBounds_ne hi]
  unfold setBlock
  rw [this]
/-- The world behind the making of an entry: as it was, or as behind the storing of a zero. -/
theorem entry_world {P : Program} {w : World} {t k e : TypeId} {R : Value → Option (DataW Unit × List MemPlace)} {b : Nat} {es : Array MapEntry} {clock : Nat} (K : WideMaps.KeyLaw P k) (ht : P.underlying t = some (.map k e)) {z : Value} (hz : ∀ u : World, (zeroValue e).run P u = .ok z u)
    (hb : w.heap[b]? = some (.map es clock)) (F : WideElems.Fit P k R es clock) {key : Value} {kl : Lit} (hkey : keyOf P k key = some kl) :
    ∃ (v0 : Value) (st : Nat) (w1 : World), (Instr.mapEntry t (.map (some b)) key).run P w = .ok (.tuple #[v0, goInt st]) w1 ∧ (w1 = w ∨ ((∀ x ∈ es.toList, x.key ≠ key) ∧ (Instr.mapUpdate t (.map (some b)) key z).run P w = .ok () w1)) := by
  rcases K.find w hkey es.toList F.keys with ⟨h1, h2⟩ | ⟨j, e0, h1, h2, h3⟩
  · refine ⟨z, clock, setBlock w b (.map (es.push ⟨key, z, clock⟩) (clock + 1)), ?_, .inr ⟨h2, ?_⟩⟩
    · simp [Instr.mapEntry, run_underlying ht, MapKept.run_getObj_map hb, K.check w false hkey, h1, hz, MapKept.run_setObj_map _ hb, Result.andThen, setBlock]
    · simp [Instr.mapUpdate, run_underlying ht, MapKept.run_getObj_map hb, K.check w false hkey, h1, MapKept.run_setObj_map _ hb, Result.andThen, setBlock]
  · have hj : es[j]? = some e0 := by simpa using h2
    have hsame : es.modify j (fun e => { e with key := key }) = es := by
      apply Array.ext'
      rw [Array.toList_modify, ChangeMaps.modify_eq_set _ _ _ _ h2]
      have : ({ e0 with key := key } : MapEntry) = e0 := by rw [← h3]
      rw [this]
      exact WideElems.set_self _ _ _ h2
    refine ⟨e0.val, e0.born, setBlock w b (.map es clock), ?_, .inl (setBlock_same hb)⟩
    simp [Instr.mapEntry, run_underlying ht, MapKept.run_getObj_map hb, K.check w false hkey, h1, hj, h3, K.stays w hkey, hsame, MapKept.run_setObj_map _ hb, Result.andThen, setBlock]
/-- Put: behind the entry's store the map counts M, if M has x so often and all else as L. -/
theorem Cnt.put {w : World} {b n : Nat} {L M : List LtD} (h : Cnt w b n L) (hn : n < maxLen) {x : LtD} (hx : x.Wf) (hM : ∀ k, k ≠ x → cnt M k = cnt L k) (hb : (cnt M x : Int) ≤ 9223372036854775807) :
    ∃ (v0 : Value) (st : Nat) (w1 : World), (Instr.mapEntry 50 (.map (some b)) x.v).run Try.prog w = .ok (.tuple #[v0, goInt st]) w1 ∧ Only [b] w w1 ∧ Cnt w1 b (n + 1) L ∧
      ∃ w2, (Instr.entryStore 50 (.map (some b)) (goInt st) (.int .i64 (cnt M x : Int))).run Try.prog w1 = .ok () w2 ∧ Cnt w2 b (n + 1) M ∧ Only [b] w w2 := by
  have h' := h
  obtain ⟨D, h1, h2⟩ := h
  have hv : plainElem (H := Unit) Try.prog 3 (.int .i64 (cnt M x : Int)) = some (.lit (.int .i64 (cnt M x : Int)), []) := plainElem_int Try.underlying3 (wf_i64 (by omega) hb)
  have hv0 : plainElem (H := Unit) Try.prog 3 (.int .i64 0) = some (.lit (.int .i64 0), []) := plainElem_int Try.underlying3 (wf_i64 (by omega) (by omega))
  obtain ⟨wU, hU, hU1, hU2⟩ := h1.update ltKeyed Try.underlying50 hn (kL_key hx) hv
  obtain ⟨wZ, hZ, hZ1, hZ2⟩ := h1.update ltKeyed Try.underlying50 hn (kL_key hx) hv0
  obtain ⟨es, clock, hbk, F, hs, hD⟩ := id h1
  obtain ⟨v0, st, es1, c1, hE, _, hS⟩ := Go.WideElems.entry_then_store ltLaw Try.underlying50 Try.zeroI hbk F (kL_key hx)
  obtain ⟨v0', st', w1', hE', hw1⟩ := entry_world ltLaw Try.underlying50 Try.zeroI hbk F (kL_key hx)
  rw [hE] at hE'
  simp at hE'
  obtain ⟨-, rfl⟩ := hE'
  have e1 : (setBlock w b (.map es1 c1)).heap[b]? = some (.map es1 c1) := heap_setBlock_same hbk _
  obtain ⟨es', c', hr, hu⟩ := hS _ (.int .i64 (cnt M x : Int)) e1
  have o1 : Only [b] w (setBlock w b (.map es1 c1)) := ⟨rfl, rfl, rfl, by simp [setBlock], fun k _ hk => heap_setBlock_other hbk _ (by simpa using hk)⟩
  have o2 : Only [b] w (setBlock (setBlock w b (.map es1 c1)) b (.map es' c')) := o1.trans ⟨rfl, rfl, rfl, by simp [setBlock], fun k _ hk => heap_setBlock_other e1 _ (by simpa using hk)⟩
  have eU : wU = setBlock w b (.map es' c') := by
    rw [hu] at hU
    simp at hU
    exact hU.symm
  have hC1 : Cnt (setBlock w b (.map es1 c1)) b (n + 1) L := by
    rcases hw1 with hw | ⟨hno, hw⟩
    · rw [hw]; exact h'.mono (by omega)
    · rw [hZ] at hw
      simp at hw
      rw [← hw]
      have h0 : cnt L x = 0 := by
        rcases Maps.fit_look false ltKeyed Try.underlying50 (Try.zeroI w) hbk F (kL_key hx) with ⟨_, _, hat⟩ | ⟨e0, _, hm, hk, _⟩
        · have a := hat (.lit (.int .i64 0))
          rw [← hD, h2 x hx] at a
          simp only [DataW.lit.injEq, Lit.int.injEq, true_and] at a
          omega
        · exact absurd hk (hno _ hm)
      refine ⟨_, hZ1, fun k hk => ?_⟩
      by_cases he : k = x
      · subst he
        rw [h0]
        exact atKey_put_same h1.isMap (ltKeyed.key (kL_key hx)) ..
      · rw [atKey_put_other (fun e => he (kL_inj hk hx e)), h2 k hk]
  refine ⟨v0, st, _, hE, o1, hC1, _, hr, ⟨D.put (kL x) (.lit (.int .i64 (cnt M x : Int))), ?_, fun k hk => ?_⟩, o2⟩
  · obtain ⟨es2, c2, hb2, F2, hs2, hD2⟩ := hU1
    refine ⟨es2, c2, ?_, F2, hs2, hD2⟩
    rw [eU, heap_setBlock_same hbk] at hb2
    rw [heap_setBlock_same e1]
    exact hb2
  · by_cases he : k = x
    · subst he
      exact atKey_put_same h1.isMap (ltKeyed.key (kL_key hx)) ..
    · rw [atKey_put_other (fun e => he (kL_inj hk hx e)), h2 k hk, hM k he]
/-- Deleted, where none is there. -/
theorem Cnt.drop {w : World} {b n : Nat} {L : List LtD} (h : Cnt w b n L) {x : LtD} (hx : x.Wf) (h0 : cnt L x = 0) (ty : TypeId) :
    ∃ w', (Builtin.delete_ #[50, 36] ty #[.map (some b), x.v]).run Try.prog w = .ok (.tuple #[]) w' ∧ Cnt w' b n L ∧ Only [b] w w' := by
  obtain ⟨D, h1, h2⟩ := h
  obtain ⟨w', hr, ho, ht⟩ := h1.drop ltKeyed Try.underlying50 (kL_key hx) ty
  refine ⟨w', hr, ⟨_, ho, fun k hk => ?_⟩, Only.of_grown ht.grown (fun k e => by injection e with e; simp [e])⟩
  by_cases he : k = x
  · subst he
    rw [h0]
    exact atKey_del_same ..
  · rw [atKey_del_other (fun e => he (kL_inj hk hx e)), h2 k hk]
end Go.Proofs.Ytaopfdgebibpeaa.nt
