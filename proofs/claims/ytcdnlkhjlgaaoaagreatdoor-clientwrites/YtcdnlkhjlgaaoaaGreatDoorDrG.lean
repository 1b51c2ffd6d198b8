/-
  The contract of the reference's Built.
-/
import Derived.Test.YtcdnlkhjlgaaoaaGreatDoorDrF
namespace Go.Proofs.YtcdnlkhjlgaaoaaGreatDoor
open Go.ChangeShapes Go.WideShapes Go.ChangeAt Go.RowKit Go.PlainAid

/-- How put may go. -/
inductive PutTo : List OpD → OpD → List OpD → Prop
  | nil (x : OpD) : PutTo [] x [x]
  | new (L : List OpD) (y x : OpD) : y.k ≠ x.k → PutTo (L ++ [y]) x (L ++ [y] ++ [x])
  | join (L : List OpD) (N : Nat) : PutTo (L ++ [kOp N]) ⟨1, 1, ⟨#[]⟩⟩ (L ++ [kOp (N + 1)])
theorem put_any (base : Nat) (d : Value) (D : List OpD) (x : OpD) (D' : List OpD) (w : World) (hb : base ≤ w.heap.size) (hl : D.length ≤ 100000) (hN : ∀ o ∈ D, o.n ≤ 100000) (ho : w.ownsRow base 59 3 d D.length (ocs D)) (hp : PutTo D x D') :
    Calls Tryz.prog 90 #[d, .agg #[.int .i64 x.k, .int .i64 x.n, .string x.t]] w fun e w' => ∃ u, e = .returned u ∧ w'.ownsRow base 59 3 u D'.length (ocs D') ∧ Below base w w' := by
  cases hp with
  | nil => exact put_nil base d x w hb ho
  | new L y _ h => exact put_new base d L y x w hb (by simp at hl; omega) ho h
  | join L N => exact put_join base d L N w hb (by simp at hl; omega) (by have := hN (kOp N) (by simp); simp [kOp] at this; omega) ho

/-- What Built has written: all but what has changed since the last keep. -/
def JU.outP (τ : JU) : List PS := τ.D ++ (if 0 < τ.kept then [.keep τ.kept] else [])
/-- A state that joining comes to. -/
structure JU.Ok (τ : JU) : Prop where
  z : τ.kept = 0 → τ.D = []
  d : ∀ D y, τ.D = D ++ [y] → y.op.k ≠ 1
theorem flush_last (k : Nat) (p : List Int) (g : Nat) (h : 0 < p.length ∨ 0 < g) (A : List PS) : ∃ D y, A ++ flushP k p g = D ++ [y] ∧ y.op.k ≠ 1 := by
  by_cases hg : 0 < g
  · exact ⟨A ++ ((if 0 < k then [.keep k] else []) ++ (if 0 < p.length then [.ins p] else [])), .rem g, by simp [flushP, hg], show (3 : Int) ≠ 1 by decide⟩
  · have hp : 0 < p.length := by omega
    exact ⟨A ++ (if 0 < k then [.keep k] else []), .ins p, by simp [flushP, hg, hp], show (2 : Int) ≠ 1 by decide⟩
theorem snoc_inj {α : Type _} {a b : List α} {x y : α} (h : a ++ [x] = b ++ [y]) : x = y := by
  have := congrArg List.getLast? h
  simpa using this
theorem ok_add {τ : JU} (h : τ.Ok) (x : U) : (τ.add x).Ok := by
  cases x with
  | K =>
    simp only [JU.add]
    split
    · rename_i hc
      refine ⟨fun h => by simp at h, fun D y e => ?_⟩
      obtain ⟨D', y', e', hy⟩ := flush_last τ.kept τ.put τ.gone hc τ.D
      simp only at e
      rw [e'] at e
      rw [← snoc_inj e]
      exact hy
    · exact ⟨fun h => by simp at h, h.d⟩
  | R => exact ⟨h.z, h.d⟩
  | I z => exact ⟨h.z, h.d⟩
theorem ok_ju : ∀ (w : List U) {τ : JU}, τ.Ok → (ju τ w).Ok
  | [], _, h => h
  | x :: w, _, h => by rw [ju_cons]; exact ok_ju w (ok_add h x)

/-- The word of a form's gaps from a on: what is put in, and whether the code point behind goes. -/
def gapW (ins : List ByteArray) (gone : List Bool) : Nat → List U
  | 0 => []
  | i + 1 => gapW ins gone i ++ ((pts (ins.getD i ⟨#[]⟩)).map .I ++ [if gone.getD i false then .R else .K])
def formW (ins : List ByteArray) (gone : List Bool) : List U := gapW ins gone gone.length ++ (pts (ins.getD gone.length ⟨#[]⟩)).map .I

/-- put of what changed, behind a keep or nothing. -/
theorem putTo_ins {τ : JU} (h : τ.Ok) (x : OpD) (hx : x.k ≠ 1) : PutTo (τ.outP.map PS.op) x (τ.outP.map PS.op ++ [x]) := by
  unfold JU.outP
  by_cases h0 : 0 < τ.kept
  · rw [if_pos h0, List.map_append, List.map_cons, List.map_nil]
    exact .new _ _ _ (fun e => hx e.symm)
  · have hD : τ.D = [] := h.z (by omega)
    rw [if_neg h0, hD]
    exact .nil x
theorem baseU_gap (ins : List ByteArray) (gone : List Bool) : ∀ i, baseU (gapW ins gone i) = i
  | 0 => rfl
  | i + 1 => by
    rw [gapW, baseU_append, baseU_append, baseU_gap ins gone i, baseU_I]
    split <;> simp [baseU]
theorem ju_bd (w : List U) : (ju ⟨[], 0, [], 0⟩ w).kept ≤ baseU w ∧ (ju ⟨[], 0, [], 0⟩ w).gone ≤ baseU w ∧ (ju ⟨[], 0, [], 0⟩ w).D.length ≤ 3 * baseU w ∧ ∀ s ∈ (ju ⟨[], 0, [], 0⟩ w).D, s.op.n ≤ baseU w := by
  induction w using rev_ind with
  | h0 => simp [ju, baseU]
  | h1 w x ih =>
    obtain ⟨h1, h2, h3, h4⟩ := ih
    rw [ju_append, baseU_append]
    generalize ju ⟨[], 0, [], 0⟩ w = τ at *
    rw [show ju τ [x] = τ.add x from rfl]
    cases x with
    | K =>
      have e : baseU [U.K] = 1 := rfl
      rw [e]
      simp only [JU.add]
      split
      · refine ⟨by simp only; omega, by simp, ?_, fun s hs => ?_⟩
        · simp only [List.length_append]
          have : (flushP τ.kept τ.put τ.gone).length ≤ 3 := by unfold flushP; split <;> split <;> split <;> simp
          rename_i hc
          omega
        · simp only [List.mem_append] at hs
          rcases hs with hs | hs
          · have := h4 s hs; omega
          · simp only [flushP, List.mem_append] at hs
            rcases hs with hs | hs | hs
            · split at hs
              · simp at hs; subst hs; simp only [PS.op, PS.st, St.op]; omega
              · simp at hs
            · split at hs
              · simp at hs; subst hs; simp only [PS.op, PS.st, St.op]; omega
              · simp at hs
            · split at hs
              · simp at hs; subst hs; simp only [PS.op, PS.st, St.op]; omega
              · simp at hs
      · exact ⟨by simp only; omega, by simp only; omega, by simp only; omega, fun s hs => by have := h4 s hs; omega⟩
    | R =>
      have e : baseU [U.R] = 1 := rfl
      rw [e]
      exact ⟨by simp only [JU.add]; omega, by simp only [JU.add]; omega, by simp only [JU.add]; omega, fun s hs => by have := h4 s hs; omega⟩
    | I z =>
      have e : baseU [U.I z] = 0 := rfl
      rw [e]
      exact ⟨h1, h2, h3, h4⟩
end Go.Proofs.YtcdnlkhjlgaaoaaGreatDoor

/-
  The walk of the reference's Built.
-/
namespace Go.Proofs.YtcdnlkhjlgaaoaaGreatDoor
open Go.ChangeShapes Go.WideShapes Go.ChangeAt Go.RowKit Go.PlainAid

theorem mk_empty (l : List UInt8) : (mk l).size = 0 ↔ l = [] := by rw [mk_size]; exact List.length_eq_zero_iff
theorem outP_bd {τ : JU} {n : Nat} (h : τ.kept ≤ n ∧ τ.gone ≤ n ∧ τ.D.length ≤ 3 * n ∧ ∀ s ∈ τ.D, s.op.n ≤ n) : (τ.outP.map PS.op).length ≤ 3 * n + 1 ∧ ∀ o ∈ τ.outP.map PS.op, o.n ≤ n := by
  unfold JU.outP
  refine ⟨?_, fun o ho => ?_⟩
  · rw [List.length_map, List.length_append]
    split <;> simp <;> omega
  · obtain ⟨s, hs, rfl⟩ := List.mem_map.1 ho
    rcases List.mem_append.1 hs with hs | hs
    · exact h.2.2.2 s hs
    · split at hs
      · simp at hs; subst hs; simp only [PS.op, PS.st, St.op]; omega
      · simp at hs

theorem bnd1 {A : List OpD} {k : Nat} {x : OpD} (h : ∀ o ∈ A, o.n ≤ (k : Int)) (hk : k ≤ 1001) (hx : x.n ≤ 100000) : ∀ o ∈ A ++ [x], o.n ≤ 100000 := by
  intro o ho
  rcases List.mem_append.1 ho with h1 | h1
  · have := h o h1; omega
  · simp at h1; subst h1; exact hx
theorem bnd2 {A : List OpD} {k : Nat} {x y : OpD} (h : ∀ o ∈ A, o.n ≤ (k : Int)) (hk : k ≤ 1001) (hx : x.n ≤ 100000) (hy : y.n ≤ 100000) : ∀ o ∈ A ++ [x] ++ [y], o.n ≤ 100000 := by
  intro o ho
  rcases List.mem_append.1 ho with h1 | h1
  · exact bnd1 h hk hx o h1
  · simp at h1; subst h1; exact hy
theorem putTo_keep {D : List PS} {kept : Nat} {put : List Int} (h : JU.Ok ⟨D, kept, put, 0⟩) : PutTo ((JU.outP ⟨D, kept, put, 0⟩).map PS.op) ⟨1, 1, ⟨#[]⟩⟩ ((JU.outP ⟨D, kept + 1, [], 0⟩).map PS.op) := by
  unfold JU.outP
  simp only
  rw [if_pos (show 0 < kept + 1 by omega), List.map_append, List.map_append]
  by_cases h0 : 0 < kept
  · rw [if_pos h0]
    exact .join (D.map PS.op) kept
  · have hD : D = [] := h.z (by simp only; omega)
    have hk : kept = 0 := by omega
    subst hD; subst hk
    exact .nil _
section
variable {D : List PS} {kept gn : Nat} {put p' : List Int}
theorem out_eq11 (h1 : 0 < p'.length) (h2 : 0 < gn) : (JU.out ⟨D, kept, p', gn⟩).map PS.op = (JU.outP ⟨D, kept, put, gn⟩).map PS.op ++ [⟨2, 0, mk (enc p')⟩] ++ [⟨3, (gn : Int), ⟨#[]⟩⟩] := by
  simp only [JU.out, JU.outP, flushP, if_pos h1, if_pos h2, List.map_append, List.append_assoc]; rfl
theorem out_eq10 (h1 : 0 < p'.length) (_h2 : (0 : Nat) ≤ 0) : (JU.out ⟨D, kept, p', 0⟩).map PS.op = (JU.outP ⟨D, kept, put, 0⟩).map PS.op ++ [⟨2, 0, mk (enc p')⟩] := by
  simp only [JU.out, JU.outP, flushP, if_pos h1, if_neg (Nat.lt_irrefl 0), List.map_append, List.append_assoc, List.append_nil]; rfl
theorem out_eq01 (_h1 : (0 : Nat) ≤ 0) (h2 : 0 < gn) : (JU.out ⟨D, kept, [], gn⟩).map PS.op = (JU.outP ⟨D, kept, put, gn⟩).map PS.op ++ [⟨3, (gn : Int), ⟨#[]⟩⟩] := by
  simp only [JU.out, JU.outP, flushP, List.length_nil, if_neg (Nat.lt_irrefl 0), if_pos h2, List.map_append, List.append_assoc, List.nil_append]; rfl
theorem out_eq00 (_h1 : (0 : Nat) ≤ 0) (_h2 : (0 : Nat) ≤ 0) : (JU.out ⟨D, kept, [], 0⟩).map PS.op = (JU.outP ⟨D, kept, put, 0⟩).map PS.op := by
  simp only [JU.out, JU.outP, flushP, List.length_nil, if_neg (Nat.lt_irrefl 0), List.append_nil]
theorem outK (E : List PS) : (JU.outP ⟨E, 1, [], 0⟩).map PS.op = E.map PS.op ++ [⟨1, 1, ⟨#[]⟩⟩] := by
  simp only [JU.outP, if_pos (show 0 < 1 by decide), List.map_append]; rfl
theorem outK_eq11 (h1 : 0 < p'.length) (h2 : 0 < gn) : (JU.outP ⟨D ++ flushP kept p' gn, 1, [], 0⟩).map PS.op = (JU.outP ⟨D, kept, put, gn⟩).map PS.op ++ [⟨2, 0, mk (enc p')⟩] ++ [⟨3, (gn : Int), ⟨#[]⟩⟩] ++ [⟨1, 1, ⟨#[]⟩⟩] := by
  rw [outK, ← out_eq11 h1 h2]; rfl
theorem outK_eq10 (h1 : 0 < p'.length) (h2 : (0 : Nat) ≤ 0) : (JU.outP ⟨D ++ flushP kept p' 0, 1, [], 0⟩).map PS.op = (JU.outP ⟨D, kept, put, 0⟩).map PS.op ++ [⟨2, 0, mk (enc p')⟩] ++ [⟨1, 1, ⟨#[]⟩⟩] := by
  rw [outK, ← out_eq10 h1 h2]; rfl
theorem outK_eq01 (h1 : (0 : Nat) ≤ 0) (h2 : 0 < gn) : (JU.outP ⟨D ++ flushP kept [] gn, 1, [], 0⟩).map PS.op = (JU.outP ⟨D, kept, put, gn⟩).map PS.op ++ [⟨3, (gn : Int), ⟨#[]⟩⟩] ++ [⟨1, 1, ⟨#[]⟩⟩] := by
  rw [outK, ← out_eq01 h1 h2]; rfl
end

set_option maxRecDepth 20000 in
set_option maxHeartbeats 8000000 in
theorem built_any (vi vg : Value) (ins : List ByteArray) (gone : List Bool) (w : World) (hi : RdV w vi (ins.map Value.string)) (hg : RdV w vg (gone.map Value.bool)) (hl : ins.length = gone.length + 1) (hn : gone.length ≤ 1000) (hv : ∀ t ∈ ins, 0 ≤ cpl t ∧ t.size ≤ 1048576) :
    Calls Tryz.prog 73 #[.agg #[vi, vg]] w fun e w' => ∃ u, e = .returned u ∧ w'.ownsRow w.heap.size 59 3 u (nfU (formW ins gone)).length (ocs ((nfU (formW ins gone)).map PS.op)) ∧ Below w.heap.size w w' := by
  obtain ⟨io, ic, rfl, hic⟩ := hi
  obtain ⟨go, gc, rfl, hgc⟩ := hg
  rw [List.length_map] at *
  rw [List.length_map]
  rw [hl]
  have hbx : (w.alloc (.cells #[.slice io (gone.length + 1) ic, .slice go gone.length gc] 113)).heap[w.heap.size]? = some (.cells #[.slice io (gone.length + 1) ic, .slice go gone.length gc] 113) := heap_alloc_new w _
  have hbx0 : (w.alloc (.cells #[.slice io (gone.length + 1) ic, .slice go gone.length gc] 113)).cell? ⟨w.heap.size, 0, none⟩ = some (.slice io (gone.length + 1) ic) := cell_of_row _ _ 0 _ _ (0, 0) hbx
  have hbx1 : (w.alloc (.cells #[.slice io (gone.length + 1) ic, .slice go gone.length gc] 113)).cell? ⟨w.heap.size, 1, none⟩ = some (.slice go gone.length gc) := cell_of_row _ _ 1 _ _ (0, 0) hbx
  have hB0 : Below (w.heap.size + 1) (w.alloc (.cells #[.slice io (gone.length + 1) ic, .slice go gone.length gc] 113)) (w.alloc (.cells #[.slice io (gone.length + 1) ic, .slice go gone.length gc] 113)) := Below.refl _ _
  have hA : Below w.heap.size w (w.alloc (.cells #[.slice io (gone.length + 1) ic, .slice go gone.length gc] 113)) := (Below.refl _ _).alloc (Nat.le_refl _) _
  have hs0 : w.heap.size + 1 ≤ (w.alloc (.cells #[.slice io (gone.length + 1) ic, .slice go gone.length gc] 113)).heap.size := by simp
  clear hbx
  go_enter Tryz.func73, Tryz.ntmps73
  go_wp2
  generalize w.alloc (.cells #[.slice io (gone.length + 1) ic, .slice go gone.length gc] 113) = wb at *
  go_loopw [3, 4, 5, 6] (fun d c g i wr => (∃ k : Nat, k ≤ gone.length ∧ i = .int .i64 (k : Int) ∧ c = .string (mk (enc (ju ⟨[], 0, [], 0⟩ (gapW ins gone k)).put)) ∧ (ju ⟨[], 0, [], 0⟩ (gapW ins gone k)).put.length ≤ 1048576 * k ∧ g = .int .i64 ((ju ⟨[], 0, [], 0⟩ (gapW ins gone k)).gone : Int) ∧ wr.ownsRow (w.heap.size + 1) 59 3 d ((ju ⟨[], 0, [], 0⟩ (gapW ins gone k)).outP.map PS.op).length (ocs ((ju ⟨[], 0, [], 0⟩ (gapW ins gone k)).outP.map PS.op)) ∧ Below (w.heap.size + 1) wb wr ∧ w.heap.size + 1 ≤ wr.heap.size) ∨ (i = .int .i64 ((gone.length : Int) + 1) ∧ wr.ownsRow (w.heap.size + 1) 59 3 d ((nfU (formW ins gone)).map PS.op).length (ocs ((nfU (formW ins gone)).map PS.op)) ∧ Below (w.heap.size + 1) wb wr ∧ w.heap.size + 1 ≤ wr.heap.size)) (fun _ _ _ i _ => gone.length + 1 - (intOf i).toNat)
  case atStart => exact .inl ⟨0, by omega, rfl, rfl, by simp [gapW, ju], rfl, World.ownsRow_nil _ _ _ _, hB0, hs0⟩
  case round =>
    rcases hrel with ⟨k, hk, rfl, rfl, hpl, rfl, ho, hbl, hsz⟩ | ⟨rfl, ho, hbl, hsz⟩
    · have hok : (ju ⟨[], 0, [], 0⟩ (gapW ins gone k)).Ok := ok_ju _ ⟨fun _ => rfl, fun D y e => by simp at e⟩
      have hbd := ju_bd (gapW ins gone k)
      rw [baseU_gap] at hbd
      have hti : ins.getD k ⟨#[]⟩ ∈ ins := by simp [show k < ins.length by omega]
      have hcp := hv _ hti
      have HF : Hid (k = gone.length → nfU (formW ins gone) = (ju (ju ⟨[], 0, [], 0⟩ (gapW ins gone k)) ((pts (ins.getD k ⟨#[]⟩)).map .I)).out) := fun h => by rw [nfU, formW, ju_append, ← h]
      have HG : Hid (ju ⟨[], 0, [], 0⟩ (gapW ins gone (k + 1)) = (ju (ju ⟨[], 0, [], 0⟩ (gapW ins gone k)) ((pts (ins.getD k ⟨#[]⟩)).map .I)).add (if gone.getD k false then .R else .K)) := by
        show _ = _
        rw [gapW, ju_append, ju_append]
        rfl
      obtain ⟨bi, oi, rfl, hbi, ci⟩ := hic k (.string (ins.getD k ⟨#[]⟩)) (by simp [show k < ins.length by omega])
      have hbw : Below w.heap.size w wr := hA.trans (hbl.mono (by omega))
      have c0 := (hbw.cell (p := ⟨bi, oi + k, none⟩) hbi).trans ci
      have q0 := (hbl.cell (p := ⟨w.heap.size, 0, none⟩) (by simp)).trans hbx0
      have q1 := (hbl.cell (p := ⟨w.heap.size, 1, none⟩) (by simp)).trans hbx1
      have HGo : Hid (∀ h : k < gone.length, ∃ bg og, go = some ⟨bg, og, none⟩ ∧ wr.cell? ⟨bg, og + k, none⟩ = some (.bool (gone.getD k false))) := fun h => by
        obtain ⟨bg, og, e, hbg, cg⟩ := hgc k (.bool (gone.getD k false)) (by simp [h])
        exact ⟨bg, og, e, (hbw.cell (p := ⟨bg, og + k, none⟩) hbg).trans cg⟩
      clear hic hgc ci hv hti
      generalize ins.getD k ⟨#[]⟩ = t at *
      generalize ju ⟨[], 0, [], 0⟩ (gapW ins gone k) = τ at *
      have hob := outP_bd hbd
      obtain ⟨D, kept, put, gn⟩ := τ
      rw [ju_I] at HF HG
      simp only at *
      have hpt := pts_len hcp.1
      have hcl := cpl_le t
      obtain ⟨p', hp'⟩ : ∃ p', p' = put ++ pts t := ⟨_, rfl⟩
      have hp'l : p'.length ≤ 1048576 * (k + 1) := by rw [hp', List.length_append]; omega
      have hte := ins_enc hcp.1
      have HC : Hid (mk (enc put ++ t.data.toList) = mk (enc p')) := by show _ = _; rw [hte, ← enc_append, hp']
      have hel := enc_len put
      have hdl := data_len t
      have ha := fun W => pk.add_mk (enc put) t.data.toList W (by omega)
      rw [mk_data, HC.out] at ha
      have hep := enc_pos p'
      rw [← hp'] at HF HG
      have hg1 : (gn : Int) ≤ 1000 := by omega
      have hk1 : (k : Int) ≤ (gone.length : Int) := by omega
      have hgl : (gone.length : Int) ≤ 1000 := by omega
      clear hp' HC hte hel hdl hpt hcl hcp hpl hbd
      by_cases hlt : k < gone.length
      · have hlt' : (k : Int) < (gone.length : Int) := by omega
        obtain ⟨bg, og, rfl, cg⟩ := HGo.out hlt
        clear HGo HF
        cases hgk : gone.getD k false with
        | true =>
          rw [hgk] at cg HG
          have HG' : Hid (ju ⟨[], 0, [], 0⟩ (gapW ins gone (k + 1)) = ⟨D, kept, p', gn + 1⟩) := HG.out
          clear HG hgk hep hob hok
          generalize hC : mk (enc p') = C at *
          go_wp2
          go_roundw
          case rel => exact .inl ⟨k + 1, by omega, by go_num, by rw [HG'.out, hC], by rw [HG'.out]; exact hp'l, by rw [HG'.out]; go_num, by rw [HG'.out]; exact ho, hbl, hsz⟩
          case measure => simp [intOf]; omega
        | false =>
          rw [hgk] at cg HG
          simp only [if_false, Bool.false_eq_true] at HG
          clear hgk
          by_cases cP : 0 < p'.length
          · by_cases cG : (0 : Int) < (gn : Int)
            · have hE := empty_ff (s := mk (enc p')) (by rw [mk_size]; omega)
              have hob1 := hob.1
              have hp2 : PutTo ((JU.outP ⟨D, kept, put, gn⟩).map PS.op) ⟨2, 0, mk (enc p')⟩ (((JU.outP ⟨D, kept, put, gn⟩).map PS.op) ++ [⟨2, 0, mk (enc p')⟩]) := putTo_ins hok _ (show (2 : Int) ≠ 1 by decide)
              have hP2 := fun W d h1 h2 => put_any (w.heap.size + 1) d ((JU.outP ⟨D, kept, put, gn⟩).map PS.op) ⟨2, 0, mk (enc p')⟩ (((JU.outP ⟨D, kept, put, gn⟩).map PS.op) ++ [⟨2, 0, mk (enc p')⟩]) W h1 (by omega) (fun o ho => by have := hob.2 o ho; omega) h2 hp2
              have hp3 : PutTo (((JU.outP ⟨D, kept, put, gn⟩).map PS.op) ++ [⟨2, 0, mk (enc p')⟩]) ⟨3, (gn : Int), ⟨#[]⟩⟩ ((((JU.outP ⟨D, kept, put, gn⟩).map PS.op) ++ [⟨2, 0, mk (enc p')⟩]) ++ [⟨3, (gn : Int), ⟨#[]⟩⟩]) := .new _ _ _ (by simp)
              have hP3 := fun W d h1 h2 => put_any (w.heap.size + 1) d (((JU.outP ⟨D, kept, put, gn⟩).map PS.op) ++ [⟨2, 0, mk (enc p')⟩]) ⟨3, (gn : Int), ⟨#[]⟩⟩ ((((JU.outP ⟨D, kept, put, gn⟩).map PS.op) ++ [⟨2, 0, mk (enc p')⟩]) ++ [⟨3, (gn : Int), ⟨#[]⟩⟩]) W h1 (by (try simp only [List.length_append, List.length_cons, List.length_nil]); omega) (fun o ho => bnd1 hob.2 (by omega) (by simp) o ho) h2 hp3
              have hp1 : PutTo ((((JU.outP ⟨D, kept, put, gn⟩).map PS.op) ++ [⟨2, 0, mk (enc p')⟩]) ++ [⟨3, (gn : Int), ⟨#[]⟩⟩]) ⟨1, 1, ⟨#[]⟩⟩ (((((JU.outP ⟨D, kept, put, gn⟩).map PS.op) ++ [⟨2, 0, mk (enc p')⟩]) ++ [⟨3, (gn : Int), ⟨#[]⟩⟩]) ++ [⟨1, 1, ⟨#[]⟩⟩]) := .new _ _ _ (by simp)
              have hP1 := fun W d h1 h2 => put_any (w.heap.size + 1) d ((((JU.outP ⟨D, kept, put, gn⟩).map PS.op) ++ [⟨2, 0, mk (enc p')⟩]) ++ [⟨3, (gn : Int), ⟨#[]⟩⟩]) ⟨1, 1, ⟨#[]⟩⟩ (((((JU.outP ⟨D, kept, put, gn⟩).map PS.op) ++ [⟨2, 0, mk (enc p')⟩]) ++ [⟨3, (gn : Int), ⟨#[]⟩⟩]) ++ [⟨1, 1, ⟨#[]⟩⟩]) W h1 (by (try simp only [List.length_append, List.length_cons, List.length_nil]); omega) (fun o ho => bnd2 hob.2 (by omega) (by simp) (by simp; omega) o ho) h2 hp1
              have HG' : Hid (ju ⟨[], 0, [], 0⟩ (gapW ins gone (k + 1)) = ⟨D ++ flushP kept p' gn, 1, [], 0⟩) := by show _ = _; rw [HG.out, JU.add, if_pos (by simp only; omega)]
              have HL : Hid ((JU.outP ⟨D ++ flushP kept p' gn, 1, [], 0⟩).map PS.op = (((((JU.outP ⟨D, kept, put, gn⟩).map PS.op) ++ [⟨2, 0, mk (enc p')⟩]) ++ [⟨3, (gn : Int), ⟨#[]⟩⟩]) ++ [⟨1, 1, ⟨#[]⟩⟩])) := by show _ = _; exact outK_eq11 (by omega) (by omega)
              clear HG
              clear hok hob hob1 hep hp2 hp3 hp1
              generalize ((JU.outP ⟨D, kept, put, gn⟩).map PS.op) = O at *
              generalize mk (enc p') = C at *
              go_wp2_with fail
              refine (hP2 _ _ hsz ho).mono ?_
              rintro e wA ⟨uA, rfl, hoA, hbA⟩
              have hbl := hbl.trans hbA
              have hsz := Nat.le_trans hsz hbA.size
              have ho := hoA
              have q1 := (hbl.cell (p := ⟨w.heap.size, 1, none⟩) (by simp)).trans hbx1
              clear hoA hbA hP2
              go_wp2_with fail
              refine (hP3 _ _ hsz ho).mono ?_
              rintro e wA ⟨uA, rfl, hoA, hbA⟩
              have hbl := hbl.trans hbA
              have hsz := Nat.le_trans hsz hbA.size
              have ho := hoA
              have q1 := (hbl.cell (p := ⟨w.heap.size, 1, none⟩) (by simp)).trans hbx1
              clear hoA hbA hP3
              go_wp2_with fail
              refine (hP1 _ _ hsz ho).mono ?_
              rintro e wA ⟨uA, rfl, hoA, hbA⟩
              have hbl := hbl.trans hbA
              have hsz := Nat.le_trans hsz hbA.size
              have ho := hoA
              have q1 := (hbl.cell (p := ⟨w.heap.size, 1, none⟩) (by simp)).trans hbx1
              clear hoA hbA hP1
              go_wp2_with fail
              go_roundw
              case rel => exact .inl ⟨k + 1, by omega, by go_num, by rw [HG'.out]; rfl, by rw [HG'.out]; simp, by rw [HG'.out]; rfl, by rw [HG'.out, HL.out]; exact ho, hbl, hsz⟩
              case measure => simp [intOf]; omega
            · obtain rfl : gn = 0 := by omega
              have hE := empty_ff (s := mk (enc p')) (by rw [mk_size]; omega)
              have hob1 := hob.1
              have hp2 : PutTo ((JU.outP ⟨D, kept, put, 0⟩).map PS.op) ⟨2, 0, mk (enc p')⟩ (((JU.outP ⟨D, kept, put, 0⟩).map PS.op) ++ [⟨2, 0, mk (enc p')⟩]) := putTo_ins hok _ (show (2 : Int) ≠ 1 by decide)
              have hP2 := fun W d h1 h2 => put_any (w.heap.size + 1) d ((JU.outP ⟨D, kept, put, 0⟩).map PS.op) ⟨2, 0, mk (enc p')⟩ (((JU.outP ⟨D, kept, put, 0⟩).map PS.op) ++ [⟨2, 0, mk (enc p')⟩]) W h1 (by omega) (fun o ho => by have := hob.2 o ho; omega) h2 hp2
              have hp1 : PutTo (((JU.outP ⟨D, kept, put, 0⟩).map PS.op) ++ [⟨2, 0, mk (enc p')⟩]) ⟨1, 1, ⟨#[]⟩⟩ ((((JU.outP ⟨D, kept, put, 0⟩).map PS.op) ++ [⟨2, 0, mk (enc p')⟩]) ++ [⟨1, 1, ⟨#[]⟩⟩]) := .new _ _ _ (by simp)
              have hP1 := fun W d h1 h2 => put_any (w.heap.size + 1) d (((JU.outP ⟨D, kept, put, 0⟩).map PS.op) ++ [⟨2, 0, mk (enc p')⟩]) ⟨1, 1, ⟨#[]⟩⟩ ((((JU.outP ⟨D, kept, put, 0⟩).map PS.op) ++ [⟨2, 0, mk (enc p')⟩]) ++ [⟨1, 1, ⟨#[]⟩⟩]) W h1 (by (try simp only [List.length_append, List.length_cons, List.length_nil]); omega) (fun o ho => bnd1 hob.2 (by omega) (by simp) o ho) h2 hp1
              have HG' : Hid (ju ⟨[], 0, [], 0⟩ (gapW ins gone (k + 1)) = ⟨D ++ flushP kept p' 0, 1, [], 0⟩) := by show _ = _; rw [HG.out, JU.add, if_pos (by simp only; omega)]
              have HL : Hid ((JU.outP ⟨D ++ flushP kept p' 0, 1, [], 0⟩).map PS.op = ((((JU.outP ⟨D, kept, put, 0⟩).map PS.op) ++ [⟨2, 0, mk (enc p')⟩]) ++ [⟨1, 1, ⟨#[]⟩⟩])) := by show _ = _; exact outK_eq10 (by omega) (by omega)
              clear HG
              clear hok hob hob1 hep hp2 hp1
              generalize ((JU.outP ⟨D, kept, put, 0⟩).map PS.op) = O at *
              generalize mk (enc p') = C at *
              go_wp2_with fail
              refine (hP2 _ _ hsz ho).mono ?_
              rintro e wA ⟨uA, rfl, hoA, hbA⟩
              have hbl := hbl.trans hbA
              have hsz := Nat.le_trans hsz hbA.size
              have ho := hoA
              have q1 := (hbl.cell (p := ⟨w.heap.size, 1, none⟩) (by simp)).trans hbx1
              clear hoA hbA hP2
              go_wp2_with fail
              refine (hP1 _ _ hsz ho).mono ?_
              rintro e wA ⟨uA, rfl, hoA, hbA⟩
              have hbl := hbl.trans hbA
              have hsz := Nat.le_trans hsz hbA.size
              have ho := hoA
              have q1 := (hbl.cell (p := ⟨w.heap.size, 1, none⟩) (by simp)).trans hbx1
              clear hoA hbA hP1
              go_wp2_with fail
              go_roundw
              case rel => exact .inl ⟨k + 1, by omega, by go_num, by rw [HG'.out]; rfl, by rw [HG'.out]; simp, by rw [HG'.out]; rfl, by rw [HG'.out, HL.out]; exact ho, hbl, hsz⟩
              case measure => simp [intOf]; omega
          · by_cases cG : (0 : Int) < (gn : Int)
            · have hp0 : p' = [] := List.eq_nil_of_length_eq_zero (by omega)
              subst hp0
              have hE := empty_tt (s := mk (enc [])) (by rw [mk_size]; omega)
              have hob1 := hob.1
              have hp3 : PutTo ((JU.outP ⟨D, kept, put, gn⟩).map PS.op) ⟨3, (gn : Int), ⟨#[]⟩⟩ (((JU.outP ⟨D, kept, put, gn⟩).map PS.op) ++ [⟨3, (gn : Int), ⟨#[]⟩⟩]) := putTo_ins hok _ (show (3 : Int) ≠ 1 by decide)
              have hP3 := fun W d h1 h2 => put_any (w.heap.size + 1) d ((JU.outP ⟨D, kept, put, gn⟩).map PS.op) ⟨3, (gn : Int), ⟨#[]⟩⟩ (((JU.outP ⟨D, kept, put, gn⟩).map PS.op) ++ [⟨3, (gn : Int), ⟨#[]⟩⟩]) W h1 (by (try simp only [List.length_append, List.length_cons, List.length_nil]); omega) (fun o ho => by have := hob.2 o ho; omega) h2 hp3
              have hp1 : PutTo (((JU.outP ⟨D, kept, put, gn⟩).map PS.op) ++ [⟨3, (gn : Int), ⟨#[]⟩⟩]) ⟨1, 1, ⟨#[]⟩⟩ ((((JU.outP ⟨D, kept, put, gn⟩).map PS.op) ++ [⟨3, (gn : Int), ⟨#[]⟩⟩]) ++ [⟨1, 1, ⟨#[]⟩⟩]) := .new _ _ _ (by simp)
              have hP1 := fun W d h1 h2 => put_any (w.heap.size + 1) d (((JU.outP ⟨D, kept, put, gn⟩).map PS.op) ++ [⟨3, (gn : Int), ⟨#[]⟩⟩]) ⟨1, 1, ⟨#[]⟩⟩ ((((JU.outP ⟨D, kept, put, gn⟩).map PS.op) ++ [⟨3, (gn : Int), ⟨#[]⟩⟩]) ++ [⟨1, 1, ⟨#[]⟩⟩]) W h1 (by (try simp only [List.length_append, List.length_cons, List.length_nil]); omega) (fun o ho => bnd1 hob.2 (by omega) (by simp; omega) o ho) h2 hp1
              have HG' : Hid (ju ⟨[], 0, [], 0⟩ (gapW ins gone (k + 1)) = ⟨D ++ flushP kept [] gn, 1, [], 0⟩) := by show _ = _; rw [HG.out, JU.add, if_pos (by simp only; omega)]
              have HL : Hid ((JU.outP ⟨D ++ flushP kept [] gn, 1, [], 0⟩).map PS.op = ((((JU.outP ⟨D, kept, put, gn⟩).map PS.op) ++ [⟨3, (gn : Int), ⟨#[]⟩⟩]) ++ [⟨1, 1, ⟨#[]⟩⟩])) := by show _ = _; exact outK_eq01 (by omega) (by omega)
              clear HG
              clear hok hob hob1 hep hp3 hp1
              generalize ((JU.outP ⟨D, kept, put, gn⟩).map PS.op) = O at *
              generalize mk (enc []) = C at *
              go_wp2_with fail
              refine (hP3 _ _ hsz ho).mono ?_
              rintro e wA ⟨uA, rfl, hoA, hbA⟩
              have hbl := hbl.trans hbA
              have hsz := Nat.le_trans hsz hbA.size
              have ho := hoA
              have q1 := (hbl.cell (p := ⟨w.heap.size, 1, none⟩) (by simp)).trans hbx1
              clear hoA hbA hP3
              go_wp2_with fail
              refine (hP1 _ _ hsz ho).mono ?_
              rintro e wA ⟨uA, rfl, hoA, hbA⟩
              have hbl := hbl.trans hbA
              have hsz := Nat.le_trans hsz hbA.size
              have ho := hoA
              have q1 := (hbl.cell (p := ⟨w.heap.size, 1, none⟩) (by simp)).trans hbx1
              clear hoA hbA hP1
              go_wp2_with fail
              go_roundw
              case rel => exact .inl ⟨k + 1, by omega, by go_num, by rw [HG'.out]; rfl, by rw [HG'.out]; simp, by rw [HG'.out]; rfl, by rw [HG'.out, HL.out]; exact ho, hbl, hsz⟩
              case measure => simp [intOf]; omega
            · have hp0 : p' = [] := List.eq_nil_of_length_eq_zero (by omega)
              subst hp0
              obtain rfl : gn = 0 := by omega
              have hE := empty_tt (s := mk (enc [])) (by rw [mk_size]; omega)
              have hob1 := hob.1
              have hp1 : PutTo ((JU.outP ⟨D, kept, put, 0⟩).map PS.op) ⟨1, 1, ⟨#[]⟩⟩ ((JU.outP ⟨D, kept + 1, [], 0⟩).map PS.op) := putTo_keep hok
              have hP1 := fun W d h1 h2 => put_any (w.heap.size + 1) d ((JU.outP ⟨D, kept, put, 0⟩).map PS.op) ⟨1, 1, ⟨#[]⟩⟩ ((JU.outP ⟨D, kept + 1, [], 0⟩).map PS.op) W h1 (by omega) (fun o ho => by have := hob.2 o ho; omega) h2 hp1
              have HG' : Hid (ju ⟨[], 0, [], 0⟩ (gapW ins gone (k + 1)) = ⟨D, kept + 1, [], 0⟩) := by show _ = _; rw [HG.out, JU.add, if_neg (by simp only; omega)]
              clear HG
              clear hok hob hob1 hep hp1
              generalize ((JU.outP ⟨D, kept, put, 0⟩).map PS.op) = O at *
              generalize mk (enc []) = C at *
              go_wp2_with fail
              refine (hP1 _ _ hsz ho).mono ?_
              rintro e wA ⟨uA, rfl, hoA, hbA⟩
              have hbl := hbl.trans hbA
              have hsz := Nat.le_trans hsz hbA.size
              have ho := hoA
              have q1 := (hbl.cell (p := ⟨w.heap.size, 1, none⟩) (by simp)).trans hbx1
              clear hoA hbA hP1
              go_wp2_with fail
              go_roundw
              case rel => exact .inl ⟨k + 1, by omega, by go_num, by rw [HG'.out]; rfl, by rw [HG'.out]; simp, by rw [HG'.out]; rfl, by rw [HG'.out]; exact ho, hbl, hsz⟩
              case measure => simp [intOf]; omega
      · have hke : k = gone.length := by omega
        have hkn : ¬ (k : Int) < (gone.length : Int) := by omega
        have HKe : Hid (k = gone.length) := hke
        have HF' : Hid (nfU (formW ins gone) = JU.out ⟨D, kept, p', gn⟩) := HF.out hke
        clear HG HF HGo hlt hke
        by_cases cP : 0 < p'.length
        · by_cases cG : (0 : Int) < (gn : Int)
          · have hE := empty_ff (s := mk (enc p')) (by rw [mk_size]; omega)
            have hob1 := hob.1
            have hp2 : PutTo ((JU.outP ⟨D, kept, put, gn⟩).map PS.op) ⟨2, 0, mk (enc p')⟩ (((JU.outP ⟨D, kept, put, gn⟩).map PS.op) ++ [⟨2, 0, mk (enc p')⟩]) := putTo_ins hok _ (show (2 : Int) ≠ 1 by decide)
            have hP2 := fun W d h1 h2 => put_any (w.heap.size + 1) d ((JU.outP ⟨D, kept, put, gn⟩).map PS.op) ⟨2, 0, mk (enc p')⟩ (((JU.outP ⟨D, kept, put, gn⟩).map PS.op) ++ [⟨2, 0, mk (enc p')⟩]) W h1 (by omega) (fun o ho => by have := hob.2 o ho; omega) h2 hp2
            have hp3 : PutTo (((JU.outP ⟨D, kept, put, gn⟩).map PS.op) ++ [⟨2, 0, mk (enc p')⟩]) ⟨3, (gn : Int), ⟨#[]⟩⟩ ((((JU.outP ⟨D, kept, put, gn⟩).map PS.op) ++ [⟨2, 0, mk (enc p')⟩]) ++ [⟨3, (gn : Int), ⟨#[]⟩⟩]) := .new _ _ _ (by simp)
            have hP3 := fun W d h1 h2 => put_any (w.heap.size + 1) d (((JU.outP ⟨D, kept, put, gn⟩).map PS.op) ++ [⟨2, 0, mk (enc p')⟩]) ⟨3, (gn : Int), ⟨#[]⟩⟩ ((((JU.outP ⟨D, kept, put, gn⟩).map PS.op) ++ [⟨2, 0, mk (enc p')⟩]) ++ [⟨3, (gn : Int), ⟨#[]⟩⟩]) W h1 (by (try simp only [List.length_append, List.length_cons, List.length_nil]); omega) (fun o ho => bnd1 hob.2 (by omega) (by simp) o ho) h2 hp3
            have HL : Hid ((nfU (formW ins gone)).map PS.op = ((((JU.outP ⟨D, kept, put, gn⟩).map PS.op) ++ [⟨2, 0, mk (enc p')⟩]) ++ [⟨3, (gn : Int), ⟨#[]⟩⟩])) := by show _ = _; rw [HF'.out]; exact out_eq11 (by omega) (by omega)
            clear HF'
            clear hok hob hob1 hep hp2 hp3
            generalize ((JU.outP ⟨D, kept, put, gn⟩).map PS.op) = O at *
            generalize mk (enc p') = C at *
            go_wp2_with fail
            refine (hP2 _ _ hsz ho).mono ?_
            rintro e wA ⟨uA, rfl, hoA, hbA⟩
            have hbl := hbl.trans hbA
            have hsz := Nat.le_trans hsz hbA.size
            have ho := hoA
            have q1 := (hbl.cell (p := ⟨w.heap.size, 1, none⟩) (by simp)).trans hbx1
            clear hoA hbA hP2
            go_wp2_with fail
            refine (hP3 _ _ hsz ho).mono ?_
            rintro e wA ⟨uA, rfl, hoA, hbA⟩
            have hbl := hbl.trans hbA
            have hsz := Nat.le_trans hsz hbA.size
            have ho := hoA
            have q1 := (hbl.cell (p := ⟨w.heap.size, 1, none⟩) (by simp)).trans hbx1
            clear hoA hbA hP3
            go_wp2_with fail
            go_roundw
            case rel => exact .inr ⟨by rw [HKe.out], by rw [HL.out]; exact ho, hbl, hsz⟩
            case measure => simp [intOf]; omega
          · obtain rfl : gn = 0 := by omega
            have hE := empty_ff (s := mk (enc p')) (by rw [mk_size]; omega)
            have hob1 := hob.1
            have hp2 : PutTo ((JU.outP ⟨D, kept, put, 0⟩).map PS.op) ⟨2, 0, mk (enc p')⟩ (((JU.outP ⟨D, kept, put, 0⟩).map PS.op) ++ [⟨2, 0, mk (enc p')⟩]) := putTo_ins hok _ (show (2 : Int) ≠ 1 by decide)
            have hP2 := fun W d h1 h2 => put_any (w.heap.size + 1) d ((JU.outP ⟨D, kept, put, 0⟩).map PS.op) ⟨2, 0, mk (enc p')⟩ (((JU.outP ⟨D, kept, put, 0⟩).map PS.op) ++ [⟨2, 0, mk (enc p')⟩]) W h1 (by omega) (fun o ho => by have := hob.2 o ho; omega) h2 hp2
            have HL : Hid ((nfU (formW ins gone)).map PS.op = (((JU.outP ⟨D, kept, put, 0⟩).map PS.op) ++ [⟨2, 0, mk (enc p')⟩])) := by show _ = _; rw [HF'.out]; exact out_eq10 (by omega) (by omega)
            clear HF'
            clear hok hob hob1 hep hp2
            generalize ((JU.outP ⟨D, kept, put, 0⟩).map PS.op) = O at *
            generalize mk (enc p') = C at *
            go_wp2_with fail
            refine (hP2 _ _ hsz ho).mono ?_
            rintro e wA ⟨uA, rfl, hoA, hbA⟩
            have hbl := hbl.trans hbA
            have hsz := Nat.le_trans hsz hbA.size
            have ho := hoA
            have q1 := (hbl.cell (p := ⟨w.heap.size, 1, none⟩) (by simp)).trans hbx1
            clear hoA hbA hP2
            go_wp2_with fail
            go_roundw
            case rel => exact .inr ⟨by rw [HKe.out], by rw [HL.out]; exact ho, hbl, hsz⟩
            case measure => simp [intOf]; omega
        · by_cases cG : (0 : Int) < (gn : Int)
          · have hp0 : p' = [] := List.eq_nil_of_length_eq_zero (by omega)
            subst hp0
            have hE := empty_tt (s := mk (enc [])) (by rw [mk_size]; omega)
            have hob1 := hob.1
            have hp3 : PutTo ((JU.outP ⟨D, kept, put, gn⟩).map PS.op) ⟨3, (gn : Int), ⟨#[]⟩⟩ (((JU.outP ⟨D, kept, put, gn⟩).map PS.op) ++ [⟨3, (gn : Int), ⟨#[]⟩⟩]) := putTo_ins hok _ (show (3 : Int) ≠ 1 by decide)
            have hP3 := fun W d h1 h2 => put_any (w.heap.size + 1) d ((JU.outP ⟨D, kept, put, gn⟩).map PS.op) ⟨3, (gn : Int), ⟨#[]⟩⟩ (((JU.outP ⟨D, kept, put, gn⟩).map PS.op) ++ [⟨3, (gn : Int), ⟨#[]⟩⟩]) W h1 (by (try simp only [List.length_append, List.length_cons, List.length_nil]); omega) (fun o ho => by have := hob.2 o ho; omega) h2 hp3
            have HL : Hid ((nfU (formW ins gone)).map PS.op = (((JU.outP ⟨D, kept, put, gn⟩).map PS.op) ++ [⟨3, (gn : Int), ⟨#[]⟩⟩])) := by show _ = _; rw [HF'.out]; exact out_eq01 (by omega) (by omega)
            clear HF'
            clear hok hob hob1 hep hp3
            generalize ((JU.outP ⟨D, kept, put, gn⟩).map PS.op) = O at *
            generalize mk (enc []) = C at *
            go_wp2_with fail
            refine (hP3 _ _ hsz ho).mono ?_
            rintro e wA ⟨uA, rfl, hoA, hbA⟩
            have hbl := hbl.trans hbA
            have hsz := Nat.le_trans hsz hbA.size
            have ho := hoA
            have q1 := (hbl.cell (p := ⟨w.heap.size, 1, none⟩) (by simp)).trans hbx1
            clear hoA hbA hP3
            go_wp2_with fail
            go_roundw
            case rel => exact .inr ⟨by rw [HKe.out], by rw [HL.out]; exact ho, hbl, hsz⟩
            case measure => simp [intOf]; omega
          · have hp0 : p' = [] := List.eq_nil_of_length_eq_zero (by omega)
            subst hp0
            obtain rfl : gn = 0 := by omega
            have hE := empty_tt (s := mk (enc [])) (by rw [mk_size]; omega)
            have hob1 := hob.1
            have HL : Hid ((nfU (formW ins gone)).map PS.op = ((JU.outP ⟨D, kept, put, 0⟩).map PS.op)) := by show _ = _; rw [HF'.out]; exact out_eq00 (by omega) (by omega)
            clear HF'
            clear hok hob hob1 hep
            generalize ((JU.outP ⟨D, kept, put, 0⟩).map PS.op) = O at *
            generalize mk (enc []) = C at *
            go_wp2
            go_roundw
            case rel => exact .inr ⟨by rw [HKe.out], by rw [HL.out]; exact ho, hbl, hsz⟩
            case measure => simp [intOf]; omega
    · have h1 : ¬ (gone.length : Int) + 1 ≤ (gone.length : Int) := by omega
      have q1 := (hbl.cell (p := ⟨w.heap.size, 1, none⟩) (by simp)).trans hbx1
      have hgl : (gone.length : Int) ≤ 1000 := by omega
      clear hic hgc hv
      go_wp2
      go_ret
      rw [List.length_map] at ho
      exact ⟨_, rfl, own_lower ho (by omega), hA.trans (hbl.mono (by omega))⟩
end Go.Proofs.YtcdnlkhjlgaaoaaGreatDoor

/-
  What the reference's Formed does, in plain words; its memory.
-/
namespace Go.Proofs.YtcdnlkhjlgaaoaaGreatDoor
open Go.ChangeShapes Go.WideShapes Go.ChangeAt Go.RowKit Go.PlainAid

/-- What is kept and put in up to a gap, and in it. -/
def gapM (ins : List ByteArray) (gone : List Bool) (i : Nat) : List (Nat ⊕ Int) := mkU 0 (gapW ins gone i) ++ (pts (ins.getD i ⟨#[]⟩)).map .inr
theorem pts_nil : pts ⟨#[]⟩ = [] := rfl
theorem gapM_R {ins : List ByteArray} {gone : List Bool} {i : Nat} (h : gone.getD i false = true) (he : ins.getD (i + 1) ⟨#[]⟩ = ⟨#[]⟩) : gapM ins gone (i + 1) = gapM ins gone i := by
  rw [gapM, gapM, he, pts_nil, gapW, mkU_append, mkU_append, mkU_I, h]
  simp [mkU]
theorem gapM_K {ins : List ByteArray} {gone : List Bool} {i : Nat} (h : gone.getD i false = false) (he : ins.getD (i + 1) ⟨#[]⟩ = ⟨#[]⟩) : gapM ins gone (i + 1) = gapM ins gone i ++ [.inl i] := by
  rw [gapM, gapM, he, pts_nil, gapW, mkU_append, mkU_append, mkU_I, h, baseU_gap, baseU_I]
  simp [mkU]
theorem gapM_Rs {ins : List ByteArray} {gone : List Bool} {g : Nat} (he : ∀ j, g < j → ins.getD j ⟨#[]⟩ = ⟨#[]⟩) : ∀ m, (∀ j, g ≤ j → j < g + m → gone.getD j false = true) → gapM ins gone (g + m) = gapM ins gone g
  | 0, _ => rfl
  | m + 1, h => by
    rw [← Nat.add_assoc, gapM_R (h _ (by omega) (by omega)) (he _ (by omega)), gapM_Rs he m (fun j h1 h2 => h j h1 (by omega))]
theorem gapM_Ks {ins : List ByteArray} {gone : List Bool} {a : Nat} (he : ∀ j, a < j → ins.getD j ⟨#[]⟩ = ⟨#[]⟩) : ∀ m, (∀ j, a ≤ j → j < a + m → gone.getD j false = false) → gapM ins gone (a + m) = gapM ins gone a ++ (List.range m).map (fun j => .inl (a + j))
  | 0, _ => by simp
  | m + 1, h => by
    rw [← Nat.add_assoc, gapM_K (h _ (by omega) (by omega)) (he _ (by omega)), gapM_Ks he m (fun j h1 h2 => h j h1 (by omega)), List.range_succ]
    simp
theorem gapW_congr {ins ins' : List ByteArray} {gone gone' : List Bool} : ∀ i, (∀ j, j < i → ins'.getD j ⟨#[]⟩ = ins.getD j ⟨#[]⟩ ∧ gone'.getD j false = gone.getD j false) → gapW ins' gone' i = gapW ins gone i
  | 0, _ => rfl
  | i + 1, h => by
    rw [gapW, gapW, (h i (by omega)).1, (h i (by omega)).2, gapW_congr i (fun j hj => h j (by omega))]
theorem cat_ok {a t : ByteArray} (ha : 0 ≤ cpl a) (ht : 0 ≤ cpl t) : 0 ≤ cpl (mk (a.data.toList ++ t.data.toList)) ∧ pts (mk (a.data.toList ++ t.data.toList)) = pts a ++ pts t := by
  rw [ins_enc ha, ins_enc ht, ← enc_append]
  have h := cpl_enc (p := pts a ++ pts t) (fun z hz => by
    rcases List.mem_append.1 hz with h | h
    · exact pts_ok ha z h
    · exact pts_ok ht z h)
  exact ⟨by rw [h.1]; omega, h.2⟩

/-- What Formed has on its way. -/
structure FI (l : List St) (n k g : Nat) (ins : List ByteArray) (gone : List Bool) : Prop where
  li : ins.length = n + 1
  lg : gone.length = n
  ga : g ≤ bsum (l.take k)
  m : gapM ins gone g = mkU 0 (uw (l.take k))
  r : ∀ j, g ≤ j → j < bsum (l.take k) → gone.getD j false = true
  f : ∀ j, bsum (l.take k) ≤ j → gone.getD j false = false
  e : ∀ j, g < j → ins.getD j ⟨#[]⟩ = ⟨#[]⟩
  v : ∀ t ∈ ins, 0 ≤ cpl t ∧ t.size ≤ 4 * tsum (l.take k)

theorem take_uw {l : List St} {k : Nat} (h : k < l.length) : uw (l.take (k + 1)) = uw (l.take k) ++ (l[k]).u := by
  rw [List.take_succ_eq_append_getElem h, uw_append]; simp [uw]
theorem fi_start (l : List St) (n : Nat) : FI l n 0 0 (List.replicate (n + 1) ⟨#[]⟩) (List.replicate n false) := by
  have hi : ∀ j, (List.replicate (n + 1) (⟨#[]⟩ : ByteArray)).getD j ⟨#[]⟩ = ⟨#[]⟩ := fun j => by
    by_cases h : j < n + 1 <;> simp [List.getD, h]
  refine ⟨by simp, by simp, by simp, ?_, fun j _ h => by simp [bsum] at h, fun j _ => ?_, fun j _ => hi j, fun t ht => ?_⟩
  · rw [gapM, hi, pts_nil]; rfl
  · by_cases h : j < n <;> simp [List.getD, h]
  · have := List.eq_of_mem_replicate ht
    subst this
    exact ⟨by decide, by show 0 ≤ _; omega⟩
theorem fi_keep {l : List St} {n k g m : Nat} {ins : List ByteArray} {gone : List Bool} (h : FI l n k g ins gone) (hk : k < l.length) (hs : l[k] = .keep m) : FI l n (k + 1) (bsum (l.take k) + m) ins gone := by
  have hb := bsum_take l k hk
  have ht := tsum_take l k hk
  rw [hs] at hb ht
  simp only [St.b, St.c] at hb ht
  refine ⟨h.li, h.lg, by omega, ?_, fun j h1 h2 => by omega, fun j h1 => h.f j (by omega), fun j h1 => h.e j (by have := h.ga; omega), fun t ht' => ⟨(h.v t ht').1, by have := (h.v t ht').2; omega⟩⟩
  have e1 : gapM ins gone (bsum (l.take k)) = gapM ins gone g := by
    have := gapM_Rs (g := g) h.e (bsum (l.take k) - g) (fun j h1 h2 => h.r j h1 (by omega))
    rwa [show g + (bsum (l.take k) - g) = bsum (l.take k) by have := h.ga; omega] at this
  rw [gapM_Ks (fun j hj => h.e j (by have := h.ga; omega)) m (fun j h1 h2 => h.f j h1), e1, h.m, take_uw hk, hs, mkU_append, base_uw]
  simp only [St.u, mkU_K, Nat.zero_add]
theorem fi_rem {l : List St} {n k g m : Nat} {ins : List ByteArray} {gone gone' : List Bool} (h : FI l n k g ins gone) (hk : k < l.length) (hs : l[k] = .rem m) (hl : gone'.length = n)
    (h1 : ∀ j, j < bsum (l.take k) → gone'.getD j false = gone.getD j false) (h2 : ∀ j, bsum (l.take k) ≤ j → j < bsum (l.take k) + m → gone'.getD j false = true) (h3 : ∀ j, bsum (l.take k) + m ≤ j → gone'.getD j false = gone.getD j false) : FI l n (k + 1) g ins gone' := by
  have hb := bsum_take l k hk
  have ht := tsum_take l k hk
  rw [hs] at hb ht
  simp only [St.b, St.c] at hb ht
  have hga := h.ga
  refine ⟨h.li, hl, by omega, ?_, fun j q1 q2 => ?_, fun j q => ?_, h.e, fun t ht' => ⟨(h.v t ht').1, by have := (h.v t ht').2; omega⟩⟩
  · have e := gapW_congr (ins := ins) (ins' := ins) (gone := gone) (gone' := gone') g (fun j hj => ⟨rfl, h1 j (by omega)⟩)
    have hm := h.m
    rw [gapM] at hm ⊢
    rw [e, hm, take_uw hk, hs, mkU_append]
    simp only [St.u, mkU_R, List.append_nil]
  · by_cases hj : j < bsum (l.take k)
    · rw [h1 j hj]; exact h.r j q1 hj
    · exact h2 j (by omega) (by omega)
  · rw [h3 j (by omega)]; exact h.f j (by omega)
theorem fi_ins {l : List St} {n k g : Nat} {t : ByteArray} {ins : List ByteArray} {gone : List Bool} (h : FI l n k g ins gone) (hk : k < l.length) (hs : l[k] = .ins t) (ho : (St.ins t).Ok) (hgn : g ≤ n) :
    FI l n (k + 1) g (ins.set g (mk ((ins.getD g ⟨#[]⟩).data.toList ++ t.data.toList))) gone := by
  have hb := bsum_take l k hk
  have ht := tsum_take l k hk
  rw [hs] at hb ht
  simp only [St.b, St.c, St.Ok] at hb ht ho
  have hga := h.ga
  have hli := h.li
  have hin : ins.getD g ⟨#[]⟩ ∈ ins := by simp [show g < ins.length by omega]
  have hvg := h.v _ hin
  have hcat := cat_ok hvg.1 (t := t) (by omega)
  have hget : ∀ j, j ≠ g → (ins.set g (mk ((ins.getD g ⟨#[]⟩).data.toList ++ t.data.toList))).getD j ⟨#[]⟩ = ins.getD j ⟨#[]⟩ := fun j hj => by
    rw [List.getD_eq_getElem?_getD, List.getElem?_set_ne (fun e => hj e.symm), List.getD_eq_getElem?_getD]
  have hgg : (ins.set g (mk ((ins.getD g ⟨#[]⟩).data.toList ++ t.data.toList))).getD g ⟨#[]⟩ = mk ((ins.getD g ⟨#[]⟩).data.toList ++ t.data.toList) := by
    have : g < ins.length := by omega
    simp [List.getD, this]
  refine ⟨by rw [List.length_set]; exact hli, h.lg, by omega, ?_, fun j q1 q2 => h.r j q1 (by omega), fun j q => h.f j (by omega), fun j q => ?_, fun x hx => ?_⟩
  · have e := gapW_congr (ins := ins) (ins' := ins.set g (mk ((ins.getD g ⟨#[]⟩).data.toList ++ t.data.toList))) (gone := gone) (gone' := gone) g (fun j hj => ⟨hget j (by omega), rfl⟩)
    have hm := h.m
    rw [gapM] at hm ⊢
    rw [e, hgg, hcat.2, List.map_append, ← List.append_assoc, hm, take_uw hk, hs, mkU_append]
    simp only [St.u, mkU_I]
  · rw [hget j (by omega)]; exact h.e j q
  · rcases List.mem_or_eq_of_mem_set hx with hx | hx
    · have := h.v x hx; exact ⟨this.1, by omega⟩
    · subst hx
      refine ⟨hcat.1, ?_⟩
      have hs1 := hvg.2
      have hs2 := size_cpl ho.1
      rw [mk_size, List.length_append, data_len, data_len]
      omega
/-- The form's word does what the delta does. -/
theorem fi_end {l : List St} {n g : Nat} {ins : List ByteArray} {gone : List Bool} (h : FI l n l.length g ins gone) (hn : bsum l = n) : baseU (formW ins gone) = baseU (uw l) ∧ mkU 0 (formW ins gone) = mkU 0 (uw l) := by
  have hm := h.m
  have hr := h.r
  have hga := h.ga
  rw [List.take_length] at hm hr hga
  have e1 := gapM_Rs (g := g) h.e (n - g) (fun j h1 h2 => hr j h1 (by omega))
  rw [show g + (n - g) = n by omega] at e1
  refine ⟨?_, ?_⟩
  · rw [formW, baseU_append, baseU_gap, baseU_I, h.lg, base_uw, hn]; rfl
  · rw [formW, mkU_append, mkU_I, h.lg, ← hm, ← e1, gapM]

/-- A form on its way, in memory. -/
structure FM (n : Nat) (w W : World) (pr pb gi gg : Nat) (ins : List ByteArray) (gone : List Bool) : Prop where
  box : W.heap[pb]? = some (.cells #[.slice (some ⟨gi, 0, none⟩) (n + 1) (n + 1), .slice (some ⟨gg, 0, none⟩) n n] 113)
  ir : W.heap[gi]? = some (.cells (ins.map Value.string).toArray 9)
  gr : W.heap[gg]? = some (.cells (gone.map Value.bool).toArray 4)
  res : W.heap[pr]? = some (.cells #[.slice none 0 0, .slice none 0 0] 113)
  ne : pr ≠ pb
  pb0 : w.heap.size ≤ pb
  gi0 : w.heap.size ≤ gi
  gg0 : w.heap.size ≤ gg
  pr0 : w.heap.size ≤ pr
  bel : Below w.heap.size w W

theorem heap_ne {W : World} {p q : Nat} {c d : Array Value} {s t : TypeId} (h : W.heap[p]? = some (.cells c s)) (k : W.heap[q]? = some (.cells d t)) (hne : s ≠ t) : p ≠ q := fun e => by
  subst e
  rw [h] at k
  simp at k
  exact hne k.2
theorem FM.setG {n : Nat} {w W : World} {pr pb gi gg : Nat} {ins : List ByteArray} {gone : List Bool} (h : FM n w W pr pb gi gg ins gone) (j : Nat) : FM n w (W.setCell ⟨gg, j, none⟩ (.bool true)) pr pb gi gg ins (gone.set j true) := by
  have n1 := heap_ne h.box h.gr (by decide)
  have n2 := heap_ne h.ir h.gr (by decide)
  have n3 := heap_ne h.res h.gr (by decide)
  refine ⟨?_, ?_, ?_, ?_, h.ne, h.pb0, h.gi0, h.gg0, h.pr0, below_set h.bel h.gg0 h.bel.size⟩
  · rw [Below.heap_setCell W ⟨gg, j, none⟩ _ pb n1]; exact h.box
  · rw [Below.heap_setCell W ⟨gg, j, none⟩ _ gi n2]; exact h.ir
  · rw [heap_setCell h.gr j _]
    simp
  · rw [Below.heap_setCell W ⟨gg, j, none⟩ _ pr n3]; exact h.res
theorem FM.setI {n : Nat} {w W : World} {pr pb gi gg : Nat} {ins : List ByteArray} {gone : List Bool} (h : FM n w W pr pb gi gg ins gone) (j : Nat) (t : ByteArray) : FM n w (W.setCell ⟨gi, j, none⟩ (.string t)) pr pb gi gg (ins.set j t) gone := by
  have n1 := heap_ne h.box h.ir (by decide)
  have n2 := heap_ne h.gr h.ir (by decide)
  have n3 := heap_ne h.res h.ir (by decide)
  refine ⟨?_, ?_, ?_, ?_, h.ne, h.pb0, h.gi0, h.gg0, h.pr0, below_set h.bel h.gi0 h.bel.size⟩
  · rw [Below.heap_setCell W ⟨gi, j, none⟩ _ pb n1]; exact h.box
  · rw [heap_setCell h.ir j _]
    simp
  · rw [Below.heap_setCell W ⟨gi, j, none⟩ _ gg n2]; exact h.gr
  · rw [Below.heap_setCell W ⟨gi, j, none⟩ _ pr n3]; exact h.res
theorem FM.drew {n : Nat} {w W : World} {pr pb gi gg : Nat} {ins : List ByteArray} {gone : List Bool} (h : FM n w W pr pb gi gg ins gone) : FM n w W.drew pr pb gi gg ins gone :=
  ⟨h.box, h.ir, h.gr, h.res, h.ne, h.pb0, h.gi0, h.gg0, h.pr0, h.bel.drew⟩
end Go.Proofs.YtcdnlkhjlgaaoaaGreatDoor
