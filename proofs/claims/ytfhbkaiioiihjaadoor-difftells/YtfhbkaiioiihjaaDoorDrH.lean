/-
  The walk of the reference's Built.
-/
import Derived.Test.YtfhbkaiioiihjaaDoorDrG
namespace Go.Proofs.YtfhbkaiioiihjaaDoor
open Go.ChangeShapes Go.WideShapes Go.ChangeAt Go.RowKit Go.PlainAid

theorem mk_empty (l : List UInt8) : (mk l).size = 0 ↔ l = [] := by rw [mk_size]; exact List.length_eq_zero_iff
theorem outP_bd {τ : JU} {n : Nat} (h : τ.kept ≤ n ∧ τ.gone ≤ n ∧ τ.D.length ≤ 3 * n ∧ ∀ s ∈ τ.D, s.op.n ≤ n) : (τ.outP.map PS.op).length ≤ 3 * n + 1 ∧ ∀ o ∈ τ.outP.map PS.op, o.n ≤ n := by
  unfold JU.outP
  refine ⟨?_, fun o ho => ?_⟩
  · rw [List.length_map, List.length_append]
    split <;> simp <;> omega
  · obtain ⟨s, hs, rfl⟩ := List.mem_map.1 ho
    rcases List.mem_append.1 hs with hs | hs
    · exact h.2.2.2 s hs
    · split at hs
      · simp at hs; subst hs; simp only [PS.op, PS.st, St.op]; omega
      · simp at hs

theorem bnd1 {A : List OpD} {k : Nat} {x : OpD} (h : ∀ o ∈ A, o.n ≤ (k : Int)) (hk : k ≤ 1001) (hx : x.n ≤ 100000) : ∀ o ∈ A ++ [x], o.n ≤ 100000 := by
  intro o ho
  rcases List.mem_append.1 ho with h1 | h1
  · have := h o h1; omega
  · simp at h1; subst h1; exact hx
theorem bnd2 {A : List OpD} {k : Nat} {x y : OpD} (h : ∀ o ∈ A, o.n ≤ (k : Int)) (hk : k ≤ 1001) (hx : x.n ≤ 100000) (hy : y.n ≤ 100000) : ∀ o ∈ A ++ [x] ++ [y], o.n ≤ 100000 := by
  intro o ho
  rcases List.mem_append.1 ho with h1 | h1
  · exact bnd1 h hk hx o h1
  · simp at h1; subst h1; exact hy
theorem putTo_keep {D : List PS} {kept : Nat} {put : List Int} (h : JU.Ok ⟨D, kept, put, 0⟩) : PutTo ((JU.outP ⟨D, kept, put, 0⟩).map PS.op) ⟨1, 1, ⟨#[]⟩⟩ ((JU.outP ⟨D, kept + 1, [], 0⟩).map PS.op) := by
  unfold JU.outP
  simp only
  rw [if_pos (show 0 < kept + 1 by omega), List.map_append, List.map_append]
  by_cases h0 : 0 < kept
  · rw [if_pos h0]
    exact .join (D.map PS.op) kept
  · have hD : D = [] := h.z (by simp only; omega)
    have hk : kept = 0 := by omega
    subst hD; subst hk
    exact .nil _
section
variable {D : List PS} {kept gn : Nat} {put p' : List Int}
theorem out_eq11 (h1 : 0 < p'.length) (h2 : 0 < gn) : (JU.out ⟨D, kept, p', gn⟩).map PS.op = (JU.outP ⟨D, kept, put, gn⟩).map PS.op ++ [⟨2, 0, mk (enc p')⟩] ++ [⟨3, (gn : Int), ⟨#[]⟩⟩] := by
  simp only [JU.out, JU.outP, flushP, if_pos h1, if_pos h2, List.map_append, List.append_assoc]; rfl
theorem out_eq10 (h1 : 0 < p'.length) (_h2 : (0 : Nat) ≤ 0) : (JU.out ⟨D, kept, p', 0⟩).map PS.op = (JU.outP ⟨D, kept, put, 0⟩).map PS.op ++ [⟨2, 0, mk (enc p')⟩] := by
  simp only [JU.out, JU.outP, flushP, if_pos h1, if_neg (Nat.lt_irrefl 0), List.map_append, List.append_assoc, List.append_nil]; rfl
theorem out_eq01 (_h1 : (0 : Nat) ≤ 0) (h2 : 0 < gn) : (JU.out ⟨D, kept, [], gn⟩).map PS.op = (JU.outP ⟨D, kept, put, gn⟩).map PS.op ++ [⟨3, (gn : Int), ⟨#[]⟩⟩] := by
  simp only [JU.out, JU.outP, flushP, List.length_nil, if_neg (Nat.lt_irrefl 0), if_pos h2, List.map_append, List.append_assoc, List.nil_append]; rfl
theorem out_eq00 (_h1 : (0 : Nat) ≤ 0) (_h2 : (0 : Nat) ≤ 0) : (JU.out ⟨D, kept, [], 0⟩).map PS.op = (JU.outP ⟨D, kept, put, 0⟩).map PS.op := by
  simp only [JU.out, JU.outP, flushP, List.length_nil, if_neg (Nat.lt_irrefl 0), List.append_nil]
theorem outK (E : List PS) : (JU.outP ⟨E, 1, [], 0⟩).map PS.op = E.map PS.op ++ [⟨1, 1, ⟨#[]⟩⟩] := by
  simp only [JU.outP, if_pos (show 0 < 1 by decide), List.map_append]; rfl
theorem outK_eq11 (h1 : 0 < p'.length) (h2 : 0 < gn) : (JU.outP ⟨D ++ flushP kept p' gn, 1, [], 0⟩).map PS.op = (JU.outP ⟨D, kept, put, gn⟩).map PS.op ++ [⟨2, 0, mk (enc p')⟩] ++ [⟨3, (gn : Int), ⟨#[]⟩⟩] ++ [⟨1, 1, ⟨#[]⟩⟩] := by
  rw [outK, ← out_eq11 h1 h2]; rfl
theorem outK_eq10 (h1 : 0 < p'.length) (h2 : (0 : Nat) ≤ 0) : (JU.outP ⟨D ++ flushP kept p' 0, 1, [], 0⟩).map PS.op = (JU.outP ⟨D, kept, put, 0⟩).map PS.op ++ [⟨2, 0, mk (enc p')⟩] ++ [⟨1, 1, ⟨#[]⟩⟩] := by
  rw [outK, ← out_eq10 h1 h2]; rfl
theorem outK_eq01 (h1 : (0 : Nat) ≤ 0) (h2 : 0 < gn) : (JU.outP ⟨D ++ flushP kept [] gn, 1, [], 0⟩).map PS.op = (JU.outP ⟨D, kept, put, gn⟩).map PS.op ++ [⟨3, (gn : Int), ⟨#[]⟩⟩] ++ [⟨1, 1, ⟨#[]⟩⟩] := by
  rw [outK, ← out_eq01 h1 h2]; rfl
end

set_option maxRecDepth 20000 in
set_option maxHeartbeats 8000000 in
theorem built_any (vi vg : Value) (ins : List ByteArray) (gone : List Bool) (w : World) (hi : RdV w vi (ins.map Value.string)) (hg : RdV w vg (gone.map Value.bool)) (hl : ins.length = gone.length + 1) (hn : gone.length ≤ 1000) (hv : ∀ t ∈ ins, 0 ≤ cpl t ∧ t.size ≤ 1048576) :
    Calls Tryd.prog 23 #[.agg #[vi, vg]] w fun e w' => ∃ u, e = .returned u ∧ w'.ownsRow w.heap.size 60 3 u (nfU (formW ins gone)).length (ocs ((nfU (formW ins gone)).map PS.op)) ∧ Below w.heap.size w w' := by
  obtain ⟨io, ic, rfl, hic⟩ := hi
  obtain ⟨go, gc, rfl, hgc⟩ := hg
  rw [List.length_map] at *
  rw [List.length_map]
  rw [hl]
  have hbx : (w.alloc (.cells #[.slice io (gone.length + 1) ic, .slice go gone.length gc] 55)).heap[w.heap.size]? = some (.cells #[.slice io (gone.length + 1) ic, .slice go gone.length gc] 55) := heap_alloc_new w _
  have hbx0 : (w.alloc (.cells #[.slice io (gone.length + 1) ic, .slice go gone.length gc] 55)).cell? ⟨w.heap.size, 0, none⟩ = some (.slice io (gone.length + 1) ic) := cell_of_row _ _ 0 _ _ (0, 0) hbx
  have hbx1 : (w.alloc (.cells #[.slice io (gone.length + 1) ic, .slice go gone.length gc] 55)).cell? ⟨w.heap.size, 1, none⟩ = some (.slice go gone.length gc) := cell_of_row _ _ 1 _ _ (0, 0) hbx
  have hB0 : Below (w.heap.size + 1) (w.alloc (.cells #[.slice io (gone.length + 1) ic, .slice go gone.length gc] 55)) (w.alloc (.cells #[.slice io (gone.length + 1) ic, .slice go gone.length gc] 55)) := Below.refl _ _
  have hA : Below w.heap.size w (w.alloc (.cells #[.slice io (gone.length + 1) ic, .slice go gone.length gc] 55)) := (Below.refl _ _).alloc (Nat.le_refl _) _
  have hs0 : w.heap.size + 1 ≤ (w.alloc (.cells #[.slice io (gone.length + 1) ic, .slice go gone.length gc] 55)).heap.size := by simp
  clear hbx
  go_enter Tryd.func23, Tryd.ntmps23
  go_wp2
  generalize w.alloc (.cells #[.slice io (gone.length + 1) ic, .slice go gone.length gc] 55) = wb at *
  go_loopw [3, 4, 5, 6] (fun d c g i wr => (∃ k : Nat, k ≤ gone.length ∧ i = .int .i64 (k : Int) ∧ c = .string (mk (enc (ju ⟨[], 0, [], 0⟩ (gapW ins gone k)).put)) ∧ (ju ⟨[], 0, [], 0⟩ (gapW ins gone k)).put.length ≤ 1048576 * k ∧ g = .int .i64 ((ju ⟨[], 0, [], 0⟩ (gapW ins gone k)).gone : Int) ∧ wr.ownsRow (w.heap.size + 1) 60 3 d ((ju ⟨[], 0, [], 0⟩ (gapW ins gone k)).outP.map PS.op).length (ocs ((ju ⟨[], 0, [], 0⟩ (gapW ins gone k)).outP.map PS.op)) ∧ Below (w.heap.size + 1) wb wr ∧ w.heap.size + 1 ≤ wr.heap.size) ∨ (i = .int .i64 ((gone.length : Int) + 1) ∧ wr.ownsRow (w.heap.size + 1) 60 3 d ((nfU (formW ins gone)).map PS.op).length (ocs ((nfU (formW ins gone)).map PS.op)) ∧ Below (w.heap.size + 1) wb wr ∧ w.heap.size + 1 ≤ wr.heap.size)) (fun _ _ _ i _ => gone.length + 1 - (intOf i).toNat)
  case atStart => exact .inl ⟨0, by omega, rfl, rfl, by simp [gapW, ju], rfl, World.ownsRow_nil _ _ _ _, hB0, hs0⟩
  case round =>
    rcases hrel with ⟨k, hk, rfl, rfl, hpl, rfl, ho, hbl, hsz⟩ | ⟨rfl, ho, hbl, hsz⟩
    · have hok : (ju ⟨[], 0, [], 0⟩ (gapW ins gone k)).Ok := ok_ju _ ⟨fun _ => rfl, fun D y e => by simp at e⟩
      have hbd := ju_bd (gapW ins gone k)
      rw [baseU_gap] at hbd
      have hti : ins.getD k ⟨#[]⟩ ∈ ins := by simp [show k < ins.length by omega]
      have hcp := hv _ hti
      have HF : Hid (k = gone.length → nfU (formW ins gone) = (ju (ju ⟨[], 0, [], 0⟩ (gapW ins gone k)) ((pts (ins.getD k ⟨#[]⟩)).map .I)).out) := fun h => by rw [nfU, formW, ju_append, ← h]
      have HG : Hid (ju ⟨[], 0, [], 0⟩ (gapW ins gone (k + 1)) = (ju (ju ⟨[], 0, [], 0⟩ (gapW ins gone k)) ((pts (ins.getD k ⟨#[]⟩)).map .I)).add (if gone.getD k false then .R else .K)) := by
        show _ = _
        rw [gapW, ju_append, ju_append]
        rfl
      obtain ⟨bi, oi, rfl, hbi, ci⟩ := hic k (.string (ins.getD k ⟨#[]⟩)) (by simp [show k < ins.length by omega])
      have hbw : Below w.heap.size w wr := hA.trans (hbl.mono (by omega))
      have c0 := (hbw.cell (p := ⟨bi, oi + k, none⟩) hbi).trans ci
      have q0 := (hbl.cell (p := ⟨w.heap.size, 0, none⟩) (by simp)).trans hbx0
      have q1 := (hbl.cell (p := ⟨w.heap.size, 1, none⟩) (by simp)).trans hbx1
      have HGo : Hid (∀ h : k < gone.length, ∃ bg og, go = some ⟨bg, og, none⟩ ∧ wr.cell? ⟨bg, og + k, none⟩ = some (.bool (gone.getD k false))) := fun h => by
        obtain ⟨bg, og, e, hbg, cg⟩ := hgc k (.bool (gone.getD k false)) (by simp [h])
        exact ⟨bg, og, e, (hbw.cell (p := ⟨bg, og + k, none⟩) hbg).trans cg⟩
      clear hic hgc ci hv hti
      generalize ins.getD k ⟨#[]⟩ = t at *
      generalize ju ⟨[], 0, [], 0⟩ (gapW ins gone k) = τ at *
      have hob := outP_bd hbd
      obtain ⟨D, kept, put, gn⟩ := τ
      rw [ju_I] at HF HG
      simp only at *
      have hpt := pts_len hcp.1
      have hcl := cpl_le t
      obtain ⟨p', hp'⟩ : ∃ p', p' = put ++ pts t := ⟨_, rfl⟩
      have hp'l : p'.length ≤ 1048576 * (k + 1) := by rw [hp', List.length_append]; omega
      have hte := ins_enc hcp.1
      have HC : Hid (mk (enc put ++ t.data.toList) = mk (enc p')) := by show _ = _; rw [hte, ← enc_append, hp']
      have hel := enc_len put
      have hdl := data_len t
      have ha := fun W => pk.add_mk (enc put) t.data.toList W (by omega)
      rw [mk_data, HC.out] at ha
      have hep := enc_pos p'
      rw [← hp'] at HF HG
      have hg1 : (gn : Int) ≤ 1000 := by omega
      have hk1 : (k : Int) ≤ (gone.length : Int) := by omega
      have hgl : (gone.length : Int) ≤ 1000 := by omega
      clear hp' HC hte hel hdl hpt hcl hcp hpl hbd
      by_cases hlt : k < gone.length
      · have hlt' : (k : Int) < (gone.length : Int) := by omega
        obtain ⟨bg, og, rfl, cg⟩ := HGo.out hlt
        clear HGo HF
        cases hgk : gone.getD k false with
        | true =>
          rw [hgk] at cg HG
          have HG' : Hid (ju ⟨[], 0, [], 0⟩ (gapW ins gone (k + 1)) = ⟨D, kept, p', gn + 1⟩) := HG.out
          clear HG hgk hep hob hok
          generalize hC : mk (enc p') = C at *
          go_wp2
          go_roundw
          case rel => exact .inl ⟨k + 1, by omega, by go_num, by rw [HG'.out, hC], by rw [HG'.out]; exact hp'l, by rw [HG'.out]; go_num, by rw [HG'.out]; exact ho, hbl, hsz⟩
          case measure => simp [intOf]; omega
        | false =>
          rw [hgk] at cg HG
          simp only [if_false, Bool.false_eq_true] at HG
          clear hgk
          by_cases cP : 0 < p'.length
          · by_cases cG : (0 : Int) < (gn : Int)
            · have hE := empty_ff (s := mk (enc p')) (by rw [mk_size]; omega)
              have hob1 := hob.1
              have hp2 : PutTo ((JU.outP ⟨D, kept, put, gn⟩).map PS.op) ⟨2, 0, mk (enc p')⟩ (((JU.outP ⟨D, kept, put, gn⟩).map PS.op) ++ [⟨2, 0, mk (enc p')⟩]) := putTo_ins hok _ (show (2 : Int) ≠ 1 by decide)
              have hP2 := fun W d h1 h2 => put_any (w.heap.size + 1) d ((JU.outP ⟨D, kept, put, gn⟩).map PS.op) ⟨2, 0, mk (enc p')⟩ (((JU.outP ⟨D, kept, put, gn⟩).map PS.op) ++ [⟨2, 0, mk (enc p')⟩]) W h1 (by omega) (fun o ho => by have := hob.2 o ho; omega) h2 hp2
              have hp3 : PutTo (((JU.outP ⟨D, kept, put, gn⟩).map PS.op) ++ [⟨2, 0, mk (enc p')⟩]) ⟨3, (gn : Int), ⟨#[]⟩⟩ ((((JU.outP ⟨D, kept, put, gn⟩).map PS.op) ++ [⟨2, 0, mk (enc p')⟩]) ++ [⟨3, (gn : Int), ⟨#[]⟩⟩]) := .new _ _ _ (by simp)
              have hP3 := fun W d h1 h2 => put_any (w.heap.size + 1) d (((JU.outP ⟨D, kept, put, gn⟩).map PS.op) ++ [⟨2, 0, mk (enc p')⟩]) ⟨3, (gn : Int), ⟨#[]⟩⟩ ((((JU.outP ⟨D, kept, put, gn⟩).map PS.op) ++ [⟨2, 0, mk (enc p')⟩]) ++ [⟨3, (gn : Int), ⟨#[]⟩⟩]) W h1 (by (try simp only [List.length_append, List.length_cons, List.length_nil]); omega) (fun o ho => bnd1 hob.2 (by omega) (by simp) o ho) h2 hp3
              have hp1 : PutTo ((((JU.outP ⟨D, kept, put, gn⟩).map PS.op) ++ [⟨2, 0, mk (enc p')⟩]) ++ [⟨3, (gn : Int), ⟨#[]⟩⟩]) ⟨1, 1, ⟨#[]⟩⟩ (((((JU.outP ⟨D, kept, put, gn⟩).map PS.op) ++ [⟨2, 0, mk (enc p')⟩]) ++ [⟨3, (gn : Int), ⟨#[]⟩⟩]) ++ [⟨1, 1, ⟨#[]⟩⟩]) := .new _ _ _ (by simp)
              have hP1 := fun W d h1 h2 => put_any (w.heap.size + 1) d ((((JU.outP ⟨D, kept, put, gn⟩).map PS.op) ++ [⟨2, 0, mk (enc p')⟩]) ++ [⟨3, (gn : Int), ⟨#[]⟩⟩]) ⟨1, 1, ⟨#[]⟩⟩ (((((JU.outP ⟨D, kept, put, gn⟩).map PS.op) ++ [⟨2, 0, mk (enc p')⟩]) ++ [⟨3, (gn : Int), ⟨#[]⟩⟩]) ++ [⟨1, 1, ⟨#[]⟩⟩]) W h1 (by (try simp only [List.length_append, List.length_cons, List.length_nil]); omega) (fun o ho => bnd2 hob.2 (by omega) (by simp) (by simp; omega) o ho) h2 hp1
              have HG' : Hid (ju ⟨[], 0, [], 0⟩ (gapW ins gone (k + 1)) = ⟨D ++ flushP kept p' gn, 1, [], 0⟩) := by show _ = _; rw [HG.out, JU.add, if_pos (by simp only; omega)]
              have HL : Hid ((JU.outP ⟨D ++ flushP kept p' gn, 1, [], 0⟩).map PS.op = (((((JU.outP ⟨D, kept, put, gn⟩).map PS.op) ++ [⟨2, 0, mk (enc p')⟩]) ++ [⟨3, (gn : Int), ⟨#[]⟩⟩]) ++ [⟨1, 1, ⟨#[]⟩⟩])) := by show _ = _; exact outK_eq11 (by omega) (by omega)
              clear HG
              clear hok hob hob1 hep hp2 hp3 hp1
              generalize ((JU.outP ⟨D, kept, put, gn⟩).map PS.op) = O at *
              generalize mk (enc p') = C at *
              go_wp2_with fail
              refine (hP2 _ _ hsz ho).mono ?_
              rintro e wA ⟨uA, rfl, hoA, hbA⟩
              have hbl := hbl.trans hbA
              have hsz := Nat.le_trans hsz hbA.size
              have ho := hoA
              have q1 := (hbl.cell (p := ⟨w.heap.size, 1, none⟩) (by simp)).trans hbx1
              clear hoA hbA hP2
              go_wp2_with fail
              refine (hP3 _ _ hsz ho).mono ?_
              rintro e wA ⟨uA, rfl, hoA, hbA⟩
              have hbl := hbl.trans hbA
              have hsz := Nat.le_trans hsz hbA.size
              have ho := hoA
              have q1 := (hbl.cell (p := ⟨w.heap.size, 1, none⟩) (by simp)).trans hbx1
              clear hoA hbA hP3
              go_wp2_with fail
              refine (hP1 _ _ hsz ho).mono ?_
              rintro e wA ⟨uA, rfl, hoA, hbA⟩
              have hbl := hbl.trans hbA
              have hsz := Nat.le_trans hsz hbA.size
              have ho := hoA
              have q1 := (hbl.cell (p := ⟨w.heap.size, 1, none⟩) (by simp)).trans hbx1
              clear hoA hbA hP1
              go_wp2_with fail
              go_roundw
              case rel => exact .inl ⟨k + 1, by omega, by go_num, by rw [HG'.out]; rfl, by rw [HG'.out]; simp, by rw [HG'.out]; rfl, by rw [HG'.out, HL.out]; exact ho, hbl, hsz⟩
              case measure => simp [intOf]; omega
            · obtain rfl : gn = 0 := by omega
              have hE := empty_ff (s := mk (enc p')) (by rw [mk_size]; omega)
              have hob1 := hob.1
              have hp2 : PutTo ((JU.outP ⟨D, kept, put, 0⟩).map PS.op) ⟨2, 0, mk (enc p')⟩ (((JU.outP ⟨D, kept, put, 0⟩).map PS.op) ++ [⟨2, 0, mk (enc p')⟩]) := putTo_ins hok _ (show (2 : Int) ≠ 1 by decide)
              have hP2 := fun W d h1 h2 => put_any (w.heap.size + 1) d ((JU.outP ⟨D, kept, put, 0⟩).map PS.op) ⟨2, 0, mk (enc p')⟩ (((JU.outP ⟨D, kept, put, 0⟩).map PS.op) ++ [⟨2, 0, mk (enc p')⟩]) W h1 (by omega) (fun o ho => by have := hob.2 o ho; omega) h2 hp2
              have hp1 : PutTo (((JU.outP ⟨D, kept, put, 0⟩).map PS.op) ++ [⟨2, 0, mk (enc p')⟩]) ⟨1, 1, ⟨#[]⟩⟩ ((((JU.outP ⟨D, kept, put, 0⟩).map PS.op) ++ [⟨2, 0, mk (enc p')⟩]) ++ [⟨1, 1, ⟨#[]⟩⟩]) := .new _ _ _ (by simp)
              have hP1 := fun W d h1 h2 => put_any (w.heap.size + 1) d (((JU.outP ⟨D, kept, put, 0⟩).map PS.op) ++ [⟨2, 0, mk (enc p')⟩]) ⟨1, 1, ⟨#[]⟩⟩ ((((JU.outP ⟨D, kept, put, 0⟩).map PS.op) ++ [⟨2, 0, mk (enc p')⟩]) ++ [⟨1, 1, ⟨#[]⟩⟩]) W h1 (by (try simp only [List.length_append, List.length_cons, List.length_nil]); omega) (fun o ho => bnd1 hob.2 (by omega) (by simp) o ho) h2 hp1
              have HG' : Hid (ju ⟨[], 0, [], 0⟩ (gapW ins gone (k + 1)) = ⟨D ++ flushP kept p' 0, 1, [], 0⟩) := by show _ = _; rw [HG.out, JU.add, if_pos (by simp only; omega)]
              have HL : Hid ((JU.outP ⟨D ++ flushP kept p' 0, 1, [], 0⟩).map PS.op = ((((JU.outP ⟨D, kept, put, 0⟩).map PS.op) ++ [⟨2, 0, mk (enc p')⟩]) ++ [⟨1, 1, ⟨#[]⟩⟩])) := by show _ = _; exact outK_eq10 (by omega) (by omega)
              clear HG
              clear hok hob hob1 hep hp2 hp1
              generalize ((JU.outP ⟨D, kept, put, 0⟩).map PS.op) = O at *
              generalize mk (enc p') = C at *
              go_wp2_with fail
              refine (hP2 _ _ hsz ho).mono ?_
              rintro e wA ⟨uA, rfl, hoA, hbA⟩
              have hbl := hbl.trans hbA
              have hsz := Nat.le_trans hsz hbA.size
              have ho := hoA
              have q1 := (hbl.cell (p := ⟨w.heap.size, 1, none⟩) (by simp)).trans hbx1
              clear hoA hbA hP2
              go_wp2_with fail
              refine (hP1 _ _ hsz ho).mono ?_
              rintro e wA ⟨uA, rfl, hoA, hbA⟩
              have hbl := hbl.trans hbA
              have hsz := Nat.le_trans hsz hbA.size
              have ho := hoA
              have q1 := (hbl.cell (p := ⟨w.heap.size, 1, none⟩) (by simp)).trans hbx1
              clear hoA hbA hP1
              go_wp2_with fail
              go_roundw
              case rel => exact .inl ⟨k + 1, by omega, by go_num, by rw [HG'.out]; rfl, by rw [HG'.out]; simp, by rw [HG'.out]; rfl, by rw [HG'.out, HL.out]; exact ho, hbl, hsz⟩
              case measure => simp [intOf]; omega
          · by_cases cG : (0 : Int) < (gn : Int)
            · have hp0 : p' = [] := List.eq_nil_of_length_eq_zero (by omega)
              subst hp0
              have hE := empty_tt (s := mk (enc [])) (by rw [mk_size]; omega)
              have hob1 := hob.1
              have hp3 : PutTo ((JU.outP ⟨D, kept, put, gn⟩).map PS.op) ⟨3, (gn : Int), ⟨#[]⟩⟩ (((JU.outP ⟨D, kept, put, gn⟩).map PS.op) ++ [⟨3, (gn : Int), ⟨#[]⟩⟩]) := putTo_ins hok _ (show (3 : Int) ≠ 1 by decide)
              have hP3 := fun W d h1 h2 => put_any (w.heap.size + 1) d ((JU.outP ⟨D, kept, put, gn⟩).map PS.op) ⟨3, (gn : Int), ⟨#[]⟩⟩ (((JU.outP ⟨D, kept, put, gn⟩).map PS.op) ++ [⟨3, (gn : Int), ⟨#[]⟩⟩]) W h1 (by (try simp only [List.length_append, List.length_cons, List.length_nil]); omega) (fun o ho => by have := hob.2 o ho; omega) h2 hp3
              have hp1 : PutTo (((JU.outP ⟨D, kept, put, gn⟩).map PS.op) ++ [⟨3, (gn : Int), ⟨#[]⟩⟩]) ⟨1, 1, ⟨#[]⟩⟩ ((((JU.outP ⟨D, kept, put, gn⟩).map PS.op) ++ [⟨3, (gn : Int), ⟨#[]⟩⟩]) ++ [⟨1, 1, ⟨#[]⟩⟩]) := .new _ _ _ (by simp)
              have hP1 := fun W d h1 h2 => put_any (w.heap.size + 1) d (((JU.outP ⟨D, kept, put, gn⟩).map PS.op) ++ [⟨3, (gn : Int), ⟨#[]⟩⟩]) ⟨1, 1, ⟨#[]⟩⟩ ((((JU.outP ⟨D, kept, put, gn⟩).map PS.op) ++ [⟨3, (gn : Int), ⟨#[]⟩⟩]) ++ [⟨1, 1, ⟨#[]⟩⟩]) W h1 (by (try simp only [List.length_append, List.length_cons, List.length_nil]); omega) (fun o ho => bnd1 hob.2 (by omega) (by simp; omega) o ho) h2 hp1
              have HG' : Hid (ju ⟨[], 0, [], 0⟩ (gapW ins gone (k + 1)) = ⟨D ++ flushP kept [] gn, 1, [], 0⟩) := by show _ = _; rw [HG.out, JU.add, if_pos (by simp only; omega)]
              have HL : Hid ((JU.outP ⟨D ++ flushP kept [] gn, 1, [], 0⟩).map PS.op = ((((JU.outP ⟨D, kept, put, gn⟩).map PS.op) ++ [⟨3, (gn : Int), ⟨#[]⟩⟩]) ++ [⟨1, 1, ⟨#[]⟩⟩])) := by show _ = _; exact outK_eq01 (by omega) (by omega)
              clear HG
              clear hok hob hob1 hep hp3 hp1
              generalize ((JU.outP ⟨D, kept, put, gn⟩).map PS.op) = O at *
              generalize mk (enc []) = C at *
              go_wp2_with fail
              refine (hP3 _ _ hsz ho).mono ?_
              rintro e wA ⟨uA, rfl, hoA, hbA⟩
              have hbl := hbl.trans hbA
              have hsz := Nat.le_trans hsz hbA.size
              have ho := hoA
              have q1 := (hbl.cell (p := ⟨w.heap.size, 1, none⟩) (by simp)).trans hbx1
              clear hoA hbA hP3
              go_wp2_with fail
              refine (hP1 _ _ hsz ho).mono ?_
              rintro e wA ⟨uA, rfl, hoA, hbA⟩
              have hbl := hbl.trans hbA
              have hsz := Nat.le_trans hsz hbA.size
              have ho := hoA
              have q1 := (hbl.cell (p := ⟨w.heap.size, 1, none⟩) (by simp)).trans hbx1
              clear hoA hbA hP1
              go_wp2_with fail
              go_roundw
              case rel => exact .inl ⟨k + 1, by omega, by go_num, by rw [HG'.out]; rfl, by rw [HG'.out]; simp, by rw [HG'.out]; rfl, by rw [HG'.out, HL.out]; exact ho, hbl, hsz⟩
              case measure => simp [intOf]; omega
            · have hp0 : p' = [] := List.eq_nil_of_length_eq_zero (by omega)
              subst hp0
              obtain rfl : gn = 0 := by omega
              have hE := empty_tt (s := mk (enc [])) (by rw [mk_size]; omega)
              have hob1 := hob.1
              have hp1 : PutTo ((JU.outP ⟨D, kept, put, 0⟩).map PS.op) ⟨1, 1, ⟨#[]⟩⟩ ((JU.outP ⟨D, kept + 1, [], 0⟩).map PS.op) := putTo_keep hok
              have hP1 := fun W d h1 h2 => put_any (w.heap.size + 1) d ((JU.outP ⟨D, kept, put, 0⟩).map PS.op) ⟨1, 1, ⟨#[]⟩⟩ ((JU.outP ⟨D, kept + 1, [], 0⟩).map PS.op) W h1 (by omega) (fun o ho => by have := hob.2 o ho; omega) h2 hp1
              have HG' : Hid (ju ⟨[], 0, [], 0⟩ (gapW ins gone (k + 1)) = ⟨D, kept + 1, [], 0⟩) := by show _ = _; rw [HG.out, JU.add, if_neg (by simp only; omega)]
              clear HG
              clear hok hob hob1 hep hp1
              generalize ((JU.outP ⟨D, kept, put, 0⟩).map PS.op) = O at *
              generalize mk (enc []) = C at *
              go_wp2_with fail
              refine (hP1 _ _ hsz ho).mono ?_
              rintro e wA ⟨uA, rfl, hoA, hbA⟩
              have hbl := hbl.trans hbA
              have hsz := Nat.le_trans hsz hbA.size
              have ho := hoA
              have q1 := (hbl.cell (p := ⟨w.heap.size, 1, none⟩) (by simp)).trans hbx1
              clear hoA hbA hP1
              go_wp2_with fail
              go_roundw
              case rel => exact .inl ⟨k + 1, by omega, by go_num, by rw [HG'.out]; rfl, by rw [HG'.out]; simp, by rw [HG'.out]; rfl, by rw [HG'.out]; exact ho, hbl, hsz⟩
              case measure => simp [intOf]; omega
      · have hke : k = gone.length := by omega
        have hkn : ¬ (k : Int) < (gone.length : Int) := by omega
        have HKe : Hid (k = gone.length) := hke
        have HF' : Hid (nfU (formW ins gone) = JU.out ⟨D, kept, p', gn⟩) := HF.out hke
        clear HG HF HGo hlt hke
        by_cases cP : 0 < p'.length
        · by_cases cG : (0 : Int) < (gn : Int)
          · have hE := empty_ff (s := mk (enc p')) (by rw [mk_size]; omega)
            have hob1 := hob.1
            have hp2 : PutTo ((JU.outP ⟨D, kept, put, gn⟩).map PS.op) ⟨2, 0, mk (enc p')⟩ (((JU.outP ⟨D, kept, put, gn⟩).map PS.op) ++ [⟨2, 0, mk (enc p')⟩]) := putTo_ins hok _ (show (2 : Int) ≠ 1 by decide)
            have hP2 := fun W d h1 h2 => put_any (w.heap.size + 1) d ((JU.outP ⟨D, kept, put, gn⟩).map PS.op) ⟨2, 0, mk (enc p')⟩ (((JU.outP ⟨D, kept, put, gn⟩).map PS.op) ++ [⟨2, 0, mk (enc p')⟩]) W h1 (by omega) (fun o ho => by have := hob.2 o ho; omega) h2 hp2
            have hp3 : PutTo (((JU.outP ⟨D, kept, put, gn⟩).map PS.op) ++ [⟨2, 0, mk (enc p')⟩]) ⟨3, (gn : Int), ⟨#[]⟩⟩ ((((JU.outP ⟨D, kept, put, gn⟩).map PS.op) ++ [⟨2, 0, mk (enc p')⟩]) ++ [⟨3, (gn : Int), ⟨#[]⟩⟩]) := .new _ _ _ (by simp)
            have hP3 := fun W d h1 h2 => put_any (w.heap.size + 1) d (((JU.outP ⟨D, kept, put, gn⟩).map PS.op) ++ [⟨2, 0, mk (enc p')⟩]) ⟨3, (gn : Int), ⟨#[]⟩⟩ ((((JU.outP ⟨D, kept, put, gn⟩).map PS.op) ++ [⟨2, 0, mk (enc p')⟩]) ++ [⟨3, (gn : Int), ⟨#[]⟩⟩]) W h1 (by (try simp only [List.length_append, List.length_cons, List.length_nil]); omega) (fun o ho => bnd1 hob.2 (by omega) (by simp) o ho) h2 hp3
            have HL : Hid ((nfU (formW ins gone)).map PS.op = ((((JU.outP ⟨D, kept, put, gn⟩).map PS.op) ++ [⟨2, 0, mk (enc p')⟩]) ++ [⟨3, (gn : Int), ⟨#[]⟩⟩])) := by show _ = _; rw [HF'.out]; exact out_eq11 (by omega) (by omega)
            clear HF'
            clear hok hob hob1 hep hp2 hp3
            generalize ((JU.outP ⟨D, kept, put, gn⟩).map PS.op) = O at *
            generalize mk (enc p') = C at *
            go_wp2_with fail
            refine (hP2 _ _ hsz ho).mono ?_
            rintro e wA ⟨uA, rfl, hoA, hbA⟩
            have hbl := hbl.trans hbA
            have hsz := Nat.le_trans hsz hbA.size
            have ho := hoA
            have q1 := (hbl.cell (p := ⟨w.heap.size, 1, none⟩) (by simp)).trans hbx1
            clear hoA hbA hP2
            go_wp2_with fail
            refine (hP3 _ _ hsz ho).mono ?_
            rintro e wA ⟨uA, rfl, hoA, hbA⟩
            have hbl := hbl.trans hbA
            have hsz := Nat.le_trans hsz hbA.size
            have ho := hoA
            have q1 := (hbl.cell (p := ⟨w.heap.size, 1, none⟩) (by simp)).trans hbx1
            clear hoA hbA hP3
            go_wp2_with fail
            go_roundw
            case rel => exact .inr ⟨by rw [HKe.out], by rw [HL.out]; exact ho, hbl, hsz⟩
            case measure => simp [intOf]; omega
          · obtain rfl : gn = 0 := by omega
            have hE := empty_ff (s := mk (enc p')) (by rw [mk_size]; omega)
            have hob1 := hob.1
            have hp2 : PutTo ((JU.outP ⟨D, kept, put, 0⟩).map PS.op) ⟨2, 0, mk (enc p')⟩ (((JU.outP ⟨D, kept, put, 0⟩).map PS.op) ++ [⟨2, 0, mk (enc p')⟩]) := putTo_ins hok _ (show (2 : Int) ≠ 1 by decide)
            have hP2 := fun W d h1 h2 => put_any (w.heap.size + 1) d ((JU.outP ⟨D, kept, put, 0⟩).map PS.op) ⟨2, 0, mk (enc p')⟩ (((JU.outP ⟨D, kept, put, 0⟩).map PS.op) ++ [⟨2, 0, mk (enc p')⟩]) W h1 (by omega) (fun o ho => by have := hob.2 o ho; omega) h2 hp2
            have HL : Hid ((nfU (formW ins gone)).map PS.op = (((JU.outP ⟨D, kept, put, 0⟩).map PS.op) ++ [⟨2, 0, mk (enc p')⟩])) := by show _ = _; rw [HF'.out]; exact out_eq10 (by omega) (by omega)
            clear HF'
            clear hok hob hob1 hep hp2
            generalize ((JU.outP ⟨D, kept, put, 0⟩).map PS.op) = O at *
            generalize mk (enc p') = C at *
            go_wp2_with fail
            refine (hP2 _ _ hsz ho).mono ?_
            rintro e wA ⟨uA, rfl, hoA, hbA⟩
            have hbl := hbl.trans hbA
            have hsz := Nat.le_trans hsz hbA.size
            have ho := hoA
            have q1 := (hbl.cell (p := ⟨w.heap.size, 1, none⟩) (by simp)).trans hbx1
            clear hoA hbA hP2
            go_wp2_with fail
            go_roundw
            case rel => exact .inr ⟨by rw [HKe.out], by rw [HL.out]; exact ho, hbl, hsz⟩
            case measure => simp [intOf]; omega
        · by_cases cG : (0 : Int) < (gn : Int)
          · have hp0 : p' = [] := List.eq_nil_of_length_eq_zero (by omega)
            subst hp0
            have hE := empty_tt (s := mk (enc [])) (by rw [mk_size]; omega)
            have hob1 := hob.1
            have hp3 : PutTo ((JU.outP ⟨D, kept, put, gn⟩).map PS.op) ⟨3, (gn : Int), ⟨#[]⟩⟩ (((JU.outP ⟨D, kept, put, gn⟩).map PS.op) ++ [⟨3, (gn : Int), ⟨#[]⟩⟩]) := putTo_ins hok _ (show (3 : Int) ≠ 1 by decide)
            have hP3 := fun W d h1 h2 => put_any (w.heap.size + 1) d ((JU.outP ⟨D, kept, put, gn⟩).map PS.op) ⟨3, (gn : Int), ⟨#[]⟩⟩ (((JU.outP ⟨D, kept, put, gn⟩).map PS.op) ++ [⟨3, (gn : Int), ⟨#[]⟩⟩]) W h1 (by (try simp only [List.length_append, List.length_cons, List.length_nil]); omega) (fun o ho => by have := hob.2 o ho; omega) h2 hp3
            have HL : Hid ((nfU (formW ins gone)).map PS.op = (((JU.outP ⟨D, kept, put, gn⟩).map PS.op) ++ [⟨3, (gn : Int), ⟨#[]⟩⟩])) := by show _ = _; rw [HF'.out]; exact out_eq01 (by omega) (by omega)
            clear HF'
            clear hok hob hob1 hep hp3
            generalize ((JU.outP ⟨D, kept, put, gn⟩).map PS.op) = O at *
            generalize mk (enc []) = C at *
            go_wp2_with fail
            refine (hP3 _ _ hsz ho).mono ?_
            rintro e wA ⟨uA, rfl, hoA, hbA⟩
            have hbl := hbl.trans hbA
            have hsz := Nat.le_trans hsz hbA.size
            have ho := hoA
            have q1 := (hbl.cell (p := ⟨w.heap.size, 1, none⟩) (by simp)).trans hbx1
            clear hoA hbA hP3
            go_wp2_with fail
            go_roundw
            case rel => exact .inr ⟨by rw [HKe.out], by rw [HL.out]; exact ho, hbl, hsz⟩
            case measure => simp [intOf]; omega
          · have hp0 : p' = [] := List.eq_nil_of_length_eq_zero (by omega)
            subst hp0
            obtain rfl : gn = 0 := by omega
            have hE := empty_tt (s := mk (enc [])) (by rw [mk_size]; omega)
            have hob1 := hob.1
            have HL : Hid ((nfU (formW ins gone)).map PS.op = ((JU.outP ⟨D, kept, put, 0⟩).map PS.op)) := by show _ = _; rw [HF'.out]; exact out_eq00 (by omega) (by omega)
            clear HF'
            clear hok hob hob1 hep
            generalize ((JU.outP ⟨D, kept, put, 0⟩).map PS.op) = O at *
            generalize mk (enc []) = C at *
            go_wp2
            go_roundw
            case rel => exact .inr ⟨by rw [HKe.out], by rw [HL.out]; exact ho, hbl, hsz⟩
            case measure => simp [intOf]; omega
    · have h1 : ¬ (gone.length : Int) + 1 ≤ (gone.length : Int) := by omega
      have q1 := (hbl.cell (p := ⟨w.heap.size, 1, none⟩) (by simp)).trans hbx1
      have hgl : (gone.length : Int) ≤ 1000 := by omega
      clear hic hgc hv
      go_wp2
      go_ret
      rw [List.length_map] at ho
      exact ⟨_, rfl, own_lower ho (by omega), hA.trans (hbl.mono (by omega))⟩
end Go.Proofs.YtfhbkaiioiihjaaDoor
