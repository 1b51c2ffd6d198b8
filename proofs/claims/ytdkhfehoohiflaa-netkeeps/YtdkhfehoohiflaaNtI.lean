/-
  The contract of slices.Delete, of one letter.
-/
import Derived.Test.YtdkhfehoohiflaaNtH
namespace Go.Proofs.Ytdkhfehoohiflaa.nt
open Go.Maps Go.WideShapes Go.RowKit Go.ChangeShapes Go.ChangeAt Go.PlainAid

/-- append where there is room, in a row that is known whole, at a step of a region that draws. -/
theorem step_app_row {P : Program} {ops : Array Oper} {o : Oper} {a : Act} {w : World} {K : Act → World → Prop} {Q : Exit → Act → World → Prop} {E : Prop}
    (hg : o.guard = none) (s x : Operand) (t : TypeId) (hop : o.op = Op.call { callee := Callee.builtin Builtin.append, args := #[s, x], argTypes := #[t, t] })
    (e : TypeId) (i : TypeInfo) (h1 : P.underlying t = some (.slice e)) (h2 : P.info? e = some i)
    (g n cap : Nat) (cur : Array Value) (hs : a.eval s = .slice (some ⟨g, 0, none⟩) n cap) (hgg : w.heap[g]? = some (.cells cur e (0, 0)))
    (ad : Addr) (m c : Nat) (news : List Value) (hx : a.eval x = .slice (some ad) m c) (hn : news.length = m * i.size) (hc : ∀ j u, news[j]? = some u → w.cell? (ad.add j) = some u) (h1c : ∀ u ∈ news, u.oneCell' = true)
    (hroom : n + m ≤ cap) (hfit : n * i.size + news.length ≤ cur.size)
    (hK : K (a.put o.dst (.slice (some ⟨g, 0, none⟩) (n + m) cap)) (w.setRow g (cur.toList.take (n * i.size) ++ news ++ cur.toList.drop (n * i.size + news.length)).toArray)) :
    if Region.wanted o (yielded ops a.tmps) = true then Oper.wp P o a w K Q else E := by
  have hw : Region.wanted o (yielded ops a.tmps) = true := by simp [Region.wanted, hg]
  rw [if_pos hw]
  have hrun := run_append_room (P := P) w t o.type e i h1 h2 g n cap cur hgg ad m c news hn hc h1c hroom hfit
  unfold Oper.wp execOp
  simp only [hop, resolve, invoke, builtin, Sem.run_bind, Sem.run_pure, Result.andThen_ok, List.map_toArray, List.map_cons, List.map_nil, hs, hx, hrun]
  exact hK

theorem del_row {L : List LtD} {k cap : Nat} {cur C : Array Value} (hk : k < L.length) (hnc : L.length ≤ cap) (hcs : cur.size = cap * 2) (htk : List.take (L.length * 2) cur.toList = lcs L)
    (hC : C = (List.take (k * 2) cur.toList ++ (lcs (List.drop (k + 1) L) ++ List.drop (k * 2 + (lcs (List.drop (k + 1) L)).length) cur.toList)).toArray) :
    List.take ((L.length - 1) * 2) C.toList = lcs (L.eraseIdx k) ∧ C.size = cap * 2 := by
  have e1 : List.take (k * 2) cur.toList = lcs (L.take k) := by
    rw [← lcs_take, ← htk, List.take_take, Nat.min_eq_left (by omega)]
  have e2 : (lcs (L.eraseIdx k)).length = (L.length - 1) * 2 := by rw [lcs_length, List.length_eraseIdx_of_lt hk]
  have e3 : lcs (L.eraseIdx k) = lcs (L.take k) ++ lcs (L.drop (k + 1)) := by rw [List.eraseIdx_eq_take_drop_succ, lcs_append]
  have hl : cur.toList.length = cap * 2 := by rw [Array.length_toList, hcs]
  subst hC
  constructor
  · show List.take _ (_ ++ (_ ++ _)) = _
    rw [e1, ← List.append_assoc, ← e3, ← e2, List.take_left]
  · simp only [List.size_toArray, List.length_append, List.length_take, List.length_drop, lcs_length, hl]
    omega
theorem clear_one (g m c : Nat) (w : World) (cur : Array Value) (hg : w.heap[g]? = some (.cells cur 37 (0, 0))) (hf : m * 2 + 2 ≤ cur.size) :
    ∃ C : Array Value, (∀ ty, (Builtin.clear_ #[31] ty #[.slice (some ⟨g, m * 2, none⟩) 1 c]).run Try.prog w = .ok (.tuple #[]) (w.setRow g C)) ∧ C.size = cur.size ∧ C.toList.take (m * 2) = cur.toList.take (m * 2) := by
  have hst := run_storeCells_at Try.prog g (m * 2) 37 [.int .i64 0, .string ⟨#[]⟩] 0 cur w hg (by simpa using hf) (by simp [Value.oneCell'])
  simp only [Nat.add_zero] at hst
  obtain ⟨C, hC⟩ : ∃ C : Array Value, C = (List.take (m * 2) cur.toList ++ ([.int .i64 0, .string ⟨#[]⟩] : List Value) ++ List.drop (m * 2 + 2) cur.toList).toArray := ⟨_, rfl⟩
  have hst' : (storeCells ⟨g, m * 2, none⟩ (Builtin.zeroCells #[.int .i64 0, .string ⟨#[]⟩] 1).toList 0).run Try.prog w = .ok () (w.setRow g C) := by
    rw [hC, show (Builtin.zeroCells #[Value.int .i64 0, .string ⟨#[]⟩] 1).toList = [Value.int .i64 0, .string ⟨#[]⟩] by simp [Builtin.zeroCells, List.range_succ]]
    exact hst
  have hl : cur.toList.length = cur.size := Array.length_toList
  refine ⟨C, fun ty => ?_, ?_, ?_⟩
  · simp [Builtin.clear_, run_underlying Try.underlying31, Value.cells, Result.andThen, hst']
  · subst hC
    simp only [List.size_toArray, List.length_append, List.length_take, List.length_drop, hl, List.length_cons, List.length_nil]
    omega
  · subst hC
    show List.take _ (_ ++ _ ++ _) = _
    rw [List.append_assoc, List.take_append_of_le_length (by rw [List.length_take, hl]; omega), List.take_take, Nat.min_self]

set_option maxRecDepth 20000 in
set_option maxHeartbeats 1000000 in
theorem delete_any (u : Value) (L : List LtD) (k : Nat) (w : World) (hr : w.ownsRow 0 37 2 u L.length (lcs L)) (hk : k < L.length) (hm : L.length ≤ 3000) :
    Calls Try.prog 30 #[u, .int .i64 (k : Int), .int .i64 ((k : Int) + 1)] w fun e w' => ∃ u', e = .returned u' ∧ u'.ownBlock = u.ownBlock ∧ w'.ownsRow 0 37 2 u' (L.length - 1) (lcs (L.eraseIdx k)) ∧ Only u.ownBlock.toList w w' := by
  rcases hr.2 with ⟨-, h0⟩ | ⟨g, cap, cur, rfl, -, hg, hnc, hcm, hcs, htk⟩
  · omega
  obtain ⟨iL, hi, hz0, hz1, hz2⟩ := info_parts Try.infoLt
  have c1 : (k : Int) ≤ (k : Int) + 1 := by omega
  have c2 : (k : Int) + 1 ≤ (L.length : Int) := by omega
  have c3 : (L.length : Int) ≤ (cap : Int) := by omega
  have c4 : ((k : Int) == (k : Int) + 1) = false := beq_eq_false_iff_ne.2 (by omega)
  obtain ⟨A, hA, hnews⟩ : ∃ A : Addr, (if cap = k + 1 then some (⟨g, 0, none⟩ : Addr) else some ⟨g, (k + 1) * 2, none⟩) = some A ∧ Hid (∀ j u, (lcs (L.drop (k + 1)))[j]? = some u → w.drew.cell? (A.add j) = some u) := by
    by_cases hc : cap = k + 1
    · refine ⟨_, by rw [if_pos hc], fun j u hu => ?_⟩
      rw [List.drop_of_length_le (by omega)] at hu
      simp [lcs] at hu
    · refine ⟨_, by rw [if_neg hc], fun j u hu => ?_⟩
      rw [addr4]
      rw [← lcs_drop, List.getElem?_drop] at hu
      have := hr.cells (g := g) rfl _ _ hu
      rw [addr4, Nat.zero_add] at this
      exact this
  have hgd : w.drew.heap[g]? = some (.cells cur 37 (0, 0)) := hg
  have s1 : Hid ((lcs (L.drop (k + 1))).length = (L.length - (k + 1)) * iL.size) := by show _ = _; rw [lcs_length, List.length_drop, hz1]
  have s2 : Hid (k * iL.size + (lcs (L.drop (k + 1))).length ≤ cur.size) := by show _ ≤ _; rw [lcs_length, List.length_drop, hz1, hcs]; omega
  have s3 : Hid (∀ u ∈ lcs (L.drop (k + 1)), u.oneCell' = true) := lcs_one' _
  have hic : k ≤ cap := by omega
  have hp0 : (0 : Int) ≤ (k : Int) + 1 := by omega
  have hp2 : ((k : Int) + 1).toNat = k + 1 := by omega
  go_enter Try.func30, Try.ntmps30
  go_wp2_with fail
  go_region_law (refine step_app_row (by rfl) (.tmp 22) (.tmp 25) 31 (by rfl) 37 iL Try.underlying31 hi g k cap cur (by simp [Act.eval, Act.put]) hgd A (L.length - (k + 1)) (cap - (k + 1)) (lcs (L.drop (k + 1))) (by simp [Act.eval, Act.put]) s1.out hnews.out s3.out (by omega) s2.out ?_)
  obtain ⟨m, hlm⟩ : ∃ m, L.length = m + 1 := ⟨L.length - 1, by omega⟩
  have hkm : k + (L.length - (k + 1)) = m := by omega
  obtain ⟨C, hC⟩ : ∃ C, C = (List.take (k * 2) cur.toList ++ (lcs (List.drop (k + 1) L) ++ List.drop (k * 2 + (lcs (List.drop (k + 1) L)).length) cur.toList)).toArray := ⟨_, rfl⟩
  obtain ⟨hC1, hC2⟩ := del_row hk hnc hcs htk hC
  have hW1 : (w.drew.setRow g C).heap[g]? = some (.cells C 37 (0, 0)) := setRow_heap w.drew g cur C 37 (0, 0) hgd
  have ho1 : Only [g] w (w.drew.setRow g C) := (Only.drew _ w).trans ⟨rfl, rfl, rfl, by simp, fun j _ hj => setRow_other w.drew g j C (fun e => hj (by simp [e]))⟩
  rw [hlm] at hC1
  rw [hkm, ← hC]
  clear hnews s1 s2 s3 hgd hA hp0 hp2 hic c1 c2 c4 hz0 hz1 hz2 hi hr htk hkm
  generalize w.drew.setRow g C = w1 at *
  obtain ⟨C', hcl, hs', ht'⟩ := clear_one g m (cap - m) w1 C hW1 (by rw [hC2]; omega)
  have HL : Hid (L.length = m + 1) := hlm
  have c9 : (0 : Int) ≤ (m : Int) + 1 ∧ (m : Int) + 1 ≤ (cap : Int) := by omega
  have c8 : ¬ cap = m := by omega
  have hW2 := setRow_heap w1 g C C' 37 (0, 0) hW1
  have ho2 : Only [g] w (w1.setRow g C') := ho1.trans ⟨rfl, rfl, rfl, by simp, fun j _ hj => setRow_other w1 g j C' (fun e => hj (by simp [e]))⟩
  have hfin : (w1.setRow g C').ownsRow 0 37 2 (.slice (some ⟨g, 0, none⟩) m cap) m (lcs (L.eraseIdx k)) :=
    ⟨by rw [lcs_length, List.length_eraseIdx_of_lt hk, hlm]; rfl, .inr ⟨g, cap, C', rfl, Nat.zero_le _, hW2, by omega, hcm, by rw [hs', hC2], by rw [ht']; exact hC1⟩⟩
  clear hW1 hW2 ho1 hC hC1 hC2 hs' ht' hg hcs
  generalize w1.setRow g C' = w2 at *
  rw [hlm]
  clear hlm c3
  go_wp2_with fail
  go_ret
  exact ⟨_, rfl, rfl, by rw [HL.out]; exact hfin, ho2⟩
end Go.Proofs.Ytdkhfehoohiflaa.nt
