/-
  The contract of slices.Delete, of one letter.
-/
import Derived.Test.YtaopfdgebibpeaaNtH
namespace Go.Proofs.Ytaopfdgebibpeaa.nt
open Go.Maps Go.WideShapes Go.RowKit Go.ChangeShapes Go.ChangeAt Go.PlainAid

/-- append where there is room, in a row that is known whole, at a step of a region that draws. -/
theorem step_app_row {P : Program} {ops : Array Oper} {o : Oper} {a : Act} {w : World} {K : Act → World → Prop} {Q : Exit → Act → World → Prop} {E : Prop}
    (hg : o.guard = none) (s x : Operand) (t : TypeId) (hop : o.op = Op.call { callee := Callee.builtin Builtin.append, args := #[s, x], argTypes := #[t, t] })
    (e : TypeId) (i : TypeInfo) (h1 : P.underlying t = some (.slice e)) (h2 : P.info? e = some i)
    (g n cap : Nat) (cur : Array Value) (hs : a.eval s = .slice (some ⟨g, 0, none⟩) n cap) (hgg : w.heap[g]? = some (.cells cur e (0, 0)))
    (ad : Addr) (m c : Nat) (news : List Value) (hx : a.eval x = .slice (some ad) m c) (hn : news.length = m * i.size) (hc : ∀ j u, news[j]? = some u → w.cell? (ad.add j) = some u) (h1c : ∀ u ∈ news, u.oneCell' = true)
    (hroom : n + m ≤ cap) (hfit : n * i.size + news.length ≤ cur.size)
    (hK : K (a.put o.dst (.slice (some ⟨g, 0, none⟩) (n + m) cap)) (w.setRow g (cur.toList.take (n * i.size) ++ news ++ cur.toList.drop (n * i.size + news.length)).toArray)) :
    if Region.wanted o (yielded ops a.tmps) = true then Oper.wp P o a w K Q else E := by
  have hw : Region.wanted o (yielded ops a.tmps) = true := by simp [Region.wanted, hg]
  rw [if_pos hw]
  have hrun := run_append_room (P := P) w t o.type e i h1 h2 g n cap cur hgg ad m c news hn hc h1c hroom hfit
  unfold Oper.wp execOp
  simp only [hop, resolve, invoke, builtin, Sem.run_bind, Sem.run_pure, Result.andThen_ok, List.map_toArray, List.map_cons, List.map_nil, hs, hx, hrun]
  exact hK

theorem del_row {L : List LtD} {k cap : Nat} {cur C : Array Value} (hk : k < L.length) (hnc : L.length ≤ cap) (hcs : cur.size = cap * 2) (htk : List.take (L.length * 2) cur.toList = lcs L)
    (hC : C = (List.take (k * 2) cur.toList ++ (lcs (List.drop (k + 1) L) ++ List.drop (k * 2 + (lcs (List.drop (k + 1) L)).length) cur.toList)).toArray) :
    List.take ((L.length - 1) * 2) C.toList = lcs (L.eraseIdx k) ∧ C.size = cap * 2 := by
  have e1 : List.take (k * 2) cur.toList = lcs (L.take k) := by
    rw [← lcs_take, ← htk, List.take_take, Nat.min_eq_left (by omega)]
  have e2 : (lcs (L.eraseIdx k)).length = (L.length - 1) * 2 := by rw [lcs_length, List.length_eraseIdx_of_lt hk]
  have e3 : lcs (L.eraseIdx k) = lcs (L.take k) ++ lcs (L.drop (k + 1)) := by rw [List.eraseIdx_eq_take_drop_succ, lcs_append]
  have hl : cur.toList.length = cap * 2 := by rw [Array.length_toList, hcs]
  subst hC
  constructor
  · show List.take _ (_ ++ (_ ++ _)) = _
    rw [e1, ← List.append_assoc, ← e3, ← e2, List.take_left]
  · simp only [List.size_toArray, List.length_append, List.length_take, List.length_drop, lcs_length, hl]
    omega
theorem clear_one (g m c : Nat) (w : World) (cur : Array Value) (hg : w.heap[g]? = some (.cells cur 36 (0, 0))) (hf : m * 2 + 2 ≤ cur.size) :
    ∃ C : Array Value, (∀ ty, (Builtin.clear_ #[29] ty #[.slice (some ⟨g, m * 2, none⟩) 1 c]).run Try.prog w = .ok (.tuple #[]) (w.setRow g C)) ∧ C.size = cur.size ∧ C.toList.take (m * 2) = cur.toList.take (m * 2) := by
  have hst := run_storeCells_at Try.prog g (m * 2) 36 [.int .i64 0, .string ⟨#[]⟩] 0 cur w hg (by simpa using hf) (by simp [Value.oneCell'])
  simp only [Nat.add_zero] at hst
  obtain ⟨C, hC⟩ : ∃ C : Array Value, C = (List.take (m * 2) cur.toList ++ ([.int .i64 0, .string ⟨#[]⟩] : List Value) ++ List.drop (m * 2 + 2) cur.toList).toArray := ⟨_, rfl⟩
  have hst' : (storeCells ⟨g, m * 2, none⟩ (Builtin.zeroCells #[.int .i64 0, .string ⟨#[]⟩] 1).toList 0).run Try.prog w = .ok () (w.setRow g C) := by
    rw [hC, show (Builtin.zeroCells #[Value.int .i64 0, .string ⟨#[]⟩] 1).toList = [Value.int .i64 0, .string ⟨#[]⟩] by simp [Builtin.zeroCells, List.range_succ]]
    exact hst
  have hl : cur.toList.length = cur.size := Array.length_toList
  refine ⟨C, fun ty => ?_, ?_, ?_⟩
  · simp [Builtin.clear_, run_underlying Try.underlying29, Value.cells, Result.andThen, hst']
  · subst hC
    simp only [List.size_toArray, List.length_append, List.length_take, List.length_drop, hl, List.length_cons, List.length_nil]
    omega
  · subst hC
    show List.take _ (_ ++ _ ++ _) = _
    rw [List.append_assoc, List.take_append_of_le_length (by rw [List.length_take, hl]; omega), List.take_take, Nat.min_self]

set_option maxRecDepth 20000 in
set_option maxHeartbeats 1000000 in
theorem delete_any (u : Value) (L : List LtD) (k : Nat) (w : World) (hr : w.ownsRow 0 36 2 u L.length (lcs L)) (hk : k < L.length) (hm : L.length ≤ 3000) :
    Calls Try.prog 23 #[u, .int .i64 (k : Int), .int .i64 ((k : Int) + 1)] w fun e w' => ∃ u', e = .returned u' ∧ u'.ownBlock = u.ownBlock ∧ w'.ownsRow 0 36 2 u' (L.length - 1) (lcs (L.eraseIdx k)) ∧ Only u.ownBlock.toList w w' := by
  rcases hr.2 with ⟨-, h0⟩ | ⟨g, cap, cur, rfl, -, hg, hnc, hcm, hcs, htk⟩
  · omega
  obtain ⟨iL, hi, hz0, hz1, hz2⟩ := info_parts Try.infoLt
  have c1 : (k : Int) ≤ (k : Int) + 1 := by omega
  have c2 : (k : Int) + 1 ≤ (L.length : Int) := by omega
  have c3 : (L.length : Int) ≤ (cap : Int) := by omega
  have c4 : ((k : Int) == (k : Int) + 1) = false := beq_eq_false_iff_ne.2 (by omega)
  obtain ⟨A, hA, hnews⟩ : ∃ A : Addr, (if cap = k + 1 then some (⟨g, 0, none⟩ : Addr) else some ⟨g, (k + 1) * 2, none⟩) = some A ∧ Hid (∀ j u, (lcs (L.drop (k + 1)))[j]? = some u → w.drew.cell? (A.add j) = some u) := by
    by_cases hc : cap = k + 1
    · refine ⟨_, by rw [if_pos hc], fun j u hu => ?_⟩
      rw [List.drop_of_length_le (by omega)] at hu
      simp [lcs] at hu
    · refine ⟨_, by rw [if_neg hc], fun j u hu => ?_⟩
      rw [addr4]
      rw [← lcs_drop, List.getElem?_drop] at hu
      have := hr.cells (g := g) rfl _ _ hu
      rw [addr4, Nat.zero_add] at this
      exact this
  have hgd : w.drew.heap[g]? = some (.cells cur 36 (0, 0)) := hg
  have s1 : Hid ((lcs (L.drop (k + 1))).length = (L.length - (k + 1)) * iL.size) := by show _ = _; rw [lcs_length, List.length_drop, hz1]
  have s2 : Hid (k * iL.size + (lcs (L.drop (k + 1))).length ≤ cur.size) := by show _ ≤ _; rw [lcs_length, List.length_drop, hz1, hcs]; omega
  have s3 : Hid (∀ u ∈ lcs (L.drop (k + 1)), u.oneCell' = true) := lcs_one' _
  have hic : k ≤ cap := by omega
  have hp0 : (0 : Int) ≤ (k : Int) + 1 := by omega
  have hp2 : ((k : Int) + 1).toNat = k + 1 := by omega
  go_enter Try.func23, Try.ntmps23
  go_wp2_with fail
  go_region_law (refine step_app_row (by rfl) (.tmp 22) (.tmp 25) 29 (by rfl) 36 iL Try.underlying29 hi g k cap cur (by simp [Act.eval, Act.put]) hgd A (L.length - (k + 1)) (cap - (k + 1)) (lcs (L.drop (k + 1))) (by simp [Act.eval, Act.put]) s1.out hnews.out s3.out (by omega) s2.out ?_)
  obtain ⟨m, hlm⟩ : ∃ m, L.length = m + 1 := ⟨L.length - 1, by omega⟩
  have hkm : k + (L.length - (k + 1)) = m := by omega
  obtain ⟨C, hC⟩ : ∃ C, C = (List.take (k * 2) cur.toList ++ (lcs (List.drop (k + 1) L) ++ List.drop (k * 2 + (lcs (List.drop (k + 1) L)).length) cur.toList)).toArray := ⟨_, rfl⟩
  obtain ⟨hC1, hC2⟩ := del_row hk hnc hcs htk hC
  have hW1 : (w.drew.setRow g C).heap[g]? = some (.cells C 36 (0, 0)) := setRow_heap w.drew g cur C 36 (0, 0) hgd
  have ho1 : Only [g] w (w.drew.setRow g C) := (Only.drew _ w).trans ⟨rfl, rfl, rfl, by simp, fun j _ hj => setRow_other w.drew g j C (fun e => hj (by simp [e]))⟩
  rw [hlm] at hC1
  rw [hkm, ← hC]
  clear hnews s1 s2 s3 hgd hA hp0 hp2 hic c1 c2 c4 hz0 hz1 hz2 hi hr htk hkm
  generalize w.drew.setRow g C = w1 at *
  obtain ⟨C', hcl, hs', ht'⟩ := clear_one g m (cap - m) w1 C hW1 (by rw [hC2]; omega)
  have HL : Hid (L.length = m + 1) := hlm
  have c9 : (0 : Int) ≤ (m : Int) + 1 ∧ (m : Int) + 1 ≤ (cap : Int) := by omega
  have c8 : ¬ cap = m := by omega
  have hW2 := setRow_heap w1 g C C' 36 (0, 0) hW1
  have ho2 : Only [g] w (w1.setRow g C') := ho1.trans ⟨rfl, rfl, rfl, by simp, fun j _ hj => setRow_other w1 g j C' (fun e => hj (by simp [e]))⟩
  have hfin : (w1.setRow g C').ownsRow 0 36 2 (.slice (some ⟨g, 0, none⟩) m cap) m (lcs (L.eraseIdx k)) :=
    ⟨by rw [lcs_length, List.length_eraseIdx_of_lt hk, hlm]; rfl, .inr ⟨g, cap, C', rfl, Nat.zero_le _, hW2, by omega, hcm, by rw [hs', hC2], by rw [ht']; exact hC1⟩⟩
  clear hW1 hW2 ho1 hC hC1 hC2 hs' ht' hg hcs
  generalize w1.setRow g C' = w2 at *
  rw [hlm]
  clear hlm c3
  go_wp2_with fail
  go_ret
  exact ⟨_, rfl, rfl, by rw [HL.out]; exact hfin, ho2⟩
end Go.Proofs.Ytaopfdgebibpeaa.nt

/-
  The contract of Take.
-/
namespace Go.Proofs.Ytaopfdgebibpeaa.nt
open Go.Maps Go.WideShapes Go.RowKit Go.ChangeShapes Go.ChangeAt Go.PlainAid

theorem results_cell2 {P : Program} {fn : Func} {p a : Tmp} {ty : TypeId} (h : fn.results = #[.cell p ty, .tmp a]) (tmps : Array Value) (w : World) (g : Nat) (t : TypeId) (cs : Array Value) (fr : Nat × Nat) (d : TypeDesc)
    (hp : tmps.getD p undef = .pointer (some ⟨g, 0, none⟩)) (hg : w.heap[g]? = some (.cells cs t fr))
    (hu : P.underlying ty = some d) (hd : (match d with | .struct _ | .array _ _ => true | _ => false) = true) (hi : (P.info? ty).map (·.size) = some cs.size) (x : Value) (hx : tmps.getD a undef = x) :
    (results fn tmps).run P w = .ok (.tuple #[.agg cs, x]) w := by
  have hp' : tmps[p]?.getD undef = .pointer (some ⟨g, 0, none⟩) := by simpa using hp
  have hx' : tmps[a]?.getD undef = x := by simpa using hx
  simp [results, h, hp', hx', asAddr, run_loadVar_row w g t ty cs fr d hg hu hd hi]

def noL : LtD := ⟨0, ⟨#[]⟩⟩
/-- What Take gives, answers and leaves. -/
def NtS.tkV (N : NtS) (i : Int) : LtD := if N.hasI i = true then (N.L[i.toNat]?).getD noL else noL
def NtS.tkE (N : NtS) (i : Int) : Int := if N.hasI i = true then 0 else 171
def NtS.tkL (N : NtS) (i : Int) : List LtD := if N.hasI i = true then N.L.eraseIdx i.toNat else N.L

theorem cnt_erase {L : List LtD} {k : Nat} {x : LtD} (h : L[k]? = some x) : cnt (L.eraseIdx k) x + 1 = cnt L x ∧ ∀ y, y ≠ x → cnt (L.eraseIdx k) y = cnt L y := by
  obtain ⟨hk, hx⟩ := List.getElem?_eq_some_iff.1 h
  have e : L = L.take k ++ x :: L.drop (k + 1) := by
    rw [← hx, ← List.drop_eq_getElem_cons hk, List.take_append_drop]
  have e2 : L.eraseIdx k = L.take k ++ L.drop (k + 1) := List.eraseIdx_eq_take_drop_succ ..
  unfold cnt
  refine ⟨?_, fun y hy => ?_⟩
  · rw [e2, List.count_append]
    conv => rhs; rw [e, List.count_append, List.count_cons_self]
    omega
  · rw [e2, List.count_append]
    conv => rhs; rw [e, List.count_append, List.count_cons_of_ne (fun e => hy e.symm)]

/-- Take on its way: the row has gone, the map counts C. -/
structure TkI (w W : World) (N : NtS) (u : Value) (L C : List LtD) (n : Nat) (x : LtD) : Prop where
  bx : W.heap[N.p]? = some (.cells #[.int .i64 N.room, u, .map (some N.mb)] 52)
  row : W.ownsRow 0 36 2 u L.length (lcs L)
  ub : u.ownBlock = N.u.ownBlock
  map : Cnt W N.mb n C
  rb : LB W w.heap.size noL
  lb : LB W (w.heap.size + 1) x
  on : Only N.bl w W
theorem TkI.cells {w W : World} {N : NtS} {u : Value} {L C : List LtD} {n : Nat} {x : LtD} (h : TkI w W N u L C n x) : W.cell? ⟨N.p, 0, none⟩ = some (.int .i64 N.room) ∧ W.cell? ⟨N.p, 1, none⟩ = some u ∧ W.cell? ⟨N.p, 2, none⟩ = some (.map (some N.mb)) :=
  ⟨cell_of_row _ _ 0 _ _ (0, 0) h.bx, cell_of_row _ _ 1 _ _ (0, 0) h.bx, cell_of_row _ _ 2 _ _ (0, 0) h.bx⟩
theorem TkI.drew {w W : World} {N : NtS} {u : Value} {L C : List LtD} {n : Nat} {x : LtD} (h : TkI w W N u L C n x) : TkI w W.drew N u L C n x :=
  ⟨h.bx, own_only h.row (Only.drew [] _) (by simp), h.ub, h.map.only (Only.drew [] _) (by simp), h.rb, h.lb, h.on.trans (Only.drew _ _)⟩
/-- The map alone has turned. -/
theorem TkI.mp {w W W' : World} {N : NtS} {u : Value} {L C C' : List LtD} {n n' : Nat} {x : LtD} (hN : IsNet w N) (h : TkI w W N u L C n x) (ho : Only [N.mb] W W') (hc : Cnt W' N.mb n' C') : TkI w W' N u L C' n' x := by
  have hap := hN.apart
  have hlt := hN.lt N.mb (by simp [NtS.bl])
  refine ⟨only_heap h.bx ho (by simp; exact hap.1), own_only h.row ho (fun g hg => ?_), h.ub, hc, h.rb.only ho (by simp; omega), h.lb.only ho (by simp; omega), h.on.trans (ho.mono (by simp [NtS.bl]))⟩
  rw [h.ub] at hg
  simp
  rintro rfl
  exact hap.2.2 hg

set_option maxRecDepth 20000 in
set_option maxHeartbeats 1000000 in
theorem take_no (N : NtS) (i : Int) (w : World) (h : IsNet w N) (hI : N.hasI i = false) :
    Calls Try.prog 11 #[.pointer (some ⟨N.p, 0, none⟩), .int .i64 i] w fun e w' => e = .returned (.tuple #[noL.v, .int .i64 171]) ∧ Below w.heap.size w w' := by
  have hb : Below w.heap.size w (w.alloc (.cells #[.int .i64 0, .string ⟨#[]⟩] 36)) := (Below.refl _ w).alloc (Nat.le_refl _) _
  have hl := lb_new w noL
  have hh := has_any N i _ (h.below hb)
  rw [hI] at hh
  obtain ⟨y0, y1, y2, y3⟩ := hl.facts
  unfold LtD.v noL at *
  go_enter Try.func11, Try.ntmps11
  go_wp2_with (go_at_call 22; refine hh.mono ?_; rintro e w0 ⟨rfl, rfl⟩)
  refine bodyPost_ret (results_cell2 rfl _ _ w.heap.size 36 _ (0, 0) _ rfl hl Try.underlying36 rfl Try.sizeLt (.int .i64 171) rfl) rfl ?_
  exact ⟨rfl, hb⟩

theorem tk_bx {W W' : World} {N : NtS} {v : Value} (h : IsNet W N) (hu : N.u = v) (ho : Only v.ownBlock.toList W W') : W'.heap[N.p]? = some (.cells #[.int .i64 N.room, N.u, .map (some N.mb)] 52) := by
  rw [← hu] at ho
  exact only_heap h.bx ho (by simp; exact h.apart.2.1)

theorem tk_in {w W2 w3 : World} {N : NtS} {v u' : Value} {k : Nat} {x : LtD} (h : IsNet w N) (hN2 : IsNet W2 N) (hl : LB W2 w.heap.size noL) (hx : LB W2 (w.heap.size + 1) x) (hb : Below w.heap.size w W2) (hu : N.u = v) (hk : k < N.L.length)
    (hub : u'.ownBlock = v.ownBlock) (hr : w3.ownsRow 0 36 2 u' (N.L.length - 1) (lcs (N.L.eraseIdx k))) (ho : Only v.ownBlock.toList W2 w3) (hbx : w3.heap[N.p]? = some (.cells #[.int .i64 N.room, N.u, .map (some N.mb)] 52)) :
    TkI w (w3.setCell ⟨N.p, 1, none⟩ u') N u' (N.L.eraseIdx k) N.L N.n x := by
  subst hu
  have hap := h.apart
  have hlt := h.lt
  have hp := hlt N.p (by simp [NtS.bl])
  have hmb := hlt N.mb (by simp [NtS.bl])
  have o2 : Only [N.p] w3 (w3.setCell ⟨N.p, 1, none⟩ u') := Only.setCell w3 (p := ⟨N.p, 1, none⟩) (by simp) _
  have hg : ∀ g, N.u.ownBlock = some g → g < w.heap.size := fun g hg => hlt g (by simp [NtS.bl, hg])
  refine ⟨heap_setCell hbx 1 _, ?_, hub, ?_, ?_, ?_, ?_⟩
  · have := own_only hr o2 (fun g hg => by rw [hub] at hg; simp; rintro rfl; exact hap.2.1 hg)
    rw [List.length_eraseIdx_of_lt hk]
    exact this
  · exact (hN2.map.only ho (by simp; exact hap.2.2)).only o2 (by simp; exact fun e => hap.1 e.symm)
  · exact (hl.only ho (by simp; intro e; have := hg _ e; omega)).only o2 (by simp; omega)
  · exact (hx.only ho (by simp; intro e; have := hg _ e; omega)).only o2 (by simp; omega)
  · exact ((Only.of_below hb).trans (ho.mono (fun j hj => by simp at hj; simp [NtS.bl, hj]))).trans (o2.mono (by simp [NtS.bl]))

theorem tk_out {w W W' : World} {N : NtS} {u : Value} {k : Nat} {x y : LtD} (h : IsNet w N) (hk : k < N.L.length) (hj : TkI w W N u (N.L.eraseIdx k) (N.L.eraseIdx k) (N.n + 1) x) (hb : Below W.heap.size W W') :
    ∃ N', Aft w ((W'.setCell ⟨w.heap.size, 0, none⟩ (.int .i64 y.to)).setCell ⟨w.heap.size, 1, none⟩ (.string y.t)) N (N.L.eraseIdx k) N' := by
  have hlt := h.lt
  have hap := h.apart
  have hp := hlt N.p (by simp [NtS.bl])
  have hmb := hlt N.mb (by simp [NtS.bl])
  have o2 : Only [w.heap.size] W' ((W'.setCell ⟨w.heap.size, 0, none⟩ (.int .i64 y.to)).setCell ⟨w.heap.size, 1, none⟩ (.string y.t)) := (Only.setCell (p := ⟨w.heap.size, 0, none⟩) W' (by simp) _).trans (Only.setCell (p := ⟨w.heap.size, 1, none⟩) _ (by simp) _)
  have o1 : Only [w.heap.size] W ((W'.setCell ⟨w.heap.size, 0, none⟩ (.int .i64 y.to)).setCell ⟨w.heap.size, 1, none⟩ (.string y.t)) := (Only.of_below hb).trans o2
  refine ⟨{ N with u := u, L := N.L.eraseIdx k, n := N.n + 1 }, ⟨only_heap hj.bx o1 (by simp; omega), own_only hj.row o1 (fun g hg => ?_), hj.map.only o1 (by simp; omega), fun z hz => h.ok z ((List.eraseIdx_sublist _ _).subset hz), h.rm, ?_⟩, rfl, rfl, rfl, rfl, Nat.le_refl _, ?_, ?_⟩
  · rw [hj.ub] at hg
    have := hlt g (by simp [NtS.bl, hg])
    simp; omega
  · have := h.len
    show (((N.L.eraseIdx k).length : Nat) : Int) ≤ N.room
    rw [List.length_eraseIdx_of_lt hk]
    omega
  · exact hj.on.new o1 (fun i hi => .inr (by simp at hi; omega))
  · intro g hg
    exact .inl (by rw [hj.ub] at hg; simp [NtS.bl, hg])

set_option maxRecDepth 20000 in
set_option maxHeartbeats 1000000 in
theorem take_ok (N : NtS) (k : Nat) (x : LtD) (w : World) (h : IsNet w N) (hx : N.L[k]? = some x) (hn : N.n < 1152921504606846976) :
    Calls Try.prog 11 #[.pointer (some ⟨N.p, 0, none⟩), .int .i64 (k : Int)] w fun e w' => e = .returned (.tuple #[x.v, .int .i64 0]) ∧ ∃ N', Aft w w' N (N.L.eraseIdx k) N' := by
  obtain ⟨hk, hxe⟩ := List.getElem?_eq_some_iff.1 hx
  have hk' : (k : Int) < (N.L.length : Int) := by omega
  have hSm : x.Sm := h.ok x (by rw [← hxe]; simp)
  have hlen : N.L.length ≤ 3000 := by have := h.len; have := h.rm; omega
  have hb : Below w.heap.size w (w.alloc (.cells #[.int .i64 0, .string ⟨#[]⟩] 36)) := (Below.refl _ w).alloc (Nat.le_refl _) _
  have hl := lb_new w noL
  have hN1 := h.below hb
  have hh := has_any N (k : Int) _ hN1
  rw [hasI_iff.2 ⟨by omega, hk'⟩] at hh
  have hs1 : (w.alloc (.cells #[.int .i64 0, .string ⟨#[]⟩] 36)).heap.size = w.heap.size + 1 := by simp
  have hx2 := lb_new (w.alloc (.cells #[.int .i64 0, .string ⟨#[]⟩] 36)) x
  rw [hs1] at hx2
  have hb2 : Below w.heap.size w ((w.alloc (.cells #[.int .i64 0, .string ⟨#[]⟩] 36)).alloc (.cells #[.int .i64 x.to, .string x.t] 36)) := hb.alloc (by simp) _
  have hl2 := hl.alloc (.cells #[.int .i64 x.to, .string x.t] 36)
  have hN2 := h.below hb2
  have hdl := fun W hr => delete_any N.u N.L k W hr hk hlen
  obtain ⟨-, c1, -, -⟩ := hN1.cells
  obtain ⟨-, c2, -, c3⟩ := hN2.cells
  obtain ⟨ao, cp, hu⟩ := own_form h.row
  obtain ⟨b, off, rfl, hbw, d0, d1⟩ := rdl_cells hu (rdl_own hN1.row) hx
  rw [hu] at c1 c2 hdl
  have HU : Hid (N.u = .slice (some ⟨b, off, none⟩) N.L.length cp) := hu
  clear hu
  go_enter Try.func11, Try.ntmps11
  go_wp2_with (first | (go_at_call 22; refine hh.mono ?_; rintro e w0 ⟨rfl, rfl⟩) | (go_at_call 23; refine (hdl _ (by have := hN2.row; rw [HU.out] at this; exact this)).mono ?_; rintro e w3 ⟨u', rfl, hub, hrow3, ho3⟩; obtain ⟨a9, c9, rfl⟩ := own_form hrow3; have hbx3 := tk_bx hN2 HU.out ho3; obtain ⟨-, f1, f2, f3⟩ := IsNet.cells_of hbx3))
  have hI : TkI w (w3.setCell ⟨N.p, 1, none⟩ (.slice a9 (N.L.length - 1) c9)) N (.slice a9 (N.L.length - 1) c9) (N.L.eraseIdx k) N.L N.n x := tk_in h hN2 hl2 hx2 hb2 HU.out hk hub hrow3 ho3 hbx3
  generalize Value.slice a9 (N.L.length - 1) c9 = u9 at *
  generalize w3.setCell ⟨N.p, 1, none⟩ u9 = w4 at *
  clear hb hl hN1 hh hs1 hx2 hb2 hl2 hN2 hdl c1 c2 c3 d0 d1 hbw hub hrow3 ho3 hbx3 f1 f2 f3
  obtain ⟨e1, e2⟩ := cnt_erase hx
  have hcl := cnt_le N.L x
  have hI5 := hI.drew
  have hlk := hI5.map.look hSm.wf
  obtain ⟨v0, st, w5, hE, ho5, hC5, w6, hS, hM6, ho6⟩ := hI5.map.put (M := N.L.eraseIdx k) (by unfold maxLen; omega) hSm.wf e2 (by omega)
  have hj : TkI w w5 N u9 (N.L.eraseIdx k) N.L (N.n + 1) x := hI5.mp h ho5 hC5
  have hj6 : TkI w w6 N u9 (N.L.eraseIdx k) (N.L.eraseIdx k) (N.n + 1) x := hI5.mp h ho6 hM6
  have hlk5 := hC5.look hSm.wf
  have eN : (cnt (N.L.eraseIdx k) x : Int) = (cnt N.L x : Int) - 1 := by omega
  rw [eN] at hS
  have hS' : (Instr.entryStore 50 (.map (some N.mb)) (.int .i64 st) (.int .i64 ((cnt N.L x : Int) - 1))).run Try.prog w5 = .ok () w6 := hS
  unfold LtD.v at hE hlk hlk5
  have hE' : (Instr.mapEntry 50 (.map (some N.mb)) (.agg #[.int .i64 x.to, .string x.t])).run Try.prog w4.drew = .ok (.tuple #[v0, .int .i64 st]) w5 := hE
  obtain ⟨-, -, d2⟩ := hI.cells
  obtain ⟨-, -, g2⟩ := hj.cells
  obtain ⟨y0, y1, -, -⟩ := hI.lb.facts
  obtain ⟨z0, z1, -, -⟩ := hj.lb.facts
  clear hE hS e1 e2
  go_region
  clear hE' hS' hlk hlk5 hI hI5 hj ho5 hC5 ho6 hM6 d2 g2 y0 y1 z0 z1 eN
  have hj7 := hj6.drew
  have hlk := hj7.map.look hSm.wf
  have hcp := fun W => copyOf_any x W (by have := hSm.2; omega)
  obtain ⟨-, -, d2⟩ := hj6.cells
  obtain ⟨y0, y1, -, -⟩ := hj6.lb.facts
  unfold LtD.v at hlk hcp
  by_cases hz : cnt (N.L.eraseIdx k) x = 0
  · rw [hz] at hlk
    go_wp2_with fail
    go_region
    obtain ⟨w8, hd8, hc8, ho8⟩ := hj7.drew.map.drop hSm.wf hz 0
    have hj8 := hj7.drew.mp h ho8 hc8
    unfold LtD.v at hd8
    clear hlk hz hj6
    generalize w6.drew = w7 at *
    obtain ⟨-, -, d2⟩ := hj7.cells
    obtain ⟨y0, y1, -, -⟩ := hj7.lb.facts
    go_wp2_with fail
    go_region
    obtain ⟨y0, y1, -, -⟩ := hj8.lb.facts
    clear hd8 hc8 ho8 d2 hj7
    go_wp2_with (go_at_call 24; refine (hcp _).mono ?_; rintro e w9 ⟨rfl, hb8⟩; obtain ⟨z0, z1, z2, z3⟩ := (hj8.rb.below hb8).facts)
    refine bodyPost_ret (results_cell2 rfl _ _ w.heap.size 36 _ (0, 0) _ rfl (LB.set (hj8.rb.below hb8) x) Try.underlying36 rfl Try.sizeLt (.int .i64 0) rfl) rfl ?_
    exact ⟨rfl, tk_out h hk hj8 hb8⟩
  · have hz' : (((cnt (N.L.eraseIdx k) x : Nat) : Int) == 0) = false := beq_eq_false_iff_ne.2 (by omega)
    go_wp2_with fail
    go_region
    obtain ⟨y0, y1, -, -⟩ := hj7.lb.facts
    clear hlk d2 hz hz' hj6
    generalize w6.drew = w7 at *
    go_wp2_with (go_at_call 24; refine (hcp _).mono ?_; rintro e w8 ⟨rfl, hb8⟩; obtain ⟨z0, z1, z2, z3⟩ := (hj7.rb.below hb8).facts)
    refine bodyPost_ret (results_cell2 rfl _ _ w.heap.size 36 _ (0, 0) _ rfl (LB.set (hj7.rb.below hb8) x) Try.underlying36 rfl Try.sizeLt (.int .i64 0) rfl) rfl ?_
    exact ⟨rfl, tk_out h hk hj7 hb8⟩

theorem take_any (N : NtS) (i : Int) (w : World) (h : IsNet w N) (hn : N.n < 1152921504606846976) :
    Calls Try.prog 11 #[.pointer (some ⟨N.p, 0, none⟩), .int .i64 i] w fun e w' => e = .returned (.tuple #[(N.tkV i).v, .int .i64 (N.tkE i)]) ∧ ∃ N', Aft w w' N (N.tkL i) N' := by
  by_cases hI : N.hasI i = true
  · obtain ⟨k, rfl⟩ := Int.eq_ofNat_of_zero_le (hasI_iff.1 hI).1
    have hk : k < N.L.length := by have := (hasI_iff.1 hI).2; omega
    have e1 : N.tkV k = N.L[k] := by unfold NtS.tkV; rw [if_pos hI]; simp [hk]
    have e2 : N.tkE k = 0 := by unfold NtS.tkE; rw [if_pos hI]
    have e3 : N.tkL k = N.L.eraseIdx k := by unfold NtS.tkL; rw [if_pos hI]; simp
    rw [e1, e2, e3]
    exact take_ok N k N.L[k] w h (by simp [hk]) hn
  · have hI' : N.hasI i = false := by simpa using hI
    have e1 : N.tkV i = noL := by unfold NtS.tkV; rw [if_neg hI]
    have e2 : N.tkE i = 171 := by unfold NtS.tkE; rw [if_neg hI]
    have e3 : N.tkL i = N.L := by unfold NtS.tkL; rw [if_neg hI]
    rw [e1, e2, e3]
    refine (take_no N i w h hI').mono ?_
    rintro e w1 ⟨rfl, hb⟩
    exact ⟨rfl, N, Aft.same h hb⟩
end Go.Proofs.Ytaopfdgebibpeaa.nt

/-
  The contract of All.
-/
namespace Go.Proofs.Ytaopfdgebibpeaa.nt
open Go.Maps Go.WideShapes Go.RowKit Go.ChangeShapes Go.ChangeAt Go.PlainAid

theorem make_lt (n : Nat) (hn : n ≤ 3000) : ∃ Z : Array Value, Z.size = n * 2 ∧ ∀ W : World, (Instr.makeSlice 29 (.int .i64 (n : Int)) (.int .i64 (n : Int))).run Try.prog W = .ok (.slice (some ⟨W.heap.size, 0, none⟩) n n) (W.alloc (.cells Z 36)) := by
  obtain ⟨i0, hi, hz0, hz1, hz2⟩ := info_parts Try.infoLt
  refine ⟨madeCells (Value.agg #[.int .i64 0, .string ⟨#[]⟩]).cells (n * i0.size), ?_, fun W => ?_⟩
  rotate_left
  · have h := run_make (P := Try.prog) W 29 36 i0 _ Try.underlying29 hi hz0 .i64 .i64 (n : Int) (n : Int) (by omega) (by omega) (by rw [hz2]; omega) (by omega)
    simpa using h
  · simp [size_madeCells, hz1]
/-- The first k letters of L lie in the cells. -/
def Filled (C : Array Value) (L : List LtD) (k : Nat) : Prop := ∀ j x, j < k → L[j]? = some x → C[j * 2]? = some (.int .i64 x.to) ∧ C[j * 2 + 1]? = some (.string x.t)
theorem Filled.put {C : Array Value} {L : List LtD} {k : Nat} {x : LtD} (h : Filled C L k) (hx : L[k]? = some x) (hs : k * 2 + 2 ≤ C.size) : Filled ((C.setIfInBounds (k * 2) (.int .i64 x.to)).setIfInBounds (k * 2 + 1) (.string x.t)) L (k + 1) := by
  intro j y hj hy
  by_cases e : j = k
  · subst e
    rw [hx] at hy
    cases hy
    constructor
    · rw [Array.getElem?_setIfInBounds_ne (by omega), Array.getElem?_setIfInBounds_self_of_lt (by omega)]
    · rw [Array.getElem?_setIfInBounds_self_of_lt (by simp; omega)]
  · obtain ⟨h1, h2⟩ := h j y (by omega) hy
    exact ⟨by rw [Array.getElem?_setIfInBounds_ne (by omega), Array.getElem?_setIfInBounds_ne (by omega)]; exact h1, by rw [Array.getElem?_setIfInBounds_ne (by omega), Array.getElem?_setIfInBounds_ne (by omega)]; exact h2⟩
theorem Filled.all {C : Array Value} {L : List LtD} (h : Filled C L L.length) (hs : C.size = L.length * 2) : C.toList.take (L.length * 2) = lcs L := by
  rw [List.take_of_length_le (by rw [Array.length_toList]; omega)]
  apply List.ext_getElem?
  intro i
  rw [Array.getElem?_toList]
  by_cases hi : i < L.length * 2
  · have hj : i / 2 < L.length := by omega
    have hx : L[i / 2]? = some L[i / 2] := by simp [hj]
    obtain ⟨h1, h2⟩ := h (i / 2) L[i / 2] hj hx
    obtain ⟨g1, g2⟩ := lcs_at L (i / 2) L[i / 2] hx
    rcases Nat.mod_two_eq_zero_or_one i with e | e
    · rw [show i / 2 * 2 = i by omega] at h1 g1
      rw [h1, g1]
    · rw [show i / 2 * 2 + 1 = i by omega] at h2 g2
      rw [h2, g2]
  · rw [Array.getElem?_eq_none (by omega), List.getElem?_eq_none (by rw [lcs_length]; omega)]

theorem row_facts {W : World} {g n k : Nat} {C : Array Value} (h : W.heap[g]? = some (.cells C 36 (0, 0))) (hs : C.size = n * 2) (hk : k < n) :
    (∃ v, W.cell? ⟨g, k * 2, none⟩ = some v) ∧ (∃ v, W.cell? ⟨g, k * 2 + 1, none⟩ = some v) ∧ W.frozen? ⟨g, k * 2, none⟩ = false ∧ W.frozen? ⟨g, k * 2 + 1, none⟩ = false := by
  have h1 := cell_of_row W g (k * 2) C 36 (0, 0) h
  have h2 := cell_of_row W g (k * 2 + 1) C 36 (0, 0) h
  refine ⟨⟨C[k * 2]'(by omega), by rw [h1]; simp [show k * 2 < C.size by omega]⟩, ⟨C[k * 2 + 1]'(by omega), by rw [h2]; simp [show k * 2 + 1 < C.size by omega]⟩, by simp [World.frozen?, h], by simp [World.frozen?, h]⟩

end Go.Proofs.Ytaopfdgebibpeaa.nt

/-
  The contracts of pick and begun, and of the reference's New.
-/
namespace Go.Proofs.Ytaopfdgebibpeaa.nt
open Go.Maps Go.WideShapes Go.RowKit Go.ChangeShapes Go.ChangeAt Go.PlainAid

/-- A net that was made behind the world w. -/
structure Fr (w W : World) (N : NtS) : Prop where
  bel : Below w.heap.size w W
  net : IsNet W N
  new : ∀ b ∈ N.bl, w.heap.size ≤ b
theorem Fr.aft {w W W' : World} {N N' : NtS} {L : List LtD} (h : Fr w W N) (ha : Aft W W' N L N') : Fr w W' N' := by
  refine ⟨h.bel.trans (ha.on.below h.bel.size h.new), ha.net, fun b hb => ?_⟩
  rcases ha.bl b hb with hb | hb
  · exact h.new b hb
  · have := h.bel.size; omega
theorem Fr.below {w W W' : World} {N : NtS} (h : Fr w W N) (hb : Below W.heap.size W W') : Fr w W' N := ⟨chain h.bel hb, h.net.below hb, h.new⟩
theorem grow1 (w : World) (o : Obj) : Below w.heap.size w (w.alloc o) := (Below.refl _ _).alloc (Nat.le_refl _) _
theorem new_fr (room : Int) (w : World) (h1 : 1 ≤ room) (h2 : room ≤ 3000) : Calls Try.prog 4 #[.int .i64 room] w fun e w' =>
    ∃ N, e = .returned (.tuple #[.pointer (some ⟨N.p, 0, none⟩), .int .i64 0]) ∧ N.room = room ∧ N.L = [] ∧ N.n = 0 ∧ Fr w w' N := by
  refine (new_ok room w h1 h2).mono ?_
  rintro e w1 ⟨rfl, hN, hb⟩
  exact ⟨_, rfl, rfl, rfl, rfl, hb, hN, fun b hb => by simp [NtS.bl, Value.ownBlock] at hb; omega⟩

/-- What pick gives. -/
def pickD (c : Int) (n : Nat) : Nat := (if c < 0 then -(c + 1) else c).toNat % n
set_option maxRecDepth 20000 in
theorem pick_any (c : Int) (n : Nat) (w : World) (h0 : 0 < n) (hn : n ≤ 9223372036854775807) (b0 : -9223372036854775808 ≤ c) (b1 : c ≤ 9223372036854775807) :
    Calls Try.prog 8 #[.int .i64 c, .int .i64 (n : Int)] w fun e w' => e = .returned (.int .i64 (pickD c n : Int)) ∧ w' = w := by
  have hn0 : ¬ (n : Int) = 0 := by omega
  by_cases hc : c < 0
  · obtain ⟨p, hp⟩ : ∃ p : Nat, -(c + 1) = (p : Int) := ⟨(-(c + 1)).toNat, by omega⟩
    have hm : (p : Int).tmod (n : Int) = ((p % n : Nat) : Int) := rfl
    have hm2 : (p : Int) % (n : Int) = ((p % n : Nat) : Int) := by simp
    have hE : Hid (pickD c n = p % n) := by show _ = _; unfold pickD; rw [if_pos hc, hp]; rfl
    generalize p % n = q at *
    clear hm2
    go_enter Try.func8, Try.ntmps8
    go_wp2
    go_ret
    rw [hE.out]
    exact ⟨rfl, rfl⟩
  · obtain ⟨p, rfl⟩ : ∃ p : Nat, c = (p : Int) := ⟨c.toNat, by omega⟩
    have hm : (p : Int).tmod (n : Int) = ((p % n : Nat) : Int) := rfl
    have hE : Hid (pickD p n = p % n) := by show _ = _; unfold pickD; rw [if_neg hc]; rfl
    generalize p % n = q at *
    go_enter Try.func8, Try.ntmps8
    go_wp2
    go_ret
    rw [hE.out]
    exact ⟨rfl, rfl⟩

def bL : LtD := ⟨3, ⟨#[98]⟩⟩
theorem sd_begun {N : NtS} (hr : N.room = 2) (hL : N.L = []) : N.sdE bL = 0 ∧ N.sdL bL = [bL] := by
  have e : N.sdE bL = 0 := by
    unfold NtS.sdE
    rw [if_neg (by simp [bL]), if_neg (by decide), if_neg (by rw [hL, hr]; simp)]
  exact ⟨e, by unfold NtS.sdL; rw [e, hL]; rfl⟩
theorem db_begun {N : NtS} (hr : N.room = 2) (hL : N.L = [bL]) : N.dbE 0 = 0 ∧ N.dbL 0 = [bL, bL] := by
  have e : N.dbE 0 = 0 := by
    unfold NtS.dbE
    rw [if_pos (hasI_iff.2 ⟨by omega, by rw [hL]; decide⟩), if_neg (by rw [hL, hr]; decide)]
  exact ⟨e, by unfold NtS.dbL; rw [e, hL]; rfl⟩
theorem tk_begun {N : NtS} (hL : N.L = [bL, bL]) : N.tkV 0 = bL ∧ N.tkE 0 = 0 ∧ N.tkL 0 = [bL] := by
  have e : N.hasI 0 = true := hasI_iff.2 ⟨by omega, by rw [hL]; decide⟩
  exact ⟨by unfold NtS.tkV; rw [if_pos e, hL]; rfl, by unfold NtS.tkE; rw [if_pos e], by unfold NtS.tkL; rw [if_pos e, hL]; rfl⟩

set_option maxRecDepth 20000 in
set_option maxHeartbeats 1000000 in
theorem begun_any (w : World) : Calls Try.prog 5 #[] w fun e w' => e = .returned (.bool true) ∧ Below w.heap.size w w' := by
  have c1 := new_fr 2 w (by decide) (by decide)
  go_enter Try.func5, Try.ntmps5
  go_wp2_with fail
  refine c1.mono ?_
  rintro e w1 ⟨N1, rfl, r1, L1, n1, f1⟩
  have c2 := send_any N1 bL w1 f1.net (by omega)
  rw [(sd_begun r1 L1).1, (sd_begun r1 L1).2] at c2
  unfold LtD.v bL at c2
  clear c1
  go_wp2_with fail
  refine c2.mono ?_
  rintro e w2 ⟨rfl, N2, a2⟩
  have f2 := f1.aft a2
  have r2 := a2.room.trans r1
  have c3 := double_any N2 0 w2 f2.net (by have := a2.n; omega)
  rw [(db_begun r2 a2.L).1, (db_begun r2 a2.L).2, a2.p] at c3
  clear c2
  go_wp2_with fail
  refine c3.mono ?_
  rintro e w3 ⟨rfl, N3, a3⟩
  have f3 := f2.aft a3
  have p3 := a3.p.trans a2.p
  have c4 := len_any N3 w3 f3.net
  rw [a3.L, p3] at c4
  clear c3
  go_wp2_with fail
  refine c4.mono ?_
  rintro e w4 ⟨rfl, rfl⟩
  have c5 := take_any N3 0 w4 f3.net (by have := a3.n; have := a2.n; omega)
  rw [(tk_begun a3.L).1, (tk_begun a3.L).2.1, (tk_begun a3.L).2.2, p3] at c5
  unfold LtD.v bL at c5
  clear c4
  go_wp2_with fail
  refine c5.mono ?_
  rintro e w5 ⟨rfl, N5, a5⟩
  have f5 := f3.aft a5
  have p5 := a5.p.trans p3
  have hb6 := grow1 w5 (.cells #[.int .i64 3, .string ⟨#[98]⟩] 36)
  have c6 := len_any N5 _ (f5.below hb6).net
  rw [a5.L, p5] at c6
  clear c5
  have hB := (f5.below hb6).bel
  go_wp2_with fail
  refine c6.mono ?_
  rintro e w6 ⟨rfl, rfl⟩
  go_wp2_with fail
  go_ret
  exact ⟨rfl, hB⟩

end Go.Proofs.Ytaopfdgebibpeaa.nt
